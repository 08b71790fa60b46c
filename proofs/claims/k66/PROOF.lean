import PyProof.Rows.All
import Wide.All
import OpenK.AllK
import Wide.FinOn
import Lean
import PyProof.EqAt
import PyProof.EqKinds
import PyProof.TupleCall
import PySem.Challenge.RW_farhold_k66_whole_desk
set_option linter.all false
set_option compiler.extract_closed false
set_option bootstrap.genMatcherCode false
set_option genSizeOfSpec false
namespace Lake
end Lake
open Lake
set_option genInjectivity false
def AA:=@Nat.le_trans
def AD:=@if_neg
def AE:=@List.mem_filter
def AF:=@if_pos
def AG:=@decide_eq_false
def AH:=@Nat.lt_of_le_of_lt
def AI:=@decide_eq_true
def AJ:=@Int.le_refl
def AM:=@List.append_nil
def AN:=@List.mem_map
def AO:=@List.map_cons
def AQ:=@Bool.false_ne_true
def AR:=@Int.natCast_nonneg
def AS:=@List.nodup_append
def AU:=@PySem.Heap.lt_size
def AV:=@Nat.le_of_lt
def AX:=@Nat.zero_le
def AY:=@List.append_assoc
def AZ:=@List.map_map
def A_:=@List.length_cons
def BC:=@List.nodup_cons
def BD:=@Nat.le_add_right
def BE:=@List.length_filter_le
def BG:=@List.size_toArray
def BH:=@List.mem_of_find?_eq_some
def BI:=@of_decide_eq_true
def BK:=@List.mem_map_of_mem
def BL:=@List.mem_range
def BN:=@Int.toNat_of_nonneg
def BO:=@List.mem_cons
def BP:=@List.find?_eq_none
def BQ:=@Nat.le_of_eq
def BR:=@List.length_nil
def BS:=@List.length_eq_zero_iff
def BU:=@Nat.ne_of_lt
def BW:=@Int.le_add_one
def BY:=@Int.le_trans
def B_:=@List.take_length
def CA:=@List.not_mem_nil
def CB:=@Nat.le_succ_of_le
def CC:=@PySem.Heap.get?_update_other
def CJ:=@PySem.boot_len
def CK:=@Nat.lt_of_lt_of_le
def CL:=@Nat.le_of_succ_le
def CM:=@Option.map_eq_some_iff
def CN:=@List.find?_cons
def CO:=@List.length_take
def CQ:=@PySem.sizeLine_eq
def CS:=@Int.toNat_natCast
def CT:=@Nat.le_add_left
def CU:=@PyProof.Rows.boot_str
def CV:=@Nat.not_lt
def CY:=@List.flatMap_append
def CZ:=@List.sum_cons
def C_:=@List.map_congr_left
def DA:=@PySem.wpAny_newObj_type
def DB:=@PySem.wpAny_call_entry
def DC:=@PySem.wpAny_field
def DE:=@List.take_add_one
def DF:=@List.flatMap_cons
def DG:=@PySem.F.plainAttrs_list
def DH:=@List.mem_iff_getElem?
def DI:=@List.pairwise_cons
def DK:=@PySem.wpAny_dictEntries
def DL:=@List.length_range
def DM:=@List.mem_singleton
def DN:=@Bool.false_eq_true
def DO:=@Nat.le_succ
def DP:=@PySem.F.plainAttrs_dict
def DR:=@Array.length_toList
def DU:=@Int.ofNat_lt
def DV:=@List.nodup_nil
def DX:=@PyProof.Rows.boot_sorted
def DY:=@List.getElem?_eq_none
def DZ:=@PySem.wpAny_setField_rec
def D_:=@Nat.le_antisymm
def EB:=@List.mem_flatMap
def ED:=@PySem.wpAny_callSpecial?_slot
def EG:=@Int.emod_nonneg
def EH:=@Nat.lt_irrefl
def EI:=@PySem.F.type_list_append
def EJ:=@PySem.F.slot_list_append
def EK:=@beq_eq_false_iff_ne
def EO:=@PySem.wpAny_holding
def ET:=@PySem.Heap.get?_update_self
def EV:=@Nat.mul_le_mul_right
def EW:=@Array.getElem?_eq_some_iff
def EX:=@List.find?_some
def EY:=@Nat.ne_of_gt
def EZ:=@List.map_nil
def E_:=@List.filter_cons
def FC:=@PySem.F.plainAttrs_str
def FF:=@PySem.Obj.data_mapFields
def FG:=@Int.le_add_of_nonneg_left
def FL:=@Nat.lt_succ_of_le
def FO:=@PySem.F.slot_dict_get
def FR:=@PySem.wpAny_mono
def FU:=@List.range_succ
def FZ:=@Int.lt_of_le_of_lt
def F':=@or_false
def GA:=@if_false
def GB:=@PySem.W.mg_none_of
def GC:=@Int.ofNat_le
def GJ:=@List.getElem?_append_left
def GK:=@List.filterMap_eq_nil_iff
def GN:=@List.take_append_drop
def GO:=@List.length_singleton
def GQ:=@PySem.Calls.callWith_builtin
def GW:=@Bool.and_eq_true
def GX:=@Int.emod_lt_of_pos
def GY:=@PySem.wpAny_dictEpoch
def HD:=@PySem.tupleKind_room_in1
def HG:=@Nat.le_of_lt_succ
def HH:=@List.pairwise_map
def HI:=@PyProof.Rows.boot_tuple
def HJ:=@PySem.StrLaws.join_length_le
def HK:=@PySem.Calls.evalArgs_plain
def HR:=@List.lookup_cons
def HU:=@List.append_of_mem
def HV:=@List.exists_cons_of_ne_nil
def HX:=@if_true
def HY:=@PySem.F.plain_extend_loop
def HZ:=@PySem.Calls.spliced_cons
def IG:=@List.filter_sublist
def IH:=@List.filter_eq_self
def II:=@List.filterMap_cons
def IP:=@Nat.not_lt_of_le
def IQ:=@PySem.Obj.data_mapDictKeys
def IY:=@Int.not_lt
def IZ:=@PySem.F.type_str_split
def I_:=@PySem.F.slot_str_split
def JA:=@PySem.F.entry_dict_get
def JB:=@List.take_of_length_le
def JC:=@List.getElem?_set_self
def JF:=@PySem.wpAny_setField
def JG:=@PySem.wpAny_typeNameOfWhole_itemiter
def JH:=@List.perm_append_comm
def JI:=@List.length_replicate
def JL:=@PySem.wpAny_typeNameOfWhole_keyiter
def JM:=@PyProof.Rows.callWith_type1
def JN:=@PySem.F.slot_dict_itemiterator_next
def JO:=@PySem.codeAny_mono
def JP:=@PySem.wpAny_passesOwn
def JQ:=@Bool.and_eq_true_iff
def JR:=@List.getElem?_append_right
def JS:=@List.getD_eq_getElem?_getD
def JT:=@PySem.F.slot_dict_keyiterator_next
def JV:=@PySem.W.kia_one
def JW:=@PySem.wpAny_attempt
def JZ:=@Int.le_of_eq
def J_:=@beq_self_eq_true
def J':=@List.flatMap_nil
def KA:=@List.any_eq_true
def KC:=@PySem.wpAny_notOrdered_dict
def KD:=@PySem.Obj.isFreed_of_fields
def KI:=@PySem.W.mg_of
def KJ:=@PySem.wpAny_truthy_bool
def KL:=@PySem.Calls.spliced_nil
def KO:=@PySem.mem_of_lookup
def KP:=@Array.toList_append
def KU:=@PySem.wpAny_seqItems
def KW:=@PySem.Heap.size_push
def KY:=@PySem.F.slot_dict_values
def KZ:=@Option.isSome_iff_exists
def K_:=@PySem.F.slot_tuple_iterator_next
def K':=@Nat.lt_of_le_of_ne
def LA:=@List.mem_filterMap
def LB:=@List.filter_append
def LM:=@List.sum_nil
def LN:=@List.map_id'
def LO:=@Nat.add_le_add
def LP:=@List.filter_congr
def LQ:=@PySem.wpAny_typeNameOf_keyiter
def LR:=@List.length_pos_of_mem
def LU:=@List.Perm.append_right
def LZ:=@PySem.size_of_entries
def MC:=@PySem.wpAny_Call_Name_kw
def MF:=@PySem.F.slot_dict_pop
def MO:=@beq_iff_eq
def MV:=@Nat.min_le_right
def MW:=@List.getElem_inj
def MX:=@List.all_eq_true
def MY:=@Array.isEmpty_iff_size_eq_zero
def NA:=@List.any_cons
def NM:=@PySem.wpAny_Call_method
def NN:=@List.getElem?_set_ne
def NU:=@PyProof.Rows.get?_update_seq
def NV:=@List.sum_append
def NX:=@List.of_mem_zip
def NY:=@List.mem_append
def NZ:=@Bool.eq_iff_iff
def N_:=@PyProof.Rows.boot_isinstance
def OB:=@Nat.add_le_add_left
def OH:=@Nat.lt_trans
def OS:=@List.take_zero
def OT:=@List.contains_cons
def OU:=@PySem.Around.under_plainId
def PN:=@PySem.wpAny_execs_nil
def PQ:=@PySem.codeAny_builtin
def PV:=@List.mem_or_eq_of_mem_set
def PX:=@Array.getElem?_eq_getElem
def P_:=@PySem.Obj.isFreed_of_dict
def P':=@List.foldl_append
def QA:=@List.ext_getElem?
def QB:=@Bool.eq_false_iff
def QI:=@PySem.call_meetsIn
def QJ:=@PySem.W.KasT.kasWp_bind
def QK:=@PySem.F.type_dict_values
def Q_:=@Nat.lt_succ_self
def RA:=@List.range'_succ
def RB:=@PySem.F.args_dict_get_2
def RV:=@Int.ne_of_gt
def RW:=@List.pairwise_lt_range
def RX:=@PySem.Calls.call_function_entry
def RY:=@Array.getElem?_eq_none
def SH:=@PySem.wpAny_of_eq
def SM:=@List.length_set
def SN:=@List.filter_map
def TH:=@PySem.F.type_str_join
def TJ:=@PySem.F.type_dict_get
def TL:=@PySem.F.slot_str_join
def TM:=@Nat.sub_eq_zero_of_le
def TN:=@List.filterMap_append
def UE:=@PySem.wpAny_isInstance
def UG:=@PySem.wpAny_forIn_list
def UH:=@Std.Legacy.Range.forIn_eq_forIn_range'
def VH:=@PySem.wpAny_rule
def VI:=@PySem.call_meets
def VS:=@PySem.wpAny_isOneOf_itemiter
def WA:=@PySem.F.slot_zip_next
def WU:=@PySem.builtinLookup_eq_fast
local macro_rules(kind:=Lean.Parser.Command.mutual)|s=>do
 let c:=s[1].getArgs
 if c[0]![1][1][0].getId != `Z then Lean.Macro.throwUnsupported
 let nd:=fun(k:Lean.Name)(a:Array Lean.Syntax)=>Lean.Syntax.node .none k a
 let at_:=fun(x:String)=>Lean.Syntax.atom .none x
 let nl:=nd `null
 let q:=fun(m:Lean.NameMap (Bool×Lean.Syntax))(x:Lean.Syntax)=>x.rewriteBottomUp fun y=>
  if y.isIdent then match m.find? y.getId with|some (false,b)=>b|_=>y else
  let k:=y.getKind
  let y:=if y.getArgs.any (·.isOfKind `Z)&&k != `Lean.Parser.Tactic.show then y.setArgs (y.getArgs.flatMap fun z=>if z.isOfKind `Z then z.getArgs else #[z]) else y
  if k== `«term#[_,]» then (let a:=y[1].getArgs;if a.size>0&&a[0]!.getId== `ZZZ then y.setArg 1 (nl (a.extract 2 a.size)) else nd `Lean.Parser.Term.anonymousCtor #[at_ "⟨",y[1],at_ "⟩"]) else
  if k== `Lean.Parser.Term.app then match m.find? y[0].getId with|some (true,b)=>((b.rewriteBottomUpM (m:=StateM Nat) fun z=>if z.isIdent&&z.getId== `Z then modifyGet fun i=>(y[1][i],i+1) else pure z).run 0).1|_=>y else
  if k== `Lean.Parser.Tactic.show then if y[1].isOfKind `Z then y[1] else nd `Lean.Parser.Tactic.refine #[at_ "refine",y[1]] else
  if k== `Lean.Parser.Tactic.tacticHave__&&y[2][0].isOfKind `Lean.Parser.Term.letPatDecl then nd `Lean.Parser.Tactic.obtain #[at_ "obtain",nl #[nd `Lean.Parser.Tactic.rcasesPatMed #[nl #[y[2][0][0].rewriteBottomUp fun z=>if z.isIdent then nd `Lean.Parser.Tactic.rcasesPat.one #[z] else if z.isOfKind `Lean.Parser.Term.hole then nd `Lean.Parser.Tactic.rcasesPat.ignore #[z[0]] else if z.isOfKind `Lean.Parser.Term.anonymousCtor then nd `Lean.Parser.Tactic.rcasesPat.tuple #[z[0],nl (z[1].getArgs.map fun a=>if a.isAtom then a else nd `Lean.Parser.Tactic.rcasesPatLo #[nd `Lean.Parser.Tactic.rcasesPatMed #[nl #[a]],nl #[]]),z[2]] else z]]],nl #[],nl #[y[2][0][3],nl #[y[2][0][4]]]] else
  if k== `Lean.Parser.Command.definition then nd `Lean.Parser.Command.theorem #[at_ "theorem",y[1],nd `Lean.Parser.Command.declSig #[y[2][0],y[2][1][0]],y[3]] else
  if k== `Lean.Parser.Command.abbrev then nd `Lean.Parser.Command.definition #[at_ "def",y[1],y[2],y[3],nl #[]] else y
 let e:=c[0]![1][3][1][1].getSepArgs
 let n<-`(noncomputable def a:=1)
 let n:=n.raw.rewriteBottomUp (·.setInfo .none)
 let mut m:={}
 for i in [0:e.size/2] do
  let b:=q m e[2*i+1]!
  let h:=e[2*i]!.getId
  let b:=if h.toString.back=='?'&&b.isOfKind `Lean.Parser.Term.paren then b[1] else b
  let b:=if h.toString.back=='?' then nd `Z (if b.isOfKind `Lean.Parser.Term.byTactic then b[1][0][0].getArgs else b[1].getArgs) else b
  m:=m.insert h ((b.find? fun z=>z.isIdent&&z.getId== `Z).isSome,b)
 let o<-(c.extract 1 c.size).mapM fun c=>do
  let a:=if c.isOfKind `Lean.Parser.Command.open then c[1][0].getArgs else #[]
  let f:=if a.isEmpty then `x else a[0]!.getId
  if f== `T then
   return Lean.mkNullNode ((a.extract 1 a.size).map fun i=>n.rewriteBottomUp fun z=>if z.isIdent then Lean.mkIdent (.str `PySem.W.Fast s!"tw{i.getId.toString.foldl (fun n c=>n*52+if c.toNat<91 then c.toNat-65 else c.toNat-71) 0}") else z)
  else if f== `S then `(section)
  else if f== `N then `(namespace $(⟨a[1]!⟩))
  else if f== `E then if a.size==1 then `(end) else `(end $(⟨a[1]!⟩))
  else
   let c:=(q m c).rewriteBottomUp (·.setInfo .none)
   if [`Lean.Parser.Command.definition,`Lean.Parser.Command.instance].contains c[1].getKind&&c[0].getArgs.all (·.isNone) then return c.setArg 0 n[0] else return c
 return Lean.mkNullNode o
noncomputable section
mutual
def Z:=#[B!,Prop,Ab?,by decide +kernel,CI!,Type _,DB!,List,BW!,as.map,WQ!,as ++ bs,WR!,a ∈ l,Qm!,bs.map,re,some,
FS,l.map,IN,Type,GE,Int,IJ!,Value,A8!,Bool,Bm!,Sum.inl,fU!,Value.int,En!,Sum.inr,WS!,Value.str,
As!,Z (Z:=Z) (Z:=Z) Z,y!,.inl,A!,rfl,AT,.inr,XV,.int,FB,.str,MZ!,decide,A9!,Z=false,DC!,prog,
Dw?,(by rcases Z with⟨i,t,rfl,rfl⟩|⟨x,t,rfl,rfl⟩),fV!,(nomatch e),fW!,wpAny_eqBool_int,wZ!,SeqAt.EqAt.int_str,
wa!,SeqAt.EqAt.str_int,fX!,u=Value.none,fY!,Value.bool,Ds!,Value.ref,fZ!,Value.type,Ma!,Paired,DD!,Vals,
Mb!,Paired.length,am,.cons,WT!,us.take,U!,.nil,WU!,Option,g!,p.1,O!,q.1,wP,p.2,PP,q.2,G!,Addr,
BX!,if Z then Z else Z,IR,upd,IK!,xs.length<=sizeLine,At!,its,KH!,h.get?,DE!,.type,Eo!,"list",IL!,.seq,
CJ!,its.toArray,z!,kvs,fa!,Addr×Value,ii,.BV,Cb!,xs.map,Qn!,entryOfKey,WV!,tupleKind,be,(·.1),IM!,.own,
fb!,fs.length<=Z,fc!,W.instObj,Qo!,fs.map,WW!,"range",Mc!,.fields,At,.none,FS!,Heap,Md!,h1.get?,
wu!,a<h.objs.size,G7?,by have#[_,#[_,_,_,e,_],_]:=x,FT!,ys.map,Me!,h'.get?,Ah!,z.1,fd!,h.objs.size<=a,
DF!,absurd,WX!,λ_ _ q=>q,Qp!,b≠e,m?,(by rcases Z with z|z),DG!,∀b o,Z,WY!,u.keep,xF!,λb ob q _ _ _=>Z,
Ep!,#[ZZZ],WZ!,Un.kept,Wa!,λz=>z,DH!,List.range,Dt!,AE.mp,Mf!,AE.mpr,Du!,BL.mpr,B3!,base,Qq!,Shared,
Wb!,X.outer,Wc!,.local,Eq!,.free,fe!,env.kindOf,Qr!,X.base,ff!,X.env.cells.lookup,fg!,X.env.kindOf,
BY!,X.calm=true,Cc!,X.stack,fh!,X.env::X.outer,fi!,X.env.locals,Wd!,b≠X.env.locals,fj!,X.IV.heap.get?,
We!,b∉X.fs,xz,s.heap,SL,X.env,Cd!,s.heap.get?,FU!,X.prog,H?,by rw[Z] at this,fk!,I.base.keep,Mg!,I.base.free,
B4!,λb o e=>Z,Qs!,s.heap.objs.size<=a,KI!,I.cell,UF,λb hb=>Z,Qt!,I.ok.kind,xj!,Heap.get?_none_of_le,IN!,I.free,
Wf!,I.base.QT,Wg!,I.base.OO,Wh!,λx c e=>Z,Dv!,λp hp=>Z,xs!,{ s with heap:=h',toks:=t' },fl!,λb o _ e=>Z,
IO!,I.bare,fm!,λ_ _ e=>e,Mh!,Ne.symm,DI!,I.EE,Ce!,Z (Z:=Z) (Z:=Z) Z Z,Qu!,I.EE.fresh,IP!,s'.heap,
fn!,X.env.scope.names.lookup,Qv!,wpAny,X?,by rw[Z] at e1,Bn!,{ s with heap:=h' },fo!,s'.os=s.os,
Qw!,λ_ _=>False,Mi!,λFN H'=>Z,bi,pos,fp!,starEach,I!,Stmt,Wi!,λ_ _ x=>x,At?,by rintro v s1 ⟨x,H1,I1,r1,q1⟩,
Wj!,λσ H Q=>Z,FV!,.Name,P?,by intro AB s σ H Q I h,fq!,wpAny_Name,AD!,fin,fr!,.Constant,Au!,.bool,AG!,.bl,
wS,.FJ,x6!,Constant_none,Qx!,.NotIn,yD!,λv u s2 x y H2 I2 rx ry q=>Z,Y?,by have#[t,rfl]:=rx,
BO?,by have#[t',rfl]:=ry,yF!,wpAny_Compare1,Dx?,by intro AB s σ H Q I hw,yG!,wpAny_isTrue_Compare1,Os,false,
GM,true,CK?,by intro wh AB s σ H Q I h,HU?,by rintro c s1 ⟨H1,I1,q1⟩,HV?,by rintro d s1 ⟨H1,I1,q1⟩,Ai!,.BM,
Wk!,K.lookup,fs!,o.dict=none,yK!,its.size<=sizeLine,ft!,its.toList,IQ!,"tuple",DJ!,I.OX,DK!,I.list,
FW!,congrArg,Gc!,I.tuple,KJ!,λD σ H=>Z,Z?,by intro AB s σ H D I h,yQ!,wpAny_execs_cons,Rs,none,Er!,pure,
Qy!,b=true,Wl!,λ_ _ _=>False,Mj!,assign,Mk!,assignEach,CK!,(·.2),yW!,wpAny_assign_Name,
HW?,by intro AB s σ H vs us Q I r h,Ml!,e::es,Es!,s.toks,sB,Nat,Et!,turn,Mm!,∀b∈fp,Z,IR!,"zip",
Qz!,"dict_itemiterator",Wm!,if Z then Z else Z,KK!,rawInt,yd!,Bool.false_and,KL!,λi h st b hb=>Z,
Dy?,by have#[o,e,c,d]:=st,w?,by intro X hP hw hc i AB s σ H E I hf st hg,g?,by subst hP hw,Wn!,p.isList,
DL!,λb o hb e=>Z,Dz?,by have hl:=rv.length,yh!,h.IsTupleIter,yn!,{ s with heap:=h',toks:=tk },
AC?,by intro AB s σ H R I h,fu!,wpAny_pyIter_list,Dw!,s1.heap.objs.size,yx!,[s1.heap.objs.size],
fv!,wpAny_pyIter_tuple,sK,s.heap.objs.size,IS!,s.heap.push,IT!,[a,b],IU!,xs.length,IV!,CV.mp,Q0!,λx y H Q=>Z,
AD?,by intro AB s σ H x y v u Q I rx ry h,HZ?,by intro AB s σ H x v Q I rx h,AU!,V.int,AA!,V.str,
Q1!,false=true,zi!,y.length<=sizeLine,fw!,y.length,zj!,y.size<=sizeLine,CL?,by have#[its,r,pl,hz]:=Z,
D0?,by have hlen:=r.length,Mn!,pl.isList,fx!,kvs.length=vs.length,DM!,Z<=sizeLine,Eu!,.builtin,
a?,by intro AB s σ H xs us Q I r h,Mo!,"int",Wo!,toString,Q2!,"str",Gd!,name,AE?,by dsimp only,
zw!,es.toList.any,zx!,List.any_eq_false,z0!,ns.length<=sizeLine,z1!,wpAny_loadPart,fy!,"__init__",Mp!,codeAny,
Q3!,.call,Mq!,{ s with heap:=Z },KM!,W.emptyDict,Wp!,EK.mpr,Q4!,BO.mpr,Ge!,show Z from Z,Wq!,True.intro,
BP?,by rwa [Z] at this,Q5!,λ_=>none,KN!,λ_=>rfl,IW!,λy hy=>Z,JAJ,attributeBase,Mr!,.Attribute,KO!,"dict",
BA!,.dT,Ms!,"__class__",fz!,"getset_descriptor.__get__",Wr!,W.kitOne,Gf!,A.handled=none,
Hd?,by rintro u s1 ⟨x,H1,I1,r1,q1⟩,FX!,outer,JAp,vs.length=ps.length,IX!,args,Ws!,us++ds,
JAw,us.length=ps.length,Wt!,r.append,Q6!,wpAny_call,Q7!,first,
D1?,by rintro u s1 ⟨x,H1,I1,rx,a,dx,fs,ex,ea,l,q⟩,JA2,W.callWith_K0,DN!,V.ref,BB!,e.symm,Q8!,bindL,Q9!,bindC,
BQ?,by simp at h1 h2,IY!,BC.mp,Mt!,vs.map,f0!,cellsFrom,JBD,W.cellsFrom_some,RA!,scope.names.lookup,
f1!,i<vs.length,JBL,List.getElem?_replicate,wT,y.1,BR?,(by rcases Z with q|q),RB!,Value.none,Gg!,kv.1,
FY!,kvs.map,JBc,Bool.false_or,Dx!,putK,Wu!,valueAt,bn,h.1,RC!,ks.map,FZ!,atKey,Wv!,storedH,BZ!,x.1,
Ww!,kvs.length<sizeLine,Wx!,getItem,f2!,rel.length,JB2,PySem.F.args_dict_pop_2,IZ!,dd.typeIs,
JB8,PySem.F.entry_dict_pop,DO!,more,Wy!,kvs.length,RD!,GC.mpr,Wz!,subscripted,Mu!,slice,W0!,.Subscript,
f3!,Subscript_,f4!,wpAny_specialOf,W1!,s.TypeIs,f5!,λ_ _=>rfl,f6!,λw' s3 I3 RZ=>Z,JCV,sysModules<h.objs.size,
Mv!,"get",CM?,by rintro u s1 ⟨x,H1,I1,rx,a,ex,d,q1⟩,RE!,m.trees,Fa!,lexLt,JCk,SeqAt.EqAt.int_int,W2!,IntsAre,
D2?,by have#[hp,g,d,tk,os]:=s,JCs,wpAny_loadPart',JCv,List.zip_nil_left,JCw,List.zip_nil_right,
f7!,List.zip_cons_cons,W3!,A.units<cLine,RF!,Prod.ext,JDD,slicePart_none,JDH,List.filterMap_map,
f8!,List.length_drop,W4!,ht.typeIs,f9!,Str.ofString,JDK,PyProof.Rows.slot_tuple_getitem,W5!,wpAny_typeOf,
gA!,eq_of_beq,BC!,ns.map,JDU,evalPart_none,Mw!,s3.heap.objs.size,JDa,subscriptTail,Ia!,HT.KG,
Hq?,by intro AB s σ H x v vl vu lo hi sl Q I rx hs pl pu h,Cf!,hlen,Mx!,j<xs.length,DP!,DU.mpr,
JDq,z.length<=sizeLine,Gh!,z.cps.toList,D3?,by intro value slice AB s σ H x y v u Q I rx ry h hs,
Hs?,by have#[p,xs,i,z,rfl,rfl,hq,he,q]:=h,JDu,its.toArray.size,JDw,pl.isList.typeIs,
JDx,slot_list_getitem.lookup,gB!,z.cps.toList.length=z.length,gC!,sliceBounds,W6!,its.length,gD!,List.all_cons,
Fb!,λu hu=>Z,gE!,ys.length,CN?,by have hlen:=r'.length,My!,z.length,JEO,Int.not_le.mpr,
Hy?,by rintro v s1 ⟨x,H1,I1,r1,ty,q1⟩,u?,by have#[h1,h2]:=Z,JEX,ys.length<=sizeLine,RG!,s.heap.update,
RH!,Obj.mapSeq,CL!,trivial,JEZ,xs.length=its.length,JEc,"list.append",
Ac?,by intro AB s σ H x vs v us Q I rx rv h,CO?,by have#[u,rfl,ru]:=rv.one,JEg,"list.extend",
D4?,by have#[l,b,xs,zs,rfl,rfl,hH,hB,hz,q]:=h,JEl,F.slot_list_extend,JEm,F.entry_list_extend,
JEu,Array.getElem?_toList,JE1,its.toArray++RS.toArray,W7!,I.fresh,Mz!,vs.toArray,W8!,ns.length<=n,M0!,.list,
JFB,Nat.le_of_not_lt,M1!,ER.heap,gF!,ER.heap.get?,RI!,callerA,JFQ,List.Pairwise.nil,gG!,ER.heap.Ns,M2!,False,
JFZ,∀{b:Addr} {o:Obj},Z,W9!,w.params,gH!,∃fd:FuncData,Z,
D5?,by have#[oc,od,kV,doc,pm,an,FH,ct,gQ,rfl,lk,TZ]:=F.ex,JF5,λA outer s H vs Q E hr WX=>Z,XA!,n<sizeLine,
XB!,Or.inl,M3!,Or.inr,XC!,l.Nodup,XD!,BC.mpr,BS?,by have#[q,hq,e]:=Z,BD!,AN.mpr,Fc!,PyData,
JGQ,xs.length=ds.length,JGS,xs.length=ys.length,RJ!,Nat.succ.inj,RK!,λa xs e=>Z,
IB?,by intro AB s σ H x xs v us Q I rx rs h,IC?,by have#[d,kvs,rfl,rfl,hd,q]:=h,JGl,PySem.call_meetsIn,
JGm,"dict_values",M4!,h.elim,Gi!,Txt.split,gI!,F.slot_str_split,XE!,QB.mpr,Dy!,Str.join,XF!,z.cps[i]?,
BT?,(by rcases Z with rfl|rfl),XG!,l.foldl,gJ!,(· - 48),M5!,λc hc=>Z,Ev!,numOf,Gj!,c::r,UV,key,
BU?,by simp at this,JH9,z.cps.toList.all,Fd!,"make",Ba!,"hold",Gk!,"drop",Gl!,"take",Gm!,"free",Ib!,"send",
Ic!,"clean",Av!,"ask",Id!,"come",BE!,"hand",Fe!,"things",wn,"holds",Bo!,"post",XH!,FT.lookup,AH!,a++b,
RL!,Char.toNat,JIK,Nat.length_toDigits_le_iff,gK!,List.map_eq_nil_iff.mp,JIL,Nat.toDigits_ne_nil,M6!,len_list,
gL!,λ_ _ z=>z.elim,gM!,λ_=>false,BF!,h.2,AM!,caps,gN!,s1.heap.get?,XI!,LJ.look,Ie!,λb o e hb=>Z,RM!,λb hb z=>Z,
JI4,ws.length=ow.length,gO!,s2.heap.objs.size,Im?,by intro C s1 H1 fp jM O_ s7 ws H7 y u R wl I7 r7 b7,
Gn!,BS.mp,Io?,by rintro _ s8 ⟨σ8,H8,I8,rfl,rfl⟩,gP!,"dict_keyiterator",M7!,es.size,JJt,wpAny_pyIter_slot,
JJu,F.slot_dict_iter,Ip?,by unfold Builtin.Dict.showsAll,gQ!,i<es.size,JJ2,wpAny_isOneOf_keyiter,
gR!,Obj.mapFields,JJ3,(·.setIfInBounds 1 (rawInt ((i:Int)+1))),KP!,"StopIteration",
Ir?,by simp only[newExc,newTuple],Go!,(·.2.1),JKC,es.size=kvs.length,AP?,by simpa using this,JKI,λc w' _ q=>q,
CP?,by intro X hP hw hc i AB s σ H E I hf st #[hg,hi],JKN,wpAny_pyIter_keyiter,XJ!,λb ob e=>Z,Gp!,p.getD,
gS!,i<p.size,Gq!,BL.mp,JKe,Nat.le_sub_one_of_lt,JKf,Nat.max_le.mpr,B?,(by by_cases c:Z),JK2,as.length=es.size,
RN!,HT.lexLt,KQ!,HT.IF,JLF,of_decide_eq_false,KR!,DI.mp,XK!,p.mem_iff.mpr,JLO,List.Perm.cons_inv,XL!,seqObj,
KS!,vs.length,gT!,listItems_at,gU!,listUpdate_at,gV!,wpAny_newTuple,JLa,wpAny_newList,gW!,failedOf,
XM!,"ValueError",JLf,{ s with heap:=hh },JLk,vs.toArray.zip,JLn,List.pairwise_singleton,U?,by rw[Z,Z] at this,
gX!,W.kat_nil,gY!,W.kat_cons,gZ!,W.kat_go,ga!,W.kat_yes,M8!,λk hk=>Z,gb!,Z=as.length,CM!,L.map,M9!,M.map,
JMN,as.length=L.length,XN!,j<L.length,DQ!,FD.of,D6?,by unfold Builtin.«sorted»,Gr!,h1.objs.size,
gc!,i<as.length,gd!,Int×Int,Bb!,t.1,Dz!,T2×Int,Cg!,"number",Ch!,"made",Ci!,"ticks",CN!,"outs",Cj!,"records",
KT!,G.num,Gs!,G.BJ,wp,G.o,Aj!,G.l,BG!,G.r,JY?,by simp only[OT,Bool.or_eq_false_iff,EK] at h,Gt!,l.find?,
ge!,Option.map_map,XO!,BP.mpr,Aw!,λq hq=>Z,RO!,G.holds.map,AE!,G.hand,AI!,G.AL,Ax!,G.holds,AN!,G.AK,
RP!,∀q∈G.holds,Z,AV!,x.nd,JNH,{ G with BB:=m,BJ:=t },BV?,by have#[#[a1,a2,a3],#[b1,b2],c1,d1]:=x.aF,
AF?,by have#[dx,e]:=x.ob,gf!,{ G with hand:=l },XP!,hs.map,DR!,os.map,If!,rs.map,b?,by constructor,NA!,.tupP,
Gu!,ts.map,CQ?,by intro AB s σ H xs us Q I rv h,CR?,by rintro i m ys H2 ⟨rfl,hi,pv⟩,XQ!,"dict_items",
JNb,PySem.F.slot_dict_items,XR!,b∈fr,gg!,λc o e n1 n2=>Z,JNj,vs.setIfInBounds,gh!,noteFrame,
Gv!,{ s with heap:=h1 },RQ!,show Z from rfl,RR!,"BaseException",sw,sub,JOH,F.excBase_ValueError,
gi!,h'.IsTupleIter,XS!,IsPair,JOM,h'.IsListIter,
J8?,by simp only[List.zipIdx_cons,List.zipIdx_nil,List.forIn_cons,List.forIn_nil],gj!,ER.extBut,gk!,MM.extBut,
XT!,wpAny_letGo,RS!,RR.extBut,D7?,by simp only[BO,CA,F'] at hb,KO?,by have#[hz,hI,#[a,c,hO],h1,h2]:=st,
JOe,b<s.heap.objs.size,gl!,b2.extBut,JOj,wpAny_pyIter_zip,RT!,j≠i,JOo,a≠X.env.locals,gm!,W.looks_mroIn,
JOp,wpAny_loadPart_at,JOz,{ s' with heap:=h',toks:=t },XU!,"__getattribute__",
gn!,"BaseException.__getattribute__",JPG,"__getattr__",JPI,codeAny_call_builtin,go!,Eq.trans,NB!,z.elim,
JPX,Shared.TypeIs,JPY,t.mro.contains,JPZ,it<s.heap.objs.size,JPa,{ s with heap:=h2 },
JPf,F.slot_dict_items_iter,JPp,as.length<es.size,JPs,es.size<=sizeLine,
gp!,(·.push (Value.ref s.heap.objs.size)),gq!,wpAny_updateSeq,JP1,plainId_quiet,
JP6,λh' OZ c' a1 a0 a2 a3 a4=>Z,KV!,AS.mpr,KW!,DH.mp,JQC,PySem.F.plain_list_iadd,gr!,{ s with heap:=h0 },
Kh?,by unfold Builtin.List.listExtendWith,Kj?,by have#[h',OZ,c',rfl,rfl,a1,a0,a2,a3,a4]:=y,gs!,i<L.length,
gt!,this.symm,NC!,pm.map,JQh,List.Pairwise.imp,JQj,{ s with heap:=h1,toks:=s.toks },ND!,λa ha=>Z,
gu!,λq:T2×Int=>Z,JQ3,wpAny_dictFind_heap,JQ4,wpAny_updateDictKeys,KX!,z.symm,h!,r.1,NE!,q∈l,gv!,q∈G.holds,
Ff!,λr hr=>Z,Ig!,t∈l,D0!,l.filter,gw!,λq:T2=>q,Ih!,"latest",KY!,"waiting",gx!,Int×Addr,Ew!,ls.map,AB!,l.1,
Fg!,kvsOf,Ii!,∀l∈ls,Z,RU!,p≠d,XV!,Sum.inl.inj,Fh!,λl hl=>Z,XW!,λl hl e=>Z,KZ!,AS.mp,JRm,List.find?_append,
RV!,l1++l2,NF!,Addr×BZ,D1!,"houses",Ck!,"share",Ij!,"inquiries",Ik!,"finds",KU!,"enclosed",D2!,W.share,
DS!,W.hs,Bp!,W.po,B5!,W.iq,Ex!,W.fi,D3!,W.en,ut,W.qs,gy!,W.qs.map,Il!,W.pd,Fi!,W.ls,RW!,DS.mpr,D4!,x.iq,
Im!,x.en,CS?,by simp only[Ci,BO,CA,F'] at hb,F?,(by rcases Z with h|h),gz!,{ W with qs:=Z },In!,W.qs.set,
c?,by rw[Z] at hr,NG!,W.qs.length,Uf,i.2,CT?,by simp only[BO,CA,F'] at hp,Io!,Lies,g0!,V.str.inj,RX!,"house",
Ip!,(·.2.2),NH!,G.AL.map,Ey!,∀t∈Z,Z,NI!,Z=G.num,Ka!,∀t∈G.hand,Z,Iq!,x.ln,Gw!,x.rk,g1!,l.length<=n,XX!,∀t∈l,Z,
d?,by rw[Z] at ht,NJ!,this.1,JTE,G.holds.find?,Ir!,t∈G.hand,Is!,tb.1,NK!,EA.mp,Gx!,t=tb,g2!,{ G with AL:=Z },
RY!,es.toList.map,LP?,by simp only[Bool.not_true,DN,GA],JTf,Obj.data_mapDict,XY!,List.take_succ,
JTl,xs.length+more.length,Ld?,by simp only[Std.Legacy.Range.size,Nat.sub_zero,Nat.add_sub_cancel,Nat.div_one],
Lf?,by rintro b s' ⟨h',j,rfl,hr,hj,VX,sb⟩,g3!,dO.typeIs,JUK,"dict.update",JUN,PySem.F.slot_dict_update,
Gy!,ts.take,RZ!,t∈ts,Kb!,CF.keep,Ra!,kt.BV,g4!,ts.filter,NL!,DT.of,g5!,l.length,g6!,i<l.length,Rb!,Prod.mk.inj,
It!,found,g7!,∀t∈found,Z,DT!,t∈R,XZ!,∀t∈ahead,Z,Xa!,h.sub.1,Rc!,∀t∈R,Z,g8!,keys.filter,JU5,List.filter_filter,
Lw?,by by_cases c1:Z<;>by_cases c2:Z<;>simp[c1,c2],Fj!,hl.map,g9!,G.AL.filter,Xb!,G.holds.filter,
hA!,G.holds.any,hB!,{ G with AK:=Z },Iu!,G.AK.filter,JU8,{ G with holds:=hl },hC!,bs.length,Iv!,hand,
hD!,List.take_succ_cons,Xc!,λ_ _ h9=>Z,JV0,List.length_erase_of_mem,Fk!,ok.ke,Rd!,startT,Xd!,λt h1 h2=>Z,
Gz!,λt h=>Z,Kc!,ok.hn,JV2,ok.on.sublist,Iw!,ok.rn,Kd!,ok.ln,AJ!,λt ht=>Z,NM!,ok.new,Re!,EB.mpr,Xe!,ts.Nodup,
Xf!,"0123456789",hE!,decide_eq_true_iff,CO!,"thing",G0!,"none",AW!," ",JWa,Nat.eq_zero_or_pos,NN!,"world",
Rf!,JQ.mp,Ke!,us.length=Z,JWo,[u0,u1,u2,u3],JWp,[u0,u1,u2,u3,u4],Rg!,[a,b,c],hF!,[a,b,c,d],hG!,[a,b,c,d,e],
JWx,"House.__init__",JWz,"Post.__init__",hH!,"World.__init__",DU!,"self",Fl!,"weight",JW1,"House.added",
JW2,"House.given",JW4,"House.passed",JW7,"House.clean",Xg!,"told",JXG,"House.is_spent",JXH,"part_record",
JXI,"House.part_record",JXO,"Post.letters",JXY,"World.letters",JXZ,"weight_came",JXa,"World.weight_came",
G1!,"letter",JXc,"World.pass_came",Xh!,"parted",Xi!,"reached",NO!,"starts",Xj!,"_law_cell",D5!,"_law_script",
Ix!,"_law_k",JXj,"Inquiry.__init__",JXk,"Inquiry.first",JXm,"Inquiry.second",JXo,"Inquiry.still",
JXp,"Inquiry.result",Fm!,"let",JXv,"World.ask_came",JXw,"answer_came",JXx,"World.answer_came",
JX2,"World.let_came",JX5,"World.let_all",hI!,"unreached",CP!,"states",hJ!,"recorded",hK!,"Desk.__init__",
Rh!,"verb",hL!,"held_by",JYG,"Desk.held_by",Xk!,"read_words",G2!,"words",hM!,"read_word",G3!,"word",
Xl!,"read_number",hN!,"written_thing",hO!,"written_letter",hP!,"listed",hQ!,"listed_things",JYN,"_law_stream",
CQ!,"_law_cell_here",Cl!,"_law_many",Ri!,"_law_text",G4!,"_law_desk",NP!,"_law_row_here",NQ!,"_law_x",
Iy!,"_law_number",JYW,"_law_all_come",Kf!,"law",Iz!,"many",Fn!,"first_ticks",G5!,"second_ticks",J!,FuncData,
JYc,@Classical.epsilon,Xm!,ta∉G.hand,Ak!,ta∈G.hand,CU?,by have#[p,t,G,th,rfl,S,ht,k]:=h,
C?,by have#[dx,hp]:=S.ob,q!,T.cl,I0!,T.nH,I1!,S.dh,hR!,FX.FY.TQ,NR!,M1.fn,Fo!,M1.mt,D6!,M1.bd,
D8?,by have#[p,a,b,G,ta,tb,rfl,S,ha,hb,k]:=h,I2!,M2.mt,Fp!,M2.bd,CR!,T.nL,BH!,tb∈G.hand,Xn!,tb∉G.hand,
T?,by have#[HM,IJ]:=S1.ob,I3!,G.AK.find?,G6!,T.nR,D9?,by have#[p,b,G,tb,wt,rfl,S,hb,z,k]:=h,DV!,T.nO,
Au?,by have#[LK,IU]:=S2.ob,Jaa,G.holds.length<=Z,Rj!,λb u e hb=>Z,CV?,by simp only[BR] at *,Xo!,G.hand.map,
CW?,by have#[UY,XH]:=S6.ob,Rk!,MJ.map,Rl!,os.take,BW?,by have#[SD,RJ]:=S3.ob,JcX,Int.lt_of_lt_of_le,
jp,λz hz=>Z,v4,TW.cl,G7!,TW.nH,EA?,(by rcases Z with rfl|rfl|rfl|rfl),I4!,k.sq,NS!,L.flatMap,Ez!,addW,
D7!,rowsOf,hS!,PassesOwn.never,EB?,(by generalize Z=H1 at s1 e1),
NT!,Z (Z:=Z) (Z:=Z) (Z:=Z) (Z:=Z) (Z:=Z) (Z:=Z) Z Z Z Z Z,Xp!,λb o e h1 h2=>Z,Rm!,rs.filter,Rn!,"held",
D8!,"back",Ro!,aS.nd,CX?,by have z1:=ok.hz,hT!,G.holds.take,EC?,by have:=pm.length_eq,Xq!,us.map,E0!,kind,
Fq!,kind=Z,NU!,"more",E1!,"pass",hU!,x≠W.hs,NV!,JE.FQ,Av?,by have#[LK,IU]:=W2.ob,ED?,by have#[SD,aK]:=W2.po.ob,
Rp!,TW.nP,hV!,W.ls.map,EE?,by have#[LK,bC]:=S1.ob,EF?,by have#[SD,RJ]:=W1.ob,EG?,by have#[bH,gn]:=W1.po.ob,
NW!,W.ls++L,hW!,QO.trans,JgC,Nat.min_eq_left,AQ?,by have#[r,hr,e]:=Z,hX!,e2.trans,Rq!,G'.num=G.num,
NX!,G'.BB=G.BB,Xr!,∀t∈G'.hand,Z,I5!,x.nn,Xs!,λt _ h=>h,G8!,x.ok,Kg!,l.th=t,hY!,Int.add_assoc,
Xt!,Int.add_nonneg,JgD,Int.le_add_of_nonneg_right,NE,l.th,Fr!,l.th.1,NY!,l∈ls,Rr!,x.sum,Rs!,s.ok.new,
JgE,Int.sub_nonneg_of_le,NZ!,Int.ofNat.inj,Rt!,x.next,Na!,b∈G.hand,Xu!,s.ok.hk,hZ!,Z=G.AK.length,
ha!,Int.add_zero,hb!,Int.zero_add,hc!,Int.le_antisymm,Xv!,pm.mem_iff.mp,Xw!,s.ok.ke,G9!,G.BB<=G'.BB,
hd!,λr hr t ht=>Z,Kh!,G'.AK,Xx!,x.rc.less,he!,λl h=>h,hf!,G'.hand=G.hand,hg!,G'.holds=G.holds,Xy!,c.symm,
hh!,∀(j:Nat) q G,Z,Ki!,.hand,Nb!,.step,Xz!,t∉ts,BX?,by rintro⟨h1,h2⟩,DW!,tick,Nc!,λn u=>Z,Nd!,fi.find?,
hi!,fi.length<m,Ne!,fi.length=m,JgH,pm.mem_iff.mpr,SZ,al',EH?,by unfold Still at *,Ru!,G.BJ<G'.BJ,Fs!,.ask,
X0!,LL.ask,hj!,L.length=m,hk!,ys.length=i,HA!,"answer",Nf!,λb o eb hb=>Z,Rv!,L.take,X1!,λb ob e n=>Z,
hl!,λj σ H' _ h9=>Z,hm!,rows.map,X2!,List.map,Rw!,h.keys,I6!,U_.nd,X3!,as++MJ,X4!,cO.keys,Rx!,(·.key),
X5!,ms.map,Ft!,I.sd,D9!,I.fd,E2!,I.cd,I7!,I.fs,I8!,I.cs,EI?,by simp only[BR] at l1,hn!,b≠I.cd,
JgI,List.nodup_range.filter,Ng!,TW.nI,Kj!,e1++e2,Qe?,by have#[h1,e,xs,h2,h3,h4]:=h,X6!,y.I.ss,EA!,y.fi,
JgJ,y.se.length<m,X7!,Z+G.AK.length,ho!,Z+G'.AK.length,X8!,u∈ts,X9!,∀z∈al,Z,JgK,y.se.length=m,Nh!,x.at_,
Ni!,x.wg.wl.len,Ry!,y∈ys,I9!,x.off,HB!,x.wa,DX!,x.wg.num,Nj!,z∈al,BY?,by have a1:=x.md,BZ?,by have a4:=x.iz,
HC!,x.kn,hp!,W'.share=W.share,Nk!,W'.IB=W.IB,E3!,A'<=A,JA!,B<=B',hq!,x.ma.next,hr!,x.pb.next,Fu!,near,
Fv!,HP.pr,AX!,num,JgL,t.MA.pm.mem_iff.mp,hs!,Nat.succ_mul,Nl!,W'.qs=W.qs,ht!,x.pb.same,hu!,y'.se.length=m,
YA!,(·.toNat),hv!,y'.fi.length=m,JgM,y.fi.length=m,Ba?,by have m5:=x.m5,Rz!,UN.fs,YB!,UN.many,Al!,g.T,B6!,g.TW,
Kk!,EF=ys,Kl!,.hold,Km!,.drop,Kn!,.take,Ko!,.send,YC!,.clean,JgN,W.qs.length=m.toNat,YD!,λj q G e=>Z,
JgO,λx mD nx cI p9=>Z,JgP,[p,r,po,pd,iq,fi,en],hw!,z.cps.toList.take,EJ?,by rintro ys H2 ⟨rfl,rfl⟩,R0!,ws.map,
Qf?,by rintro i x ys H2 N hx ⟨rfl,rfl⟩ hN,Qg?,by simp only[AO,EZ,CZ,LM,A_,BR,this],JgQ,PySem.StrLaws.sumLen_le,
EK?,by simp only[AO,EZ,CZ,LM,A_,BR,q] at this,Ad?,by have#[RK,RI]:=S.wo.ob,
Qh?,by have#[hs,os,rs,s1,rep,kQ,kE]:=z,Qi?,by have#[hs,os,rs,s1,rep,sm,kq]:=z,R1!,g.TK.cl,
Qj?,by rintro v H' ⟨l,ns,rfl,el,z1,z2,kq⟩,JgR,Nat.digitChar,JgS,Nat.toDigits_eq_if,JgT,List.length_pos_iff.mpr,
JgU,List.drop_of_length_le,R2!,UO.nd,EL?,by have l1:=iv.t1.length_eq,Bb?,by have#[l,hl,rfl]:=Z,YE!,h.hand,
R3!,x.wg.XX,YF!,h.end_,YG!,wi.wg.num,JgV,λr xs H1 s1 er pa=>Z,Bc?,(by generalize ez:z=z0 at tx),
hx!,HP.pm.mem_iff.mp,YH!,r∈os,hy!,"_law_told",hz!,g.mSy.mt,h0!,g.mSy.bd,Nm!,ts++r,
Qk?,by have#[r,e,nd,sub,all,fr]:=a,JgW,"_law_reached",YI!,"_law_h",Kp!,WL.nd,R4!,wk.rh,
Ql?,by rintro σ Hd ⟨⟨u5,rfl⟩,ap⟩,JgX,λlw H2 gq s2 UX=>Z,Kq!,UA.nd,Ae?,by dsimp only [Ra],JgY,λlw H4 _ s4 UX=>Z,
JgZ,List.getElem?_eq_getElem,Fw!,SQ.nd,YJ!,L2.V.int,D!,re Z,w!,Z Z=D! Z,oJ,(Z:GE),EQ,(.ref Z),
S!,by rw[Z];show Z,SB,.ref Z,Bq!,w! H Z Z,wv,Z be,Go,MZ! (Z),Ay!,Z->Z->B!,bv,(pv 0),Kr!,(Aa Z Ae),P!,Z _ _ Z,
B7!,Z Z=none,C!,DB! V,Nn!,w! Z b Z,Az!,(XV Z),W!,y! Z,E4!,(IR Z Z (Z Z)),DY!,Inv X AB σ Z Z,
B8!,DJ K Z Z Z Z Z Z Z,E!,DB! T2,Q!,by lia,AC,(Z _ _ Z),No,(pv 1),o0,by decide,Op,(by decide),ww,i+1,
FM,Z _ _ Z Z,l!,(S! Z Z),v!,AT Z,AO!,AU! Z,Ix,XV Z,Fx!,Nn! Z o,EB!,(Z:Str),No!,Qv! Z Z Z Z Z s,
Np!,w! Z Z (Z Z),Cm!,SB p,HD!,(q,G),BI!,Ah Z t,BJ!,B7! H Z,Ks!,(by rfl),F!,Cx Kx,KB,(pv 2),
AY!,by rw[<-Z];show Z,Ch,(by simp),H!,DY! H s,AZ!,oJ h,A0!,PE X Z Z,WF,S! (Ad Z) Z,E?,by show y! Z,
Cn!,Bq! Z (Z Z),AK!,DN! Z,Kt!,λq=>Go Z,Ku!,WU! Z,cr,oJ i,V!,(by lia),EC!,DE! Z,A1!,(Z Z).length,Fy!,D! (EQ Z),
Aa!,(An bv A!),B9!,W.c+1,BK!,(y! Z),Fz!,t∈wv Z,Co!,NL! Z,WP,q.2.1,A2!,SB a,HE!,(Aa Z (Kr! Z)),Nq!,Ay! Z Hp,
Cp!,CG H Z,Bc!,#[A!,Z],n?,[_,A!,Z],A3!,Am Z Z (Ak Z),HF!,Ay! Z Qq!,v6,(ww),Bd!,n+1,
K!,(e.2.2.2.2.2.2.2.2.2.2.2.2.2.2.2.2.2.2.2.1 Z),L!,(e0.2.2.2.2.2.2.2.2.2.2.2.2.2.2.2.2.2.2.2.1 Z),
M!,(e.2.2.2.2.2.2.2.2.2.2.2.2.2.2.2.2.2.2.2.2 Z),N!,(e0.2.2.2.2.2.2.2.2.2.2.2.2.2.2.2.2.2.2.2.2 Z),HG!,(q,G'),
L?,[_,A!],ED!,RelV Z Z,d!,DB! IJ!,Br!,w! Z x Z,a!,HC K Z Z Z f fd,Be!,Ma! Z Z Z,G?,by show AT Z,T!,DB! α,
YK!,¬(EB! Z=Z),A4!,[DU!],F0!,Z σ H Z,X!,DB! G!,R!,DB! (Dz!),EE!,(AJ! Z),Nr!,Np! Z Z Ai! Z,
A?,by show#[A!,λFH A outer s hr=>?_],i!,DB! GE,BL!,(ZD _ Z),Ab!,(Z _ _),YL!,(A6 _),R5!,(.ins Z dx Z),
Sc,by simp,xL,(pv 3),Ns!,Z AB Z σ Z _ Z Z,F1!,D! (Az! Z),HH!,(KT!,G.BB),Z!,DB! Str,Kv!,Z->B!,EF!,ZL ..,
DZ!,oJ m,I?,by show DF! Z Z,JB!,(Ai! (Z DN!)),Y!,DB! LL,wE,FB Z,BM!,oJ (Z:sB),j!,DB! (NF!),EG!,(IR H Z Z),
Bs!,(Ap G ts),k!,DB! (gx!),YM!,Nr! Z Z ys,JC!,[DU!,CO!],Cq!,(Af (Aq Z)),CA!,A9! (Z),EH!,(Z be).Nodup,
Db,DB! (Addr×Obj),E5!,IR Z Z (Z Z),v?,by show Z Z λvs H Q E h=>?_,Cr!,(keepR G R),BN!,q.2.2,JD!,w! Z a Z,
YN!,(Z Z Ks! Z Z (Kr! Z)),Bf!,Mb! Z,BO!,r.2.2,Da!,O!=t,BP!,(ZJ Z).1,E6!,EM 1 Z Z Z (Z),db,Cp! H',F2!,XV h,
HI!,[DU!,"h"],CS!,BX G,Jgp,(Ac (Au (i:=Z) Z A! (XB! A!) Z) Z),o!,WI H p W D m n d A B al ys,R6!,Co σ AM!,
BQ!,Z Z=true,Ac!,(Z)=true,Kw!,Ku! IJ!,h1!,hr.mono (o0),x!,DB! Qy,AL!,AX _,Db!,by rw[Z];rfl,
h2!,(As Z (EQ Z) (As Z Z Z)),EI!,(Z Z).map Z,R7!,oJ 0,Nt!,tk O!,Jgw,W.findIn K (EQ Z) Z=D! Z,Bt!,DQ! Z,
Cs!,SB b,F3!,(ZB _ Z),BR!,#[_,A!],KE,HF! IJ!,R8!,(by cases Z),R9!,y! (Z Z),o?,[n? p],Af?,[_,A!,p,Z],
EJ!,by rw[Z,Z];rfl,Kx!,G.BJ+1,F4!,DB! Key,YO!,AO! PP,YP!,#[Z,Z,A!,A!],D?,by show v? F.KH Z,F5!,(Bd!),
J?,(by cases rx),A5!,by rw[Z,Z],HJ!,wv NH!,E7!,BI! AN!,Bg!,BJ! b,Nu!,(A9 Bn Z Ag),S?,by show ZR (Z Z),
h3!,{ cls:=EC! Z,data:=Z Z },Am!,‹_›,Dc!,Z=D! (Z,Z),EK!,Bq! b o,Nv!,As! Aw xs Z j Z Z,E8!,B7! Z b,
EL!,[DU!,G1!],Bd?,by show F? (ZI Z),JE!,(Mh! Z),F6!,ZT _ Z,F7!,ZC _ Z,Ky!,(A7 Z Z Ks! Z Z Z U! A8 Z),
KM,BF C H p G,Nw!,Z (Kt! Z),EM!,Bq! a Z,Kz!,(λ_ _ _ _ _=>Z),h4!,Wj! (F0! Z Z),YQ!,Q (EQ Z) H',AC!,Str->Kw!,
K0!,NT K mg Z Z Z Z Z,SA!,W.c+(Z:sB),SC,qs[i]?=D! HD!,Nx!,(λ_ z=>(by cases z)),Dd!,T2×Int×E!,SB!,λt=>Go Z,
TD,DB! LT,An!,(pv 4),EN!,P! Z (AC Z Z),HK!,Fx! Cd!,O?,by show#[_,A!,Z],N?,by show E? h,Ct!,oJ j,Bu!,(ZC _ Z),
Ny!,Q (EQ Z) Z,JF!,BI! AI!,h5!,BK! s,YR!,(Bh (Av Z Z Z YL!) Z Az),K?,by have hu:=Ct hr,HL!,(EF!),Tk,n<60,
AP!,Fy! p,h6!,(FV (Ns! Z s H I h) Z),YS!,[DU!,"a","b"],Cu!,Ce G ZV,EO!,G.BB+1,CB!,(AT Z),Bv!,ZG _,SC!,Nn! Z u,
Nz!,BK! h,h7!,[DU!,"b",Fl!],K1!,(model DC! w),F8!,BF C Z p Z,De!,No! (model DC! w) A Z Q E,YT!,En AM!,
M?,by rw[this],N0!,(λ_ _ z=>(by cases z)),K2!,w! Z Z o,HM!,DF! (Z) Z,Df!,AJ _,h8!,Ay! Hp Z,HN!,Nq! C!,
YU!,eval Z SL,YV!,vs=[Cm!,Z],HO!,by rw[Z,Z];show Z,Ao!,ZB _ Z,R?,by show AT Z,Bh!,(ZG _),YW!,B7! mg Z,
YX!,E4! H Z Ai! Z,YY!,(Ao (pl:=_) Z Z Z Z Z Z U! A8 Z),YZ!,E4! Z p Ai! Z,f8,Ok G n,JG!,YP! A! A!,
Jg3,No! (model FU! X.w) X.A Z Z X.xe,Ya!,vs=[Cm!,Z,Z],Bw!,EQ a,E9!,v! #[Z,Z],Aw?,by show#[_,Ac (Z) Z,?_],
pi,Kv! T2,CC!,(Z Z Z).length<=Z,JH!,#[q,hq,Z],SD!,Bm! Z,JI!,Go (Z=Z),h9!,Ad (Mh! Z),F9!,Bx p W,EP!,ZU _ A!,
GA!,ZR (m:=Z) Z,Q?,by have GZ:DW 1 _:=h1!,HP!,(Ge! Z Z),FA!,r.2.1,N1!,if Z then D! Z else none,EQ!,Z (Q!),
iA!,(by simp[Ci]),FB!,#[dx,Z],HQ!,AR _,Cv!,Z t ht,N2!,Az! n,HR!,Z b o e Z,Dg!,#[_,Z,A!],h?,by show ZB _ Z,
HS!,YM! H2 p,HT!,λz=>Z (Z z),HU!,(Z b o e),Yb!,MB qs ls Z Z,JJ!,s.heap.objs.size+1,Ad!,DB! sB,Cw!,S! ZA Z,
FC!,OA t Z,ER!,Z σ H1 Z,K3!,Ab! BD,Yc!,DD! Z us,JK!,w! H' Z Z,SE!,SB t,HV!,DF! (Z Z) Z,HW!,(y! A!),CT!,Fz! NH!,
ES!,Bc! A!,e?,[n? _],Yd!,R5! C Z,AF!,inClass (top 15) Z,iB!,(AT (y! Z)),
iC!,(Ao (pl:=_) bv Z Z Z Z Z U! Bk (Kr! Z)),Jg4,Bv (i:=Z) Z A! (XB! A!),CU!,(AH!),Bx!,x=A2!,FD!,A1! Z Z<=Z,
p?,by show F? (Z h),N3!,w! Z p Z,K4!,(Z (.ref Z)),N4!,(AJ _),CD!,Ku! GE,BS!,Bq! b (ii (tv tb)),Bi!,Nq! St,
Bj!,#[_,A!,Z],GB!,AA Z Op,Ye!,D! x::R6!,SF!,(A9 Bg KB Ag),By!,M_ W h q G,iD!,(by change Z;decide),
EM?,by show F7 Z Z λvs H Q E h=>?_,AQ!,top Z,N5!,Z (Kt! Z),N6!,Z=D! HD!->Z,Dh!,(Z).toNat,SG!,R7!<Z,HX!,gu! O!,
SH!,Z (AY! Z Z),CV!,(pv 5),HY!,W! #[Z,Z],Ap!,AF c,Aq!,AF A!,AR!,inClass (top 24) Z,BT!,Array IJ!,
AS!,AW CW C CP H p W,AT!,Wg D m n sh qs ls,iE!,(model FU! X.w),HZ!,E6! f fd Z Z,iF!,h2! D1! r Ck! (Az! sh) [],
JL!,by change Z;show Z,GC!,SB d,Ae!,DB! (Dd!),Yf!,l! ZA Z,Ha!,Cp! H2,N7!,HN 1 Z Z Z (Z),Af!,Z X Gn,N8!,F6! e,
SI!,Z DI! e,x?,by show FV (Z) ?_,Ag!,DB! (F4!×V),Jg6,by rw[<-Z];show BP! Z,Jg7,AA (AV Z) Op,
V?,by show#[_,A!,A!,_,A!,?_],Bz!,(AY! Z Z),iG!,Ey! (wv Z) Z,K5!,jp ?_,Hb!,(Z (EQ Z) Z),GD!,oJ n,
Jg9,Bq! Z (ii (tv Z)),N9!,Go (Z=Z Z),iH!,Co! OY,Di!,F1! DZ!,Yg!,Ah AN! b,JM!,YQ! x,iI!,.n AZ!,
Qm?,by show Aw? (Au (i:=Z) Z A! (XB! A!) Z) Z,Ar!,FE H p pw W,W?,by show EM? F Z,CY?,by change No! _ _ Z _ _,
OA!,E (EQ Z) Rs H,JN!,S.same Z,K6!,(UF Z),JhA,u=Ds! a,q?,by show d? e,A6!,B<=2400,K7!,EQ it,A7!,DB! (κ×V),
Bk!,AU e,JO!,Q wS H',i?,by show Bs #[_,A!,A!,_,A!,?_],ET!,(qs.set i HG!),Hc!,Nu! No,SJ!,Cp al n Z,
iJ!,YR! Z Z Z (Cq! Z),JhB,Ky! (Z g) GZ Z Z Z Z,GE!,Q H2,JhC,∃W:sB->sB->Z,(∃m,W 0 m Z Z)/\Z,AR?,by rw[e] at h,
SK!,(Os,Z),EU!,Dv! ?_,EV!,[A2!],GF!,(Z Z).symm,FE!,by rw[e],K8!,(y! (Z Z)),iK!,EQ po,BU!,DB! (Key×V),
JP!,Bq! p Z,SL!,DI! Z _ Z,K9!,Ix i,SM!,Z Z (EF!),iL!,(ii (Z DN!)),JQ!,D.nx σ Z,OB!,E5! Z Z Ai! Z,JR!,JD! KH! Z,
CW!,ED! y u,OC!,Aj (o:=ii Z) Z,SN!,(ZS (ZR Z)),BV!,DQ H H',SO!,Cb AE! tb,AG?,[_,A!,_,A!],OD!,HN Z f fd Z (Z),
Hd!,by(try simp only[Gr]);lia,AH?,by .show E? Z,JS!,λq:T2×Addr×List T2=>O!,He!,XV (Z),OE!,S! Z (F7! HL!),
Bl!,DB! (Str×Addr),EW!,P! hN Z,Yh!,WF Z e,y?,by show G? h,Yi!,(Af (Bc Z)),SP!,AW CW C CP H' p Z,
JhD,Wl Z m n sh qs ls,LA!,oJ gE!+1,JhE,λq=>((W! O!:Key),AK! WP),JhF,show SG! Z by decide,JT!,(JJ al),
JhG,[DU!,"h","a","b"],LB!,Dq W ZV,Yj!,(relabel sc SL).names.lookup,Yk!,(N1! Z Z),OF!,DF! Z Z,Yl!,BX! Qy! Z Z,
Cx!,λz=>?_,Ym!,show Z by lia,B0!,Aw! ?_,OG!,found++[t],SQ!,by simpa using Z,B1!,by simp at h,JU!,oJ k,
EX!,DB! (Str×V),LC!,y! h,Yn!,by rw[Z];simp,GG!,NB t,Hf!,BJ! p,Yo!,AY! z Z,OH!,HE! xL Z,iM!,B8! C Z Z Z A4! Z Z,
iN!,Br! Z Wc!,FF!,JB! BW!,JV!,R9! NL! Z,EY!,RN G t,LD!,SA! NG!,JW!,JE p W H H',Yp!,Pv i σ H,
iO!,EN FU! X.w Z xz Z Z,Qn?,[Af? C,Z,_,_,A!,Z,q!,Z,Z,_,_,A!,A!,Z,_,Z,Z,?_],SR!,W.GV++[(B9!,e)],
GH!,Sd m Z (Bd!),B2!,Sd m G n,Yq!,[DU!,"kind","sender","goal","about"],FG!,(Z).length,SS!,(JhF Z),
iP!,λ_ H Q=>Q Z H,j?,by rw[e] at e',Cy!,AJ! ?_,iQ!,(DH! Z),CE!,DB! β,GI!,DB! A8!,Cz!,DB! Env,GJ!,(by rw[Z,Z]),
FH!,SB l,OI!,Bq! d Z,OJ!,[DU!,Fe!],EZ!,Ad hb,ST!,Np! Z Z .dK Z,LE!,Cn! Z ii Z,Hg!,Fy! a,Ea!,Fz! FS,LF!,Bq! b u,
r?,by show G? #[Z,Z],SU!,λz=>Z KX!,CF!,ED! v u,CG!,α->T2,iR!,R9! y! Z,JX!,E8! H',Dj!,PJ G t,JY!,Cp (Z) n Z,
JhH,Yb! (qs.set i (q,Z)) Z,EN?,[Z,Z,Z,_,A!,A!,Z,A!,?_],C0!,(s,DW!,S),CH!,JhD C,Yr!,[DU!,Rh!,"given"],
Dk!,KV z! vs,C1!,Told G hs os rs,JZ!,VZ λo' e=>by rw[Z] at e;cases e;show#[Nx!,N0!],LG!,Z DN!,
JhI,(λz=>nomatch z),Hh!,UF ?_,JhJ,sizeLine=16777216,SV!,show Z by lia,OK!,by simpa using h,Ys!,#[Z,Q!],
iS!,DB! (Str×NameKind),Ja!,ZN h,SW!,wv (Z Z).map,iT!,Ay! α Z,Hi!,Ad (Al e Z),iU!,by rw[Z];lia,Hj!,Fx! KH!,
GK!,Fz! G.AK.map,LH!,(.ins C Z Z),SX!,B8! CW Z Z Z EL! Z Z,SY!,(SD! Z:Key),CX!,Cd (Mh! Z),SZ!,EI! Z Z AA!,
iV!,Ah AN! tb,iW!,Nv! Z i Z,Dl!,Z z hz,f?,by show B3 ?_,Sa!,xs[i]?=D! x,Dm!,Z b hb,OL!,(Aq (pv Z)),
CY!,W.nsIn K mainGlobals Z=D! (re (.ref Z)),Sb!,XV Z 0,Yt!,Str.length Z=Z,Yu!,Q (FB Z) H',iX!,Br! ff! c,
CZ!,AW CW CH CP H p W,Hk!,λq=>(tk q,V.bl GM),Sc!,Binds K Z Z [],iY!,IW.t (k:=tk Z) Z Z (Yf! Z),
Ca!,KT p K W m n d A' B' ys H Q R,LI!,Gq ZV,Sd!,BQ! Em c,EO?,[p,Z,Z,_,_,A!,Z,Z,Z,Z,_,A!,Z,_,A!,Z,?_],
iZ!,OQ Z d es ep,Qo?,by show#[Qn? Z Z T.nT (Cq _) Z Z (Ed _)],Se!,(DL! Z),OM!,(λi ys H2=>Z),ON!,Z xz Z Z,
GL!,λq=>YO!,OO!,(Z Z).Nodup,CZ?,by have I1:DY! H Z:=Z,Sf!,Z+A1! Z Z,LJ!,y.se++[(s,DW!)],LK!,D! (Z Z),
ia!,S! (Ad (Z)) Z,Yv!,SB pw,C2!,DB! (Str×Nat),FI!,P! s4 Z,OP!,[DU!,"b"],Yw!,W! hb,Eb!,[(Z,v)],LL!,Ma! (Z) Z Z,
Jb!,FD K H Z Z,OQ!,BJ! l,LM!,AK! a,Yx!,HE! bv Z,ib!,E4! H Z .dK Z,k?,by show Bs ?_,Yy!,Jgp 3 Z Z Z,ic!,AH Z Op,
id!,(AT (AT Z)),OR!,(A3 Dc Z Ag),Jc!,B0 0,Sg!,B7 qs,C3!,W.nsIn K mainGlobals Z=D! Rs,C4!,KI X Gn Z,
C5!,GB X Gn Z,OS!,NK! ht,Sh!,Yd! fs,JhK,Jg9 t Z,Yz!,CF H as Z,C6!,A0! a ta,C7!,SM! h Z,OT!,(Cu (IA L)),
C8!,OK P w H h,C9!,rs.Perm AN!,DA!,CA! (x==EB! "__debug__"),JhL,(.dK (CM! JhE)),JhM,Ns! Z s1 H1 I1 q1,
Si!,[DU!,Iz!,Ck!],JhN,h2! Ij! Z Bo! Z Z,Y0!,No! (model FU! X.w) A Z Q E,Y1!,#[NU!,Fr!,l.s,NE,sh],
Y2!,(IA (Rv! i)),Jd!,(hs,os,rs),ie!,(Cr bv Ag Ec),
if!,C8 (te:=Z) (AM!:=Z) A! Z A! ZV A! ZV A! Z Z Z ZV Z (Kz! Z),Y3!,(λ_ _ _ _ _=>Eh),ig!,(ow++YT!),Hl!,(Z,SB Z),
OU!,(CM! be).getD,GM!,NI! ta.1,Y4!,O!=tb,FJ!,0<=g,l?,by have XF:JhJ:=CQ,ih!,H!->Z->Z,Dn!,DB! HS,Hm!,oJ 1,
LN!,SB C,LO!,SB sK,FK!,P! s3 Z,Hn!,P! RD Z,Y5!,Inv X AB FN Z Z,JhO,by rw[Z];simp[BX],Ho!,Ix n,Sj!,Np! H' Z Z Z,
Y6!,(Ai! (Z AA!)),GN!,Nq! A8!,ii!,B8! C Z Z Z YS! Z Z,ij!,B8! C Z Z Z h7! Z Z,Do!,HF! Unit,Sk!,Sm AZ!,
JhP,λz=>Z (Yo! Z),Dp!,Array DictEntry,ik!,q.2.2.2.1,Dq!,FD K H a xs,Y7!,Ah AI! tb,Y8!,(Bp P w),OV!,(XA P w),
Hp!,Yc! xs,JhQ,In! h.toNat HG!,Ca?,by show Qm? 2 Z Z Z,Sl!,OC! [Z,Z] Z,
Be?,[Z,Z,_,Z,Z,Z,Z,Z,Z,Z,Z,_,A!,A!,Z,Z,?_],Ag?,by show#[_,Af (Aq Z),?_],Hq!,iP! GM,JhR,Qv! iE! X.A Z Z X.xe Z,
JhS,Ef m W W' al SZ ys EF H' Z Z,Sm!,ED! x v,Sn!,(CK (AU Z) Z),Ax?,[_,A!,Z,Z,Z,Z,_,A!],JhT,(t iA!),
il!,D_ Z (IV! Z),Qp?,by change Z=E7!-JF!+Cv t ls,Y9!,XT p G H Z,Dr!,Ya! (wE Z) (SB r),
LP!,λv H5=>YM! H5 p/\ys.length<sizeLine/\∃m',m'<m/\W v6 m' (ys++[v]) (YZ! H5 (ys++[v])),JhU,D8 hS! A! Z (Z) Z,
Je!,((Z i H2/\Z)\/(Z i H2/\∀x H3,Z i H2 x H3->Z)),ZA!,Nz Z P w K mg B3! N qual Z f Z A FX! s H E,
So!,(BX! Z Z Z),LQ!,x.2.1,LR!,S.2.1,OW!,λ_=>?_,Sp!,∀x c,iX!->Z,ZB!,B4! N8!,z?,(by obtain rfl:JhA:=rx),
GO!,b∉F9!,Sq!,g!=k,Ec!,Fh! ?_,GP!,Is!≠G.num,Hr!,O!∉ts,LS!,q.2.BB,im!,Z (JJ!),ZC!,Z (BD! Z),OX!,EQ b,Ed!,AF h,
Sr!,(CG.refl _),OY!,[DU!,"n"],Ss!,v! #[_,Z],JhV,SA! i+1,Jf!,Co! Ab,OZ!,Co! (AC Z Z),Ee!,ZN m,ZD!,Bc! CL!,
Ef!,AD c,Ay?,by show#[_,Ac Z Z,?_],Eg!,sB->GE,Eh!,sB->HS,LT!,CT _ _,Jg!,Array sB,Jh!,ED! x u,GQ!,R8! h,
ZE!,Z vs H Q E,JhW,DG! (Z->Z->Fx! Me!),Ei!,DT K H a xs,ZF!,Cn! r Ai! Z,Ji!,Bl Bs! O!,in!,Be! R xs Z,
s?,by cases ry;show Z (B6 I q Ch),JhX,Yg! / 2,Oa!,FD K Z Z xs,io!,Aj (o:=Ai! []) Z,St!,BD! #[Z,Z,A!],
ip!,PZ X (compareOp Z) Z,iq!,YY! bv Z Z Z Z Z (Kr! Z),ir!,((DH! Z).map Z).sum,Ob!,Li G ts,
Jj!,Jg3 Z (EP X AB σ Q),is!,(Heap.SameBut.update ..),Ej!,FM k HW! e,Su!,al=a++Z::b,Oc!,(am Z U!),Ek!,iT! β,
Jk!,iU! ZA,El!,Gl X x,JhY,(C7 (Jg4 Z Z) Z),JhZ,Heap.SameBut Z xz h',it!,(List.filter_sublist.map _).subset,
Jha,(by change G.BB<=EO!;show BW (AJ _)),ZG!,#[JG!,CL!],ZH!,Bl G O!,Em!,Pm p n,GR!,∃m',m'<m/\W v6 m' ys H4,
LU!,EM 2 f fd Z (Z),Jhc,(by change G.BJ<Kx!;show Df!),t?,by have#[f0,f1,f2,f3,f4,f5]:=hf it Ch,
Od!,W! #[A!,_,Co! Z],Oe!,FM Dx ZV ZV,LV!,WE++[(h!,ha,BO!)],Sv!,(B9!),Hs!,¬D t,AI?,(by by_cases e:Da!),
Of!,G.hand++[(KT!,G.BB)],FL!,tb∈HJ!,Jl!,λH1 S1 NP=>?_,FM!,W.ls.length<=2400,iu!,(Z (Kt! Z)),Sw!,w! Z Z (JB! Z),
FN!,(pv 6),Sx!,EQ C,Ht!,DB! (K×fa!),FO!,AD h,LW!,wv FS,iv!,(I.tok _),ZI!,B7! H1 Z,LX!,Z Z (y! Z),
Hu!,by rw[Z];show Z,ZJ!,Fx! Me!,LY!,Fx! H',LZ!,qs[j]?=D! HD!,Sy!,I.pin p Z,Sz!,Fz! Fj!,Hv!,Bc! ?_,
S0!,E4! H Z BA! Z,iw!,BL! hz,ix!,(FV (Z bi AB Z σ Z _ Z Z) Z),S1!,EC AZ!,S2!,AW CW C CP H2 p Z,ZK!,wE z,
ZL!,E4! Z Z Ai! (Z++[Z]),FP!,α->V,iy!,λz=>Z (BD! Z),Jhd,h4! t Z,iz!,(A3 Bb (A3 Bb Z Z) Z),Hw!,Jgw C Z Rs,
Og!,Ca (Z) n Z,Oh!,Q (XV Z) H,La!,Q (AG! Z) H,Hx!,F_ K C Z,S3!,iD! (DM! 2),Hy!,Bl Cr! O!,i0!,AA! (EC Z),
ZM!,(In! j HG!),FQ!,(If! be).Pairwise LI,FR!,λq=>(Nt!,YO!),Bf?,by show#[_,A!,Z,A!,Z],Hz!,A9! (MZ (FB Z) UJ),
S4!,(Cm (B0 0) F3),S5!,(g i j),Jm!,EM! (ii (tv ta)),i1!,Z _ _ e h1 h2,S6!,Done p G H Z (Q wS),
S7!,No! M A Z Q E,Jhe,(Ac (JhU Z (Jg4 Z Z) Z) Z),Cb?,by show#[Z,#[Z,Sc,AL!,h0],?_],Oi!,JV Z DJ! Z e (JhI) h,
i2!,Z mainGlobals mg,Az?,by have#[HM,hq]:=(i.at S).ob,H0!,(Ew Ae),S8!,(Ac Z (Af Z)),
i3!,Rt! hi Z A! Z (λt _=>?_) Z,Jhf,(As Ch! (Az! 0) (As Cg! N2! [])),Jhg,#[Z,0,0,h,o,l,Z,[],[],[],[]],
Lb!,[DU!,"beginner","n","turn"],i4!,(Z Z A! A! Z (λq hq t ht=>Z) Z Z Z).tk,Bg?,by show#[p,Z,_,_,W,A!,HB!,Z],
i5!,FM kE Z (.no _ q G Z hi Z A! A! A!),Jhh,(Qw!),i6!,(Au (i:=Z) Z A! (XB! A!) Z),Oj!,(r::p::L0),Jn!,HS! /\ Z,
ZN!,λq=>AK! WP,GS!,B4! ?_,GT!,IW! ?_,Ok!,λx hx=>?_,Jo!,let#[dx,e]:=x.ob;FB! Z,AS?,by have OJ:=IY! nd,
AT?,(by rcases ZI hz with hz|hz),S9!,{ G with hand:=SO! },Ol!,(Ap G (Gy! i)).AL.filter,Om!,l.2.2.2,
Jp!,DB! Expr,ZO!,w! KH! Z Z,On!,Z (.ref Z),ZP!,EQ f,ZQ!,EQ t,TA!,EQ D,TB!,XV Z t,GU!,Ad b3,i7!,(DM.mpr A!),
Oo!,l! (Ad Z) Z,Op!,Ix g,ZR!,BI! (Bm Z Z Z),Oq!,B9!+1,TC!,ZN ht,Jhi,HE! No Z,Or!,A3! Z [Z] Z,TD!,A3! Z A4! Z,
Os!,l.2.2.1,A0?,[_,A!,Z,_],i8!,(Ao (pl:=_) Z Z Z Z hr Z U! Bk Z),ZS!,Bt! e1,Lc!,Bt! et,i9!,Nv! ut Z Z,
TE!,oJ W.NO.length+1,AU?,by rw[AD (Sc)],GV!,YV! SE!,GW!,vs=[Cm!],Jq!,IR Z p Z,Ot!,w! mg Z (EQ Z),
jA!,DG! (HK!->Z),AA?,by show BO?;show Z (B6 I q Ch),Jhj,(h.lt V!),Jr!,SO qs t,Jhk,(In! h.toNat HG!),
ZT!,(tC (FB Z)),GX!,DB! (Int×Int×HS),EP?,by show ZC _ (BL! h),TF!,2 ^ 62,ZU!,[DU!,"h",Cj!],jB!,HQ X (Eu! Z) Z,
Ld!,DY! H' s',ZV!,(Ai! (CM! λy=>AO! wT)),AB?,by show HM! (show Q1! from hs) AQ,GY!,X.A.units+1<cLine,
Jho,SK! (YU! e),GZ!,JhK th,Ga!,Yz! ts,Jhp,Bu (AA Z Op),Bh?,(by rw[Z] at e;cases e),Js!,#[o0,o0],
Ou!,W.IB++[(n,xf)],Jt!,JhC HN! [] (YX! p []) (∀i m ys H2,W i m ys H2->Z),Ov!,#[Z,H,I.tok _,BR!,q],
jC!,∀H',db->Z,Jhq,(Aa Ay (Aa Z (HE! Z Z))),Gb!,A0! b tb,Ow!,(λz=>by rw[z,Z] at e;cases e),jD!,Q5 K H Z (DE! Z),
ZW!,(.IC o u),Jhr,KG items.size 0 lo,Ju!,KT H z! xs,ZX!,Z (a:=Z) (o:=Z) (t':=Z) Z Z Z,TG!,BA x q st Z Z,
H1!,Mh! Z,Ox!,XO! Z,H2!,Ff! ?_,TH!,t∈BN!,jE!,NI! Bb!,Ah?,by rw[ZH] at hx,TI!,λ_ _=>?_,TJ!,λc=>bb c Z,
Le!,i1++y'::i2,ZY!,by rw[<-Z,Z],jF!,Z (DH! Z),TK!,(pv 8),TL!,DB! (Str×Value),ZZ!,wv CM!,H3!,(EH _),TM!,Kr! bv,
Oy!,P! QP.BV Z,H4!,W! A!,Lf!,FM Z Z (JE! Z),jG!,WF (Al e Z) Z,Lg!,Ku! V,Za!,EC! IQ!,TN!,Fy! lr,Oz!,ZN h1,
O0!,Nq! L2.St,Lh!,Q v H',H5!,EE! ?_,H6!,Kv! Hp,jH!,(re (AU! Z)),O1!,HN 2 Z Z Z (Z),H7!,Sm i,
TO!,(Av Cj Z Z YL!),Zb!,CA! (a==sysModules),Jht,Jgp 4 Z Z Z,Li!,Db! AZ,Lj!,(Z Z).trans Z,H8!,Cz l,
Zc!,Nw! Gt! Z,TP!,K0! Z Z [Z,Z] Z Z,TQ!,HR! f Z,jI!,(Dt! hq).1,A1?,by show p? ZI,H9!,RO K Z Z [Z] Z Z,
Bi?,by show AT (y! Z),jJ!,Bm AN! tb (Z),EQ?,by show CY? (Z >>= _),IA!,E4 w9 Z,Jhu,iL! BW!,
Lk!,h4! ta (λx H1=>Z),AJ?,by show AH? k,AK?,(by show AR?;cases h),AL?,by show AT (AT Z),
AM?,by have#[s,nu]:=x.num hi,IB!,iZ! xz,IC!,K.In xz,Ll!,Mf! #[Z,Z],jK!,(by rw[e] at z;cases z),ID!,in! ys,
jL!,(λy h=>QX BR! h),Zd!,G.holds++[(HH!,a,[])],Lm!,JJ al,Ln!,W.ls=l1++(AX!,t)::l2,IE!,A0! o td,Ze!,Y5! H' s',
jM!,Z AB s σ H Z I Z,TR!,(Bp FU! X.w),Ai?,by show Z (Z:=Z) (Z:=Z) (Z:=Z) Z Z (Z) ?_ ?_,AN?,by have S1:=JN! s1,
Aj?,by (have h:Z:=OK!),A2?,by show#[_,Ac (Bc Z) Z,?_],jN!,λi=>as.getD i 0,Jhv,N9! (AO! Z) AU! Z,IF!,(Jv p d),
TS!,w! Z y .cell\/w! Z y Eq!,jO!,∀FN H',Z FN H'->Z,Jhy,T2×Addr×E!,IG!,(I.ok.hd hc),IH!,DB! (F4!×fa!),
ER?,by show#[x.step hi Z Z st Z,st],Lo!,Sa K mg Z Z,AO?,by show#[AL!,Q!],jP!,(Z hi (Z) λt ht ne=>Z),
Jh4,(λy h=>Jo Ks! h),TT!,Wg D m F5! sh Z Z,Zf!,∀b u,LF!->b≠p->SC! Z,II!,B8! CW RX! "World.house" Ee HI! fH dH,
jQ!,D9 (pl:=_) Z Z Z Z Z Z U! Z,Cc?,[Z,_,A!,Z,Z,Z,Z,Z,Z,Z,Z,A!,Z,Z,_,A!,?_],jR!,∃z,w! cl.lookup Z z,
jS!,Qv! Z _ Z _ _ Z,jT!,(E (EQ Z) Rs H),A3?,by have#[z,tx,kq]:=AD! (v:=v) ef wi fr fp,Jv!,hR! Z,jU!,(OG!),
Jh6,A9! (wv (backTo Z (fp! Z SL)).any),O2!,o.data=.dict es ep,Jw!,(Z).Nodup,TU!,∀p∈X.pn++AB,Z,
Cd?,by have:=(Dt! Z).2,JiA,(λz=>by cases z),Zg!,{ s with toks:=s.toks+1 },Jx!,λe he=>?_,Jy!,sc.kind=.function,
jV!,λj=>i0! j,Jz!,Fb! ?_,O3!,(EC Z).cps.toList,Bj?,(by rcases ZM hb with rfl|hb),Bk?,by have hr:r∈Z:=hr,
TV!,Ey! HJ! Z,A4?,(by rcases OS! with ht|ht),JiB,t=HH!,O4!,tb∈B8 Ax! ta,O5!,O!∈R,jW!,(IA (L.take i)).flatMap,
O6!,O!=th,jX!,W.ls++[(B9!,t1)],AV?,by have z3:=x.OM hB,jY!,y.se.length+1,Zh!,y.fi++[(s,DW!,S)],Zi!,x4 % DZ!,
TW!,by simpa using c,Ce?,by show Y?;show Z,O7!,(pv 7),J0!,EQ x,O8!,S! e Z,ES?,by show Z (h6! Z ?_),O9!,P! Z Ab,
TX!,B7! Z m,Zj!,Nn! Z ob,PA!,AC s1 Z,Zk!,v! (JH! ht),PB!,BI! l,PC!,W.qs[j]?=D! HD!,J1!,Ku! G!,PD!,Fy! l,
AW?,by show ZR ?_,AX?,by show ZR (Z Z ?_),AY?,by show I? h Z,Zl!,λz=>Z (S! z Z),Zm!,EH! (Z).map,jZ!,F3! h,
TY!,EJ! ZH Z,J2!,Bx p W',J3!,X.N[i]?=D! x,ja!,YR! Z Z Ag Z,JiC,Ky! (Z g) hr Z Z Z Z,PE!,F8! H' Z,
Zn!,(.IC ob (Z Z)),J4!,λq=>(Nt!,AK! WP),jb!,Cn! a ii Z,PF!,Q (XV Z) H',PG!,N3! (IR Z p Z) Z,JiD,N7! Z Z JC! Z,
JiE,Jg6 lm Z,Zo!,IW.k (k:=Z) Z Z,JiF,iG! G'.AL.map Z,jc!,λq=>(Nt!,PP),TZ!,OB! Z Z [],
JiG,YN! Be Bi g.T.len CJ Z,PH!,λq=>! ZH!,AZ?,by show ZS ?_,Zp!,show Z by simp,Zq!,AT (y! Z),
PI!,iN! sc.names.lookup,PJ!,BN g0,J5!,EG! a o,JiH,Z Z H (λ_ H'=>JO!) E,JiI,SW! Z (Kt! Z),Zr!,G.AL++[(HH!,R7!)],
Zs!,LL.lt s g ts,PK!,Cz ut,Zt!,Jg7 (AH z1 hn),Zu!,(Gz! LC!),Zv!,MN Z g Z h',PL!,tt (Ye!) H3 λb H4 =>Yl! Z Z,
J6!,W.excIn K Z [EC! XM!,EC! "Exception",EC! RR!,EC! "object"] "ValueError.__new__"=true,J7!,A.units+1<cLine,
jd!,Ck z! k,Ta!,λq=>AK! O!,Zw!,F0! t Q,je!,dJ p W H x,JiJ,EN! kq.BV QO.BV Z,Zx!,(tC (XV 0)),
Zy!,Wl C m F5! sh Z Z,J8!,OP qs ls Z,JiK,iY! tb Z hb (Jhp Z),J9!,RM m qs ls al n fi se,KA!,LH X sc cl AM!,
A5?,by show Rv (Mi! Z) (λnx RD=>?_) ?_,KB!,JD X.env.cells cl,KC!,λr=>JI! h! AZ!,KD!,∃z,w! cl.lookup y z,
jf!,wt-Ir wt,Zz!,(Pg ry),jg!,Kb! (MK Z) Z,Tb!,DY! H1 s1,KE!,[(DU!,0)],PM!,(Ac (Bc Z) Z),KF!,(Ai Z (Ai Z Z)),
Tc!,Dr m g Z Z,Z0!,.t r.1.1 r.1.2,Td!,E9! o0 o0,jh!,#[Ba!,Fr!,l.x,NE,sh],JiL,KG items.size items.size hi,
ji!,λq=>(tk (k q),f q),JiM,(B8 Ax! ta),Z1!,(Ac (Bc Z) (Af Z)),
jj!,λv H5=>YM! H5 p/\ys.length<sizeLine/\N (ys++[v]) (YZ! H5 (ys++[v])),
JiN,(qs.set l.th.1.toNat (q,F2 G NE sh Z)),JiO,WI Z Z W' D' m Z Z A' B' SZ EF,
ET?,by have GH:N7! fH dH HI! El:=Ei MH.fn T TW,JiP,JhB fV g.mC1.mg g.mC1.fn.kp g.mC1.bd Z,
Aa?,by show Qo? HM IJ HM IJ,KG!,fp! (Ml!) SL=Jho::fp! es SL,jk!,iC! v4 MH.mt GH GZ MH.bd No,
Z2!,EP X AB σ Q Z Z,Lp!,Ma! Z,Lq!,am Z Z,Lr!,Kb! Z Z,Ls!,v=A2!,Ak?,by .show y! (y! Z),
Cf?,by rw[show Z from rfl],Te!,BX! Z (D! Z) Z,Tf!,λ_=>V.bl GM,jl!,λb u e=>?_,Tg!,b∈CS!,Lt!,(Z,[true]),
Bl?,by show H? ZA,Lu!,λe=>?_,Lv!,x=K9!,jm!,[D5!],Al?,(by by_cases e:Sq!),Th!,λm=>?_,
Am?,by have#[u,rfl,rx]:=vals1 r,JiQ,RP! (Ey! BN! Z),Ti!,NI! Is!,Lw!,G.AK.length<=500,
Tj!,λ(q:T2×Addr×List T2)=>(Nt!,AK! WP),Lx!,λt ht e=>?_,Ly!,G.AL.length<=500,An?,(by by_cases d:t=l.th),
Lz!,l.kind=E1!,jn!,λl h=>Ao! h,Bm?,(by rcases Cv! (Cf _ _ _).2.2 with h|h),Tk!,fi++[(s,DW!,S)],
JiR,y.fi.length+1,Ao?,by .show I? Z Z,L0!,by grind,Z3!,w! Z (EB! Z) Z,jo!,(by size_fits),L1!,S! (h9! Z) Z,
Tl!,SB x,L2!,DB! (Jhy),Z4!,wv fi.map,Tm!,(AX _),L3!,(AR _),Tn!,Kr! No,L4!,P! s6 Z,L5!,P! Z e1,L6!,[DU!,Cg!],
jp!,[DU!,"a"],L7!,[DU!,Iz!],To!,AC s4 Z,jq!,AC Z (Z b' o' e' KR),L8!,am Z (Z Z),jr!,DY! H s',L9!,BJ! a,
Tp!,Kt! (O!≠t),js!,A1! BW! Z,Z5!,(Sg!++Z),jt!,Ab! BE,Tq!,Ab! CT,MA!,Kv! d!,Tr!,Sm Bb!,Ts!,Sm t.2,MB!,sB->G!,
ju!,(Bh Z (Cq! Z) Az),Tt!,Bf! rel,jv!,(Af (i6! Z Z Z)),Z6!,(Af (Aq (Z Z))),jw!,(AA Z Op),Z7!,EJ! Z ZF,
MC!,RN! Z Z=true,jx!,A5! Z nu,jy!,Ca al n Z=[],Ap?,by show Bd? ht,Tu!,[DU!,"b",Ck!],jz!,Kz! (pv 0),
j0!,[(B9!,t)],JiS,DG! (Fx! Z->Z->Fx! Z),JiT,(Ao (pl:=_) Aa! Z Z Z Z Z U! Bk (Kr! Z)),MD!,JE p W H H1,
JiU,(A9 Bg No Ag),j1!,YU! o,Tv!,#[us,[]],JiV,#[EV!,[]],j2!,Jg3 Z (Z),j3!,E9! Z A!,
Cg?,by change G.AK.length+_<=_,ME!,h9! fA,Tw!,CM.mp hx,MF!,Yc! vs,Bn?,by show AT (AT Z),j4!,DG! (Fx! Z->Z),
j5!,[Ix Z,Ix Z],MG!,DB! (Int×Addr×HS),MH!,A0! e te,Tx!,(0,0),Ty!,[DU!,"h","tick"],
j6!,SP! { W with qs:=Z,c:=Z,ls:=Z },j7!,(FV! x p),j8!,by have:=Z;show U? Z Z;show this,
j9!,(XL! Eo! (Z Z).toArray Z),kA!,(Dj bv Fu A!),kB!,Bb!=cr,kC!,(Nt!,YO!),MI!,0<PP,JiW,Ys! HQ!,MJ!,Rh qs t,
MK!,G.AL++[(HH!,0)],Tz!,l[i]?=D! q,T0!,Cp Z n u,T1!,Ca Z n u,T2!,Aj (o:=Ai! (Z DN!)) Z,Bo?,by show y! (AT h),
T3!,(A3 Bb Ay xL),T4!,(.IC o (.dK z!)),kD!,(.IC o (BA! z!)),kE!,Nw W W' Fi! [],Z8!,XS! Z TO Z Z,
Ch?,by cases Z;show O? Z,kF!,Bl Bs! t,Bp?,by show C_ λq _=>?_,Z9!,OE m l,T5!,JhP Z hb,ML!,Cn! a .dK z!,
Qq?,by show Ca? Z Z (Yy! Z Z Z),JiX,λz=>Z (by simp[z]),MM!,V->C!->h8! VK,kG!,YP! _ EP!,MN!,∀b∈BX G',b∈CS!\/Bg!,
Aq?,by have QP:=NV! S IT,JiY,(BC! AU!),kH!,Ck (Fg! Z) Z,T6!,CF Z bs (Z Z),T7!,(by rw[ZH,Z];rfl),
EU?,by change Sf! Z EC Z<=_,MO!,PA X (Ml!) t,JiZ,jC! (Yu! Z),Jid,Jhg cr r',kI!,FC! Z+He t l,kJ!,(V.bl GM),
MP!,Led L t,T8!,(IL.mp ht).1,MQ!,Cn! l Ai! xs,Qr?,[o?,dx,_,A!,hp,Z,_,A!,Z,Z,Z,A!,Z,?_],MR!,Binds Kx fd ps ds,
MS!,FY FU! X.w Kx X.mg Qr! CX k f fd ps sp,kK!,λkv=>Go (Gg!=k),Bq?,by have#[q,G,hi,i]:=cn ok,
kL!,λq=>(([q.1.1,q.1.2]:i!),PP),kM!,EE! (iR! ht),MT!,ic! (AA Z hn),T9!,[DU!,"b",Ck!,"mine"],kN!,(Lb m b S1),
kO!,Mv p W ys Z Z H Z,Jie,iq! R1! hz! (dW g) bB h0! Z,aA!,b h=true,Jim,IW! (Z y (BL! hy)),
Ar?,(by rcases ZI hu with hu|hu),Br?,by have#[s,nu]:=x.sd i q G hi,MU!,B<=B'+1,MV!,A'<=A-1,
kP!,[DU!,"beginner","n"],UA!,Ok Z (Bd!),UB!,(XV i t),Ci?,[L?,p,Z,Z,_],Bs?,(by rw[Z] at hx;cases hx),
MW!,DD! SE ds,UC!,[DU!,"h","tick","state"],As?,by have#[s,nu]:=DX! Uf,UD!,∃t,u=fU! i t,aB!,(Dx! z! k v),
Jin,(Dx! I.ss Nz! v),Jir,Dc! (Nw! Z Y4!) tb Z,aC!,EM 3 f fd Z (Z),kQ!,HP! (iO! H d Z) (SL! d Z),MX!,Hk CX X E,
MY!,B8! C "is_near" "House.is_near" Kg JC! f1 c9,kR!,P5 X AB Z b,aD!,λzs H' pz=>#[_,Q!,A!,JK,pz],
aE!,[AO! n,AA! kd,AU! h,AO! g],Jiu,((iC W h/\OA! NH)\/G_ λq G=>By!/\Z),kS!,(if! Z [] Z CL! Jh4 CL! Y3! Z),
Jiv,#[Z,I.os,IO!,I.base,I.loc,KI!,IN!,I.KN,Z,DI!,I.len],PN!,.tuple Z,aF!,(vs++SE),aG!,(λi ys H2 _ h=>Z),
PO!,(JJ!),aH!,FW! Z Z,Jix,by show Z Am!,aI!,(FS Z).Nodup,aJ!,x≠"__name__",PP!,y=Cs!,Ji2,Mm! JX!,aK!,λw hw=>?_,
A6?,by have hl:=Bf! Z,Ji4,(BW! Ds!).getD,PQ!,n<=60,PR!,m<=12,PS!,M8! ?_,JjA,λb o e _=>Z b o e,
A7?,by have nd:=IY! nd,aL!,AJ! (Z t Z),PT!,∀h:sB,Z,aM!,z.2.BB,JjB,λb' o' e' KR=>?_,JjC,Ah AN! NE+l.x,
PU!,W.ls=[],PV!,X9! (SG m z),PW!,AH!++new,PX!,d<900,A8?,by have#[_,rfl,rfl]:=eZ pa,A9?,by .show y?,
PY!,by simpa using e,aN!,by rw[Z,Z,AM],PZ!,DB! Fc!,aO!,(by simpa using h),aP!,#[OZ! Z Z,Z],kT!,oJ NG!,
kU!,kvs.length<=sizeLine/\Z/\Z,Pa!,DB! (Str×GI!),kV!,wv G.AK.map,JjD,wv se.map,Pb!,(DO _),aQ!,P! kq.BV Z,
Pc!,Ad b7,aR!,(EW.mp Z).1,aS!,l! Z (Z Z),Pd!,Np! Z Z ii Z,aT!,BJ! r,Pe!,W.qs[h]?=D! HD!,aU!,Cn! Z .dK Z,
Pf!,Bq! b (ii (k.map kV)),aV!,hR! (Z Z Z),kW!,HE! KB Z,Pg!,A3! Z [Z,Z] Z,Qs?,by show#[L?,EO? C Z Z q! Z Z Z Z],
Ph!,YK! BE! Z,Pi!,YK! wn Z,Pj!,YK! Cg! Z,Pk!,YK! Ch! Z,Pl!,YK! Ci! Z,Pm!,YK! CN! Z,Pn!,YK! Cj! Z,
JjE,EE! (R8! ht),Po!,inClass (top 27) Z,BA?,by rw[ZK h];show Z,Pp!,sB->HN!,Pq!,WI H pw W D m n d A B al ys,
aW!,EH! FS,BB?,by have#[t,rfl]:=r;rfl,BC?,by cases r;rfl,Pr!,α->A8!,aX!,FD K H a Z,JjF,D! Z::D! Z::R6!,
kX!,Nu! Hc!,Ps!,BK hq,aY!,E8! H1,aZ!,(A3 E6 Z Ag),Cj?,by show Bd? hl,BD?,by show Bd? hz,aa!,[DU!,"h","b"],
kY!,SB! (t∉R),ab!,SB! Sz!,kZ!,M_ W g q G,Pt!,YW! "len",Pu!,FM k (CB! Z) Z,EV?,by show BO?;show Z (B6 I q Z),
Pv!,Pv 0 σ H,Pw!,Jgw CW Z Rs,Px!,EQ! Gn!,JjG,HR! I.base.there Z,Py!,iB! A!,ac!,N3! H2 Z,Pz!,F_ K CW Z,
JjH,N5! Gt! Z,ad!,SH! y! Z Z,P0!,HZ! A4! Z,JjI,JL! Z (GB! Z),P1!,SO ut t,JjJ,h6! ho ?_,ka!,h6! he ?_,
Qt?,by show Qm? 1 Z Z Z,JjK,iJ! Jw Z Z Z,ae!,EW! #[Z,Z,?_],JjL,Yh! np.symm,af!,Yi! (E5 DG EJ EI Ej Z (Kr! Z)),
ag!,SQ! (EX e),P2!,#[t,A!],JjM,(hV! be).map,JjN,l1++(n,t)::l2,JjO,Dx! y.I.fs h5! (XV DW!),
JjP,Dx! y.I.cs h5! (XV DW!),P3!,KQ (XD G a),ah!,B8 Ax! t,JjQ,FV (JhM Z) Z,JjR,(Ai! (CM! λz=>AO! Ah!)),
kb!,D7! L,P4!,Ma! (H_ K H) Z (Z Z),ai!,Hm fi h,BE?,(by rw[Z] at h;cases h),BF?,by show AT (y! Z),JjS,SY! h!,
P5!,Ok Bs! n,P6!,DW k A,P7!,DW k X.A,P8!,Z j q G Z t Z Z,JjT,Y0! (call (Eu! Z) Z),kc!,Addr×Addr×Addr×Addr×Z,
aj!,Bl Cr! t,kd!,Y6! R0!,P9!,Cn! a BA! z!,QA!,W2! vs ns,ke!,(D6 z! k),BG?,by show S? ZS ?_,
EW?,by show R? #[Z,λx H3 y=>?_],kf!,ER! ty (λy H2=>Z),ak!,Oa! Z a,JjU,(Mr! o m apos),QB!,MZ (FB Z) XO=true,
al!,Hj G R,am!,(Ac (Cs hu Aa! No Z A!) Z),kg!,Br! H' ZV!,an!,Z _ _ _ _ Z,QC!,Nm W d,ao!,WK K C,
JjV,DG! (EK!->b≠p->Z->Z),QD!,(C3 hu Aa! No),ap!,W.mroIn K Z (DE! "object")=D! GM,aq!,AllBare s'.gens,
QE!,wv Z=wv Z,JjW,(tk q,V.bl GM),ar!,DG! (EK!->Z->Fx! H'),QF!,Up lt p Z,BH?,by have e:b=it:=by simpa using hb,
QG!,ys.flatMap Dg,JjX,if Da! then(O!,v) else q,EX?,by have S1:F8! (E4! H Z By Z) Z:=Z,UE!,(ZU _ A!),
JjY,YN! Be (Z A!) Z DX Z,JjZ,Z (h3! IQ! IL! Z),BI?,by show x? (Ns! hl s H I h),as!,JP! (R5! CD Z),
QH!,jp (h z iw!),QI!,a! x qual st,at!,te (Ye!) H4 LP!,Ck?,by have#[z,hd,vs,rel,dd]:=SI! Pr,au!,[(wn,1)],
kh!,E5! Z Z .dK [],av!,DD! xs At!,Jja,lt (Gp! Z 0) Z=true,aw!,Dc! Z q2 G2,ki!,Z [Cm!,F2!,A2!,Cs!] H Q E,
Jji,JK! l (Ai! (Z Z)),BJ?,(by cases (show JhA from rx)),Jjj,ZX! I.laid Z Z Es! (Z) Z Z,EY?,by change jS! _ Z _,
QJ!,(i,j),QK!,∀y∈sc.names,y.2≠.cell,Jjy,(Z hu Z Z JG!),JkA,A0! (.Call (Mr! o Z apos) Z [] IK) Z,
ax!,(Jh Cj Z Z YL!),JkB,Z Z m F5! sh (qs.set i (q,Z)) ls,ay!,(AA K3! cs.2),Cl?,[Z,Z,Z,A!,Z,A!,_,A!,?_],
JkC,iC! v4 Z Z Z Z KB,QL!,FD! Ar Z 19,az!,Ax (λ_ _ e=>P! Z e) Z,a0!,(iN (DH! n)),a1!,CF H' as ts,
BK?,by show(show False from r).elim,a2!,(kA X AB E),QM!,Jh6 bi es,a3!,W.Looks K1! hh Z Z,
Cm?,by have G1:E6! f1 d1 Z Z:=Z,QN!,Bd x q st Z,JkD,Z hi Z (Z) (hd! Z) N4!,QO!,cT W m dd,QP!,#[hp,g,d,tk,os],
a4!,a.1=b.1,JkE,JiL-Jhr,BL?,(by rcases ZI hq with hq|hq),QQ!,(Aw! (by cases hq)),JkF,∀ys H2,Pv Z ys H2->GE!,
BM?,(by rcases ZI hb with hb|hb),BN?,(by rcases ZI hr with hr|hr),a5!,Ah AI! b+sh,a6!,(eval Z env),
Qu?,by (have kq:DQ Z Z:=JZ! Z),a7!,In! i HG!,kj!,Wg Z m Z D2! Z Z,QR!,DF! A! h,JkG,EE! (R9! Z ht),
Qv?,by show I? q Bool.false_ne_true,Cn?,by have:=FW! List.length Z,QS!,(Cb l u),QT!,Z b Z b Z A!,
Co?,(by cases (show u=Ds! b from ry)),QU!,Ik Z a b Z,a8!,Qv! K1! A Z (Z) Jhh Z,QV!,Be! (NC H W.GV) l1 a,
QW!,Be! (NC H W.GV) l2 b,QX!,(IR H5 d JhL),
kk!,g Z σ H λQM H2=>tb { D with nx:=Pv (ww),ct:=Pv (ww),bk:=D.nx } QM H2,
QY!,_++((if Z/\Z then some Z else none).toList++Z),JkH,Be! (RecAt Z) Z rs,QZ!,HW H p I,
JkI,GF.t (k:=tk th) Z ht,Qa!,B8! C "need_in_hand" "House.need_in_hand" Hg JC! f2 c8,
Qb!,B8! CP "put" "Post.put" Nc Yq! f3 d3,a9!,λh=>JI! (Hm EA! h) (cf h),JkJ,Z (λz=>JI! Ah! O!),
Qw?,[_,_,H1,A!,I1.kept (t':=s1.toks) Z,Z,Z,Z,q],Qx?,(by rcases hk with hk|hk<;>cases hk),Qc!,WK Kx C,
Qd!,A9! (behindInMarks op b),UF!,[EC Bb!,EC t.2],Qe!,TE->TE->TE,Qf!,closureFor sc SL=Er! cl,
Qg!,Pv 0 [] (YX! p []),JkK,No! (model FU! X.w) X.A Z Q E,JkL,(jQ! Z Z Fo! G1 Z D6! Z),
JkM,k _ (Z Z G.BB (Kx!)) λb' o e h1 h2=>Z,
Qh!,(Z i H/\JQ! H)\/(Z i H/\∃N:Z,(jO! N (∃m',m'<m/\W v6 m' FN H'))/\∀x H',Z i H x H'->g x σ H' λQM H2=>tb { D with nx:=N,ct:=N,bk:=D.nx } QM H2),
Qi!,∀y∈sc.names,y.2=Wc!->w! sc.names.lookup wT Wc!,Qj!,∀y,(w! Yj! y .cell\/w! Yj! y Eq!)->∃c,w! cl.lookup y c,
kl!,λi m ys H=>m=Z/\Z/\Pv i ys H,
JkN,Z b' o' Z (λz=>KR (F3! (by rw[z];simp[Ci]))) λz=>KR (F3! (by rw[z];simp[Ci])),Qk!,OR cmp lt n s,
Ql!,∀v,foldedSetIterable iter SL v=Er! v,Qy?,[a,ns,Z,A!,Z,Cf!,o0,o0,Z],JkO,Turn P w K tg Z [it] it (λi h=>Z),
JkP,Dk Z p pw m n d Z B W D al ys,Bt?,by show Ab?,UG!,W i m σ H -> Z,km!,(f5!),kn!,(Kt! Z),JkQ,(AC!),JkR,(LV!),
JkS,(Zf! Z),JkT,(λzs H'=>∃m',m'<Z/\(m'=Z/\Z/\Pv (ww) zs H')),UH!,Dy! Z Z,JkU,Z ET! Z,ko!,l.kind≠D8!->Z,
kp!,A9! (Go Z),kq!,BX! (c=true) Z Z,UI!,λ_=>0,Bu?,(by by_cases hb:b=a),EZ?,(by rcases hc with rfl|hc),
UJ!,b∈Ci p W,UK!,x=FH!,UL!,y=Ix j,UM!,o.cls=Za!,UN!,[Fe!],UO!,[CP!],kr!,[AU! (B9!)],UP!,ZA ..,
Bv?,by have#[u,rfl,t,rfl]:=vals1 r,UQ!,O!=k,ks!,(rel.val k).getD,JkV,q.2.2.2.1.take,
JkW,[EC n,kd,EC h,EC g].take,UR!,n<=62,US!,z.length<=9,UT!,a++[t],JkX,{ cls:=EC! Z,dict:=none,data:=Z },
Bw?,by have nd:EH! Z:=Z,UU!,h!=t,Bx?,(by rcases hz with hz|hz),UV!,Bb!≠G.num,UW!,ta.1≠G.num,By?,by show d? e2,
UX!,AJ! (R8! ht),kt!,∀t∈ts,GG!,UY!,G.hand.length<=500,Ea?,by have s3:=io! Z,ku!,Y7!-wt,kv!,l.th∈HJ!,
UZ!,Ah AI! NE-l.x,Ua!,∀(j:Nat)(q:Addr)(G:BZ),N6! (qs[j]?) Z,kw!,hh! (N6! (W.qs[j]?) Z),Ub!,W.qs.length<=12,
kx!,λs g ts hz=>?_,Uc!,λ_ c=>bb Z c,Ud!,Z (S! Z Z),Eb?,by show#[_,A!,_,A!,Z,Z,A!,Z,?_],Ue!,EQ v,Uf!,S! e1 Z,
ky!,S! eh Z,kz!,DB! (Addr×C!),k0!,Bm! h,Ug!,K.In h,Uh!,P! s1 Z,k1!,[DU!,"row"],Ui!,Az! i,Uj!,(KZ! Z).1,
Uk!,FM c7 Z Z,Ul!,qs[h]?=D! HD!,k2!,W.qs[g.toNat]?=D! HD!,k3!,WF Z x.dr,Um!,Fy! d,k4!,Fy! ln,k5!,Fy! lw,
Un!,Co! S.hs,Uo!,Cp! H1,Up!,HF! Kw!,Uq!,a! fy! Z Z,Ur!,YK! KU! Z,Us!,F1! sh,k6!,F1! AZ!,bA!,(Li G ts),
Ut!,AW CW C CP H1 p Z,Uu!,inClass (top 20) Z,Uv!,sB->A8!,Uw!,BD _ _,Ux!,CA! (d==sysModules),k7!,JD! Cd! Z,
k8!,Jgp 5 Z Z Z,k9!,Db! e,lA!,EI! DH! Z Z,lB!,EI! Z Z CK!,lC!,F3! m,Ec?,[Af? dx],lD!,EJ! ZE Z,Uy!,EJ! DE Z,
lE!,AG! GM,Bz?,by show Bd? hr,Uz!,F7! i7!,U0!,EM! o,U1!,EM! Sh!,U2!,(model P w),lF!,oJ cW.length+1,
lG!,Ny! sK Z,U3!,QC t l+Cv t Z,U4!,YV! F2!,lH!,YX! l Z,U5!,SD! n,U6!,h9! jN,lI!,x.po.keep (Z) (Z),U7!,Dg! e,
lJ!,Dg! EP!,U8!,FE H p pw V,lK!,CM.mp hz,JkY,(re (Eu! fz!)),lL!,[DU!,"h","g","b"],U9!,KL ?_,lM!,Jg7 UW,
VA!,jd!=D! v,VB!,(g,DW!,S),VC!,(l+r) / 2,VD!,A0! e ty,VE!,2 ^ 64,VF!,K8! AT Z,VG!,P! s e,VH!,A0! o ta,
lN!,JR! o,JkZ,h4! td (λx H1=>Z),VI!,LI a b,lO!,OD! 4 Z Z,lP!,(XL! Eo! Ep! Z),lQ!,OF! A! Z,lR!,(CM! be).map,
lS!,OH! An!,lT!,Bb!=AZ!,VJ!,A9! (MZ (FB Z) XO),lU!,Hu [Cm!,Z] H Q E,VK!,X.A.units+64<cLine,
lV!,#[Z,A!,#[_,Co! Z],Z],Jkj,(eval iter SL),VL!,F5 W1.qs,VM!,Nw W W' Fi! L,VN!,Kp p Z HB,VO!,Kp p Z (IR Z p Z),
VP!,(λq=>hb (by simp[q])),lW!,HT! e h1.trans,lX!,JhR Z (Z) Z,lY!,LL.lt s Ct! ts,lZ!,Y9! H',
VQ!,w! (Fb W).lookup (EB! Z) (EQ Z),VR!,Gq! hj,Jkr,Sp! (c≠b),Jks,im! Ds!,VS!,V->V->h8! VK,
VT!,MZ (FB Z) UJ=true,la!,JJ (AH!),VU!,P! k.BV e2,lb!,keepR G R,VV!,Nm W i,VW!,k Z Ch _ Z,lc!,Oh! (Z),
ld!,D! (FB (Ar ta)),Jkt,Jhe Z 4 Z Z Z,VX!,W.mroIn K Z (DE! RR!)=D! GM,VY!,Rr G tb,VZ!,Rt G tb,le!,Gp! i 0,
Va!,TD! A4! Z,Vb!,#[Z,H,I,A!,q],Jku,jA! ZJ!,lf!,(I1.EE.fresh (ZG _)),lg!,(KZ! nd).2.2,Vc!,jB! "sorted" Z,
lh!,Sn! e I.ok.above,li!,(A9 Bg Aa! Z),lj!,fb Z g e cls,Vd!,Pp G ta tb,Ve!,Ng G ta tb,lk!,ys=SZ! (Z i).map Z,
Vf!,(.dK z!),B0?,by show AA Z Op,ll!,FM fr Z (cY Z),lm!,Zc! Da!,bB!,(Ng G ta tb),Vg!,Cn! d .dK z!,
Vh!,Qv! K1! A Z Q E Z,Vi!,jw dd,Vj!,ts[i]?=D! t,B1?,by show ES? Z ha,ln!,(Bh Z (Af (Gk A! A! Z Gw)) Az),
lo!,ja! Cj Z Z,lp!,JhB fQ g.mLl.mg g.mLl.fn.kp g.mLl.bd (Kr! (Jie Z)),Vk!,(Ka! (XS t)),Vl!,Bb!≠Ct!,Vm!,-(TF!),
Ed?,by have#[z,hd,xs,rel,dd]:=SI! Pq,lq!,(My EA!),Vn!,DD! (Z Z) us,Vo!,Z (λz=>Z) λz=>Z,Vp!,A0! l tl,
lr!,(l.set i r),Vq!,DT K Z a xs,Vr!,Z xs H Q,Qz?,by show Qq? Z Z Z Z (Jht Z Z Z),
B2?,by show#[o?,C,dx,_,A!,Z,q!,Z,Z,?_],ls!,WJ p W I H H',lt!,KI! x c e,lu!,Nv W W' QD L,lv!,ax Z it es as,
Jkv,tt (Hg!::R6!) H2 Z,B3?,by show E? (K8! y! h),Vs!,W.mroIn K Z (EQ HE)=D! GM,lw!,W.NO++[(TE!,io)],
Vt!,OL (R_ Ax!) k (Rd! G) [] R,lx!,LG p b ts H Z Z Z,Vu!,λ_ _ _ _ _ st h=>Z st h,
ly!,Aw! ((x.ho q hq).keep (DL! Z)),lz!,(Kb! (MK Z) Z),Vv!,WI H pw V D m n d A B al ys,Jkx,JD! H2 (ii (tv t)),
Vw!,MeI K Z fy! Z Z Z Z,Jk8,(by rw[Ni!];lia),l0!,Jg9 ka O!,JlA,LE! b xs,Vx!,ZF! [F2!],l1!,DW k (A.deeper Z),
Vy!,PT X a tA,Vz!,GF H a y o,V0!,IJ!->IJ!->Sem IJ!,V1!,iE λi j=>Go Z,V2!,JhC Z σ H (∀i m σ H,Z),
l2!,YN! Br Eo T.tuple HI Z,JlB,Dr m Z (LA!) 1,l3!,#[Z,H,I1,Z,Z,OV,UF (hf b hb).1],
Ee?,by change Hu [Cm!,FB (EB! Z++Z)] Z _ _,l4!,OL nx n ahead It! R,V3!,(JiQ (XS t)),V4!,L2.St->XK,l5!,EY!\/GK!,
B4?,(by rcases g with⟨kvs,k,e,ey,l⟩|⟨kvs,k,b,e,ey,eb,l⟩),V5!,Z<=c&&c<=Z,l6!,Yg!-JhX,JlC,([]:d!).toArray,
B5?,by have#[z,its,n,r,hl,e]:=I.WM hH,B6?,(by rcases ZI ht with ht|ht),V6!,ys=i1++y::i2,l7!,∀t,RZ!↔(Z/\Z),
V7!,c0 / 4 % DZ!,B7?,by have iv:=x.iv y hy,B8?,by have RC:Sk!:=JiW,B9?,by have lh:=Cc _ RC,l8!,(hR! (Z g)),
V8!,Aj Z _ _ Z,l9!,OU! i [],V9!,A0! i ty,WA!,A3! JC! JC! Z,mA!,Jgw C Z (re (.ref f)),JlD,WH K H a BO!,
mB!,K66F.HW H' io Z,mC!,EM 2 f2 d2 Z (Z),WB!,(aj b o eb hb),CA?,by rw[Ad (Al e Z)];show EN! Z Z e,
mD!,iC! q! Z Z hr Z No,mE!,D! (FB (EC AZ!)),mF!,(C3 hu (An No A!) bv),WC!,Sc! fd ps,mG!,a9 G tb ID,
Q0?,[EN? _ A! _ _],mH!,h3! Eo! IL! Mz!,CB?,by show#[_,Z,Nx!,N0!],mI!,Z [Yv!,F2!] H (λv H'=>Z) E,
CC?,by have hn:BJ! sK:=Qu! (ZG _),mJ!,λh' eb=>Bc! (I.turned (t':=Es!) (Se! (eb b o hb e)) f0 f1 f3 f4 f5),
JlE,Fd (G1:=Z) (by simp[BX]) A! A! S1 k,WD!,Wr! K (EQ Z) (EQ NR)=D! Os,mK!,D7! (IA (Rv! i)),
JlF,#[Ba!,cr,g,b,sh],mL!,λz=>HV! k.symm.trans z Z,CD?,by have np:=x.SR (b:=Z) (by simp[BX]),
WE!,["_law_some",NQ!,"_law_other"],CE?,by have NS:DW 2 _:=h1!,CF?,by have WY:DW 3 _:=h1!,mM!,(Ku DI! eb),
WF!,s.heap.FunFrames B3! (env::outer),WG!,WI H p W D m n d A B [] ys,WH!,BX Z=BX G,WI!,f _ _ Z (JE! Z) (JE! Z),
WJ!,(IR H' aa (JB! UZ.map)),mN!,F.ok Z (λvs H Q E h=>?_) (λFH A outer s H vs Q E hr h=>?_),
JlG,w! (jC xz l1 l2).get? Z _,CG?,by show#[o?,CW,dx,_,A!,Z,v4,Z,(by show EI?;show LT!),?_],
WK!,HP! (iO! H a Z) (SL! a ea),JlH,E4! H1 Ft! .dK Jin,WL!,E4! H3 fa By jU!,WM!,(IR H3 D3! (.dK (Fg! (SR!)))),
mO!,mK Z g e cls Z,mP!,(QR X sc cl Mw! ig! s3 H3 fp AB),mQ!,ZL! H4 x [] (AU! (B9!)),
Q1?,[_,A!,_,_,A!,A!,_,A!,Nr (Z) (Z)],Ef?,by have G3:E6! f3 d3 Yq! Hf:=Mq M3.fn TP,
mR!,(MeI.mth (ps:=Z) #[Z,Z,Z]).bd,mS!,(kH (dX K (B0 1) Z) (B0 0)),
CH?,by have h1:CC! Bt Z rs (A1! Rm! (λq=>! Z)):=BE _ _,Eg?,[Z,Z,Z,Z,A!,Ss! (W! Z),_,A!,_,Z,_,Z,Z,A!,Z,Z,?_],
Eh?,by show Z AB s1 σ H1 Z I1 q1,WN!,(Z Z Al! B6! g.mWH Z (Z g)).mono (o0),
WO!,mB h λa _ h=>Z (P:=λv=>P (a::v)) h (k a),Ei?,[A!,p,C,Z,_,_,A!,Z],
Ej?,by show R? #[Z,Pv (ww),λFN H' p'=>#[Z,Q!,A!,JK,p'],λx H' y=>?_],mT!,envOfC qual scope sK f cd,
CI?,by .rintro rfl;have h:=x.JY (b:=Z) iA! hq;show hb.elim bn BF!,
CJ?,by have#[W1,IT]:=x.wa.step Uf (G':=Z) S1 NP YO,
WP!,λ_ _ _ _ _ _ us hl=>Z (P:=λus=>TG! Z us) (us:=us) hl h _ _ _ _ _ _,JlI,(Z _).nodup_iff.mpr Z,bC!,(K5!),
JlJ,(Zi!),bD!,H!->Z,Cp?,by show F? h,bE!,x2.1.1,bF!,(Z b hb).1,bG!,w9.1.2,Cq?,by rw[List.find?_map,Z],
Q2?,by have hm:Z:=JiE eq,bH!,b∈F9!,Cr?,by have#[e,n,ne,nf,d]:=Sy! hp,bI!,x=ZK!,JlK,DL! (ia! Z e),bJ!,v.1.toNat,
bK!,v.2.toNat,Q3?,by have hz:Z:=OE! es,bL!,Int×Int×HS,bM!,Int×Str×gd!,Cs?,by show BS? (ZN Z),JlL,∀c∈l,Sd!,
bN!,∀c∈z.cps.toList,Sd!,bO!,1<=z.length,JlM,λr=>! Go (FA!=Gs Z h!),Ct?,by have h2:=Z (t:=t) Z,bP!,λt=>?_,
JlN,λt=>[Bb!,t.2],Cu?,by cases Z<;>try show Qv?,bQ!,as++[a],
Cv?,(by rcases hb with rfl|rfl|rfl|rfl|rfl|rfl|rfl),Cw?,by have#[q,hq,hb]:=DS.mp hb,bR!,Ey! BO! Z,bS!,t.2<G.BB,
bT!,b.1≠G.num,bU!,l.length+1,bV!,∀u∈nx t,Z,bW!,ts.length<=900,JlO,∀{n:Nat} {ahead found R:E!},Z,bX!,a.length+1,
bY!,t∉LW!,bZ!,h!=ta,JlP,{ G with BJ:=Kx!,hand:=Z,AL:=Z },JlQ,{ G with BB:=EO! },JlR,λ(q:T2×Int)=>kC!,
JlS,λ(q:T2)=>JjW,ba!,ls=a++l::b,bb!,(Ap G (Gy! i)).holds.filter,bc!,λr LV=>?_,Cx?,by show AQ? (ZN Z),
bd!,l.kind=D8!,be!,1<=l.x,bf!,l.g=Fr!,bg!,G.num=cr,Cy?,(by rcases Ds e with⟨_,e2,_⟩|⟨_,e⟩),
Cz?,by have st:JhH Z ls:=Z,C0?,(by rcases h with(h|h)|h),JlT,λk=>US t qs k,bh!,G'.BB<=EO!,JlU,W'.qs=In! Z HG!,
C1?,by rw[hN] at wg st,bi!,ws.length<=5000,JlV,∀l∈QD,l∈W.ls,bj!,d<=900,bk!,by simp at e,bl!,by simp[e],
JlW,by simp[SV! Z],bm!,DB! I!,bn!,DB! DictEntry,bo!,DB! Arg,bp!,DB! FX.Arg,C2?,by (.show Qx?),bq!,.tuple (Z Z),
br!,HO.dT (Z Z),bs!,oJ kk,bt!,oJ 2,bu!,EQ e,bv!,S! nu Z,bw!,DB! (κ×Value),bx!,DB! (gd!),
Q4?,by show Classical.byContradiction Z,JlX,wv Fj!,JlY,wv Xq!,by!,Ay! X! Z,JlZ,Q Z Zg!,bz!,[("kept",Z)],
b0!,l! AM Z,b1!,l! Cf! Z,b2!,v! z,b3!,V.qs[h]?=D! HD!,b4!,Fy! hd,b5!,Nq! It,b6!,HF! A8!,b7!,HF! Result,
C3?,by show#[_,Af Z,?_],Q5?,[L?,Qy? Z hS.sq Z],b8!,Be! (Z K H) Z Z,b9!,YK! Ik! Z,Jl0,F1! c,JmA,F1! (oJ at_),
cA!,Kv! G!,cB!,Kv! DD,cC!,inClass (top 22) Z,cD!,BM! (KG n 0 lo),cE!,AD (o0),cF!,λz=>Z (z▸m),JmB,YM! H2 Z,
cG!,sB->sB,cH!,sB->Bi!,cI!,IX.mp hr,cJ!,F6 _ _,cK!,Fm _ _,JmC,EH! If!,cL!,E5! Z Z ii Z,JmD,Bf! th,
JmE,Jgp 2 Z Z Z,JmF,Jgp 6 Z Z Z,cM!,Ac! (apos.endLine==IK.line),cN!,λz=>Z (BL! z),cO!,Db! ZF,cP!,Db! AY,
JmG,DF! Z Op,cQ!,0<=FC! r.2,cR!,α->GE,C4?,[Af? CW],Q6?,[_,A!,p,dx,_,A!,hp,Cu!,_,A!,p,Z,G,Z,A!,S,Z,?_],
cS!,Str->Ku! NameKind,cT!,A5! Z ZA,cU!,EM Z Z Z [G4!,Z] Z,cV!,Z t (p::qs) Z,JmH,Nw! Z (O!≠t),
cW!,Q (AG! (MZ! (Z))) H,cX!,K0! Z Z [G4!,Z] Z Z,JmI,SB! kB!,cY!,Kb! k Z,cZ!,K2! Z p,C5?,by rw[AD (o0)],
C6?,by rw[AD (S! Z AQ)],ca!,YV! Ho!,cb!,YW! "sorted",cc!,FM k JhT Z,cd!,h9! ki,ce!,Jgw CI Z Rs,
cf!,Jgw Z JPG Rs,JmJ,(Xq! be).take i,cg!,hs.Pairwise LI,ch!,vs=[A2!],ci!,EQ! Du!,cj!,Cv! h1,ck!,Q (FB Z) H,
JmK,EE! (W! (Z t ht)),cl!,HT! c Z,cm!,(YC! h),JmL,(Aa xL (HE! Z Z)),cn!,R5! CW iF!,co!,R5! CW (JhN iq iK! iF!),
C7?,[e?,_,A!,A!,Z],JmM,iB! h,JmN,iB! q,cp!,sB->sB->A8!,C8?,by show y! #[Z,?_],cq!,F_ K CI Z,
cr!,RO K Z Z [G4!,Z] Z Z,JmO,N6! (W.qs[i]?) Z,JmP,Dh! (hi-lo),cs!,iG! G'.AK.map Z,ct!,kp b o Z e,
Q7?,by show CY? (Wm! Z _ _),cu!,AA jt! Z,cv!,A0! e t,cw!,Aj (o:=.dK []) Z,cx!,Aj (o:=BA! []) Z,cy!,Z xz a Z,
cz!,#[o,e],c0!,iL! Rk!,c1!,(Cb hl tb),c2!,xs=[Cm!],c3!,xs=[GC!],JmQ,Yh! n,JmR,I2.EE.fresh (ZG _),
c4!,(Dj bv Fs A!),JmS,Yn! e,JmT,Yn! q,JmU,JV! S.hs,JmV,Jg3 Z (TP X AB σ Q),mU!,(Dx! I7! Nz! (Az! t)),
c5!,GH! (Z G tb v),JmW,SS! 2147483629,c6!,Bb!=Ct!,JmX,by show Cd? Z;show AP?,c7!,B8 l t,JmY,iR! hb,
JmZ,JhH Z (ls++(Bt Z rs).map (Iu cr)),Jmi,(AH K3! hn),Q8?,by show HM! (show Q1! from fx) AQ,c8!,Ys! Q!,
C9?,by show False.elim h,c9!,Rh N' t,dA!,SY! n,dB!,iW! Z (Z),Jmj,iW! Z V!,dC!,h q hq,dD!,Yt! Z 5,dE!,Yu! z,
DA?,by have#[s,nu]:=x.num eq,Jml,Cs hu Aa! No Z A!,dF!,F5 ut,Jmm,OO! more.map Z,Jmn,Aj (o:=Ai! (Z AA!)) Z,
dG!,ic! h,DB?,by show y! (y! h),dH!,(A3 Bb Ay (YN! Br EU g.TR.str CU Z)),Jmo,((Z/\OA! QS)\/Z),
Jmu,Z (h3! Z Mc! (#[ZZZ,Z,Sb! 0])),dI!,Hl! (v! Z) Z,Jm3,ih! Zw! Z,Jm6,Dc! (Nw! Gt! Z) Z Z,dJ!,(IT b o eb hb),
JnA,∀b u,Z->Z->SC! Me!,dK!,w! (B9 G).lookup (EB! Z) (EQ Z),JnB,l! e st,DC?,by show#[Z,A!,#[_,Co! Z],Z],
DD?,by show Ay? Z (Cq! Z),dL!,E5! H Z ii Z,dM!,As Z (EQ Z) Z,dN!,He t l,dO!,EG! p (R5! CP (Fc (c+1) d)),
JnC,Jhd (λc H1=>Z),JnD,K2! Cd! c,dP!,mR K C,JnE,by have:=GF.k (k:=W! Z) Z;show H? Z;show this,
JnF,D! (FB (Ar tb)),JnG,S7! (Hb! Z e Z),DE?,by have QP:=NV! HB! IT,JnH,S! ew sF,dQ!,Or! [Z] Z Z,JnI,Ot! Z fa,
dR!,W.hasDictIn K C=true,JnJ,q.2.2.2.1.take j,dS!,JY! AH! 1,JnK,R (EQ y) W' Z ys H',
DF?,by have e:b=s1.heap.objs.size:=by simpa using hb,JnL,IsZip Z z TI TO .ellipsis,dT!,T2->A8!,
dU!,(CC _ _ (JE! hb)).trans,dV!,(BA! z!),dW!,Q v H1,dX!,(AH!++Ew! .w),dY!,(Pp G ta tb),DG?,by show Bi? h,
dZ!,Cn! d BA! z!,JnM,JhW (b≠a) HK!,JnN,JhW (b≠it) HK!,Q9?,by show i4! x.of Z Z Zk! Z Z Z,da!,GE->GE->V,
db!,jR! c,dc!,#[#[ZZZ,c]],dd!,(NH! be).filter,de!,AO! Z=AU! Z,JnO,λq=>(O!,YO!),df!,(Jq hl tb),
JnP,YN! Be Bi T.len CJ Aa!,dg!,[G4!,D5!,Cl!],dh!,[G4!,"_law_xs",Cl!],JnQ,JiJ (AC s3 Z),JnR,JiK Z z,
di!,∀i σ H,i<=xs.length->Yp!->Z,dj!,#[LN!::us,kw],dk!,RN G' t,dl!,B7! X.mg x,dm!,js! Ds!,
JnS,Br! sc.names.lookup .cell,JnT,jx! (Rs! t Z).1,dn!,(by show AV Am!),do!,(lay H ps),mV!,(B8 hl t),
dp!,Ai s1 s2,dq!,j4! X.base.get? Z,dr!,GF H d ZQ! Z,ds!,E4 1 al,JnU,BM! (A1! (JjM EC).map AA!),
JnV,Sl! (AK! b) (AO! D2!) Z,dt!,DT K H p xs,RA?,by show EU? Z AZ!,du!,Loc X.env.scope x,dv!,Rd H a (.dK z!),
dw!,(.ListComp elt [#[FV! x px,iter,ifs,0]] sc bi),dx!,k b u q,dy!,∀b u,SC! KH!->SC! Me!,dz!,MB ut JT! Jhk Z,
JnW,(envOfC qual scope sK f Z),d0!,de m AX! W W' al SZ ys EF H' L,
RB?,by show Bg? _ (v! #[q,G,i,q,a,b,G,ta,tb,A!,i.at HB!,ea,eb,Z]),JnX,jE!->CT!,JnY,Go (Z≠k)=true,
JnZ,fp! Z SL=[(Os,YU! Z)],d1!,∀a b,R a b->Z,Jnr,B4! (jG! Z (P! Z e)),Jns,λσ H R=>F0! tl (λx H1=>Z),
d2!,∀vs H Q E,ZE! sp->JAp,Jnt,(DA Z jo!),d3!,#[h1,h2],Jnu,AY! e c,Jnv,h6! ha (λv s1 #[x,H1,I1,r1,q1]=>Z),
Jnw,YY! Z q! Z Z hr Z Z,d4!,JjH Da!,d5!,CG H1 H2,d6!,W.isFn K ZP!=true,Jnx,{ G with holds:=Kb Ax! ad Z },
d7!,De! (K4! pyNext it),Jn1,QN b o (IT b o e hb) hb,d8!,s.heap.IsTuple l1 xs,Jn8,EG Z (Ym! (DZ!≠0)),
JoA,(h1.push (XL! Eo! (BW! Ds!).toArray 0)),JoB,A0! (.Call j7! (Ml!) [] bi) Z,d9!,(Gp! (a-1) 0),
JoC,iG! G2.AK.map (D t->Z),JoD,x.lt s g ts h,JoE,Ap G (Gy! i),eA!,Wt E0! G tb x G',
eB!,qz λ_ _ _ _ _ _ _ q=>Z q,JoF,∀i ys H2,i<=xs.length->Pv i ys H2->Z,eC!,JkF IU!,JoG,JkG it!,
eD!,iA p W ys H H',JoH,BindsTo s fd #[Z,[]] Z,DH?,by have#[W1,IT]:=S.step Uf S1 NP (UF Yw!),eE!,p2.keep QP,
eF!,St->h8! (Z),eG!,20*v6,eH!,A.frames=D! (env::outer),DI?,(by rcases ZI aJ with h1|h1),JoI,e1++(k,e)::e2,
JoJ,(kvs.any kK!),eI!,FN=Z/\CG Z H'/\Z,eJ!,S! (Ad (n Z)) Z,eK!,Z (λ_ _ r=>Z) p,eL!,He t qs,
JoK,(xs.eraseIdx j).map,eM!,Io! H L,eN!,WF (Al q hn) q,eO!,A3! HI! HI! Z,JoL,(by rw[<-Z];show BP! Z),
eP!,dZ m tb,JoM,BQ! xs.all Nf,JoN,(RE (env::outer)),DJ?,by rw[AD (show ¬(Ac! (Ds! d==Value.none)) from AQ)],
DK?,by show#[_,A!,Z,A!,#[_,Co! Z],Z],JoO,JK! d (.IC o JhL),eQ!,∃t,u=WS! x t,eR!,J8 [Cm!,Ix AX!] H Q E,
JoP,(Ew! XC).sum,JoQ,i3! (Z Z ib Z) Z Z,eS!,Ya! Cs! (Ix wt),eT!,JiF (CT!\/0<=t.2),JoR,(.done (.ret At)),
eU!,r x Z H Q,JoS,JjK TK! Ag Z,JoT,Jjy Km Aa! Z,RC?,by show#[FB! JjL,WF Z x.dh,WF Z x.dO,Z,Z,Z,Z],eV!,JkP H A,
JoU,λq=>Pi w O!,JoV,Fe (c:=Z) Ch Z,DL?,by have#[a,b]:=Gp (hd c Ch),DM?,by have QO:=NV! W3 TY,
JoW,∀H2,Ha!->Q (FB Z) H2,eW!,(Nat.toDigits 10 n).map,JoX,Un (RE Z) Z H H' xz Z,JoY,#[_,Hl ey,.IE AX! L Z],
RD?,[o?,CW,Z,_,_,A!,Z,v4,Rp!],JoZ,λH2 s2=>Z H2 (Ai s1 s2),DN?,by show GQ A! (HK (HZ (FV (JhM he) Z))),
RE?,by show K _ _ Z Jhj _ ?_,
eX!,#[ok.mod,ok.kind,ok.glob,ok.blt,ok.above,ok.inj,ok.has,ok.dF,ok.hd,ok.frames,ok.eT,ok.aN,ok.bs,ok.aQ,ok.VA,ok.VD,ok.ON,ok.bE],
eY!,knd.room A,eZ!,α -> β,ea!,BQ! X.fn x\/iN! fn!,eb!,JkB Wg D Z/\JhH Z ls,Job,λb=>AA! (fm b),
ec!,∃sl,Nn! Me! { o with slots:=sl },RF?,by have#[sl,e1]:=I.base.slot b o e n hb hx,ed!,y=kV k,
JpA,Mm! (P5 X AB H b),DO?,by have hl:NY!:=OE! es,DP?,by have hl:h<m:=Jg6 Ni! hq,
JpB,λkv=>if Gg!=k then Z else kv,ee!,oT.data=Mc! ts,ef!,env.frame=D! L,DQ?,(by rcases ZM hp with rfl|hp),
RG?,(by rcases O9 hq with⟨_,e⟩|hq),JpC,W.ls.length<=QD.length+1,DR?,by have W2:=W1.same s2,
DS?,by have W3:=W2.same s3,JpD,λ(i:Nat)=>c+1+cr,
eg!,{ y with I:={ y.I with ss:=Dx! X6! h5! (EQ xs),fs:=JjO },fi:=Zh! },
eh!,{ y with I:={ y.I with cs:=JjP },se:=LJ! },JpE,λW' H' nw e=>#[_,tn _,.JU _ q G _ _ hi Z e nw A! A!],
ei!,(ES σ),JpF,CM! (λy=>AO! wT),ej!,(CV.mpr (BQ Z)),JpG,reduceHash (Builtin.Tuple.tupleHashOf Z),ek!,dZ m t,
JpH,setField K7! Z (Z Z),JpI,j6! Z Z Z->ND H' Z Sv! Z Z Z tb Z->Z->Z,el!,A0! value tv,
JpJ,(Ri Z Z (by intro z;cases z)),JpK,No! (model DC! w) Z Z Z Z,em!,A3! YS! YS! Z,en!,A3! h7! h7! Z,
eo!,FmL K w Z Z,JpL,((by intro q;cases q)),JpM,Aj (o:=ii (Z DN!)) Z,
JpN,#[Z,λb o e n hb hx=>?_,Z,λb o e hx=>?_,Z,Z,Z],JpO,w! H' y JjR,ep!,JD! H1 Sh!,
DT?,by cases (show Z from r);rfl,eq!,Bl X O!,JpP,h2! BE! Z Ci! Z Z,JpQ,Ns! h s H I hw,DU?,by show#[t1,t2,?_],
JpR,DG! (Z->EK!->Fx! H'),er!,Ya! A2! Cs!,JpS,FZ (RD! Z) Op,es!,(VW r ta tb),et!,EM 2 f1 d1 Z (Z),
DV?,by have#[t,e]:=(show Z from r);cases e;rfl,eu!,VY xs i=D! v,JpT,N9! (Z a:Key) Z b,JpU,(Fz z! DO!),
JpV,Nw W W' (RV!) L,ev!,Jgw Z Ms! (re (Eu! "object.__class__")),ew!,Jgw Z XU! (re (Eu! gn!)),JpW,p.1.map Bm!,
JpX,(qs.set l.g.toNat HG!),JpY,iJ! Cj xL Ay (JkC Z Z Z Z),JpZ,WJ p W y.I H H2,Jpm,Er! (ps.zip us),
ex!,#[_,_,_,A!],ey!,λr=>((Bm! (k r):Key),f r),ez!,Be! R as bs,e0!,Er (k:=HX!) (f:=GL!),
Jp0,Er (k:=JS!) (f:=ZN!),JqA,.ME g s n' u Gs! Jd!,JqB,(O!::BX PP),e1!,NC H W.GV (AX!,t) Z,
DW?,by have:=Ba Ch! (Az! 0) (As Cg! N2! []),DX?,by have:=Ba Ci! (Az! 0) Jhf,JqC,Ia! IU! 0 lo,
JqD,Ia! IU! IU! hi,RH?,[Z,Z,Z,_,A!,p,Z,Z,_,_,A!,Z,Z,Z,Z,S3!,Z],e2!,s.heap.DictOfH knd d xs,
DY?,by subst hb;rw[Ab] at e;cases e;show Z,RI?,by subst hb;rw[Z] at e;rw[Ab];show e,JqE,(D8 hS! A! Z Z Z),
JqF,j5! Bb! t.2,DZ?,by have:=BP.mp e q hq,e3!,z.sameBut hs (bL y c e),RJ?,by have:iu! Z TH!=true:=KA.mpr Z,
e4!,rR (λp hp hk=>Z) h,JqG,Gj (fs.take Z) (ws.take Z),e5!,JjF u v,e6!,CC! Bt Z rs 60,
JqH,Dx! (Fg! Z) Z (DN! Z)=Fg! (Z),e7!,PZ X (compareOp Z) (cG λi j=>AG! (MZ! (Z))),
RK?,[e?,_,A!,A!,Hd!,go Z _ _ (Qd (a:=iI!) A!) Z RC hm],
Da?,by .have e:i=xs.length:=il! hi JK;subst e;show E? #[#[xs,q1,Bv!],hd ys H2 pv],
e8!,B8! C "need_near" "House.need_near" Kf JC! f3 lx,JqI,B4! (Z b o (HU! Z) (Al e Z)),e9!,λy=>(y.n,y.io),
Db?,by intro a ha;rw[ZK ha];show h,fA!,DG! (EK!->∃o',Nn! H' o'),fB!,ON! knd.is k a,
JqJ,by rw[es];show Bd? Z;(.show h? h);.show EP?,fC!,Mp! K1! A Z R s,JqK,HY! Z (i5! g.X1 1 (Z h Z tb G Z)),
RL?,[_,A!,A!,Z,_,_,A!,A!,?_],Dc?,by show Ge (lo:=0) (n:=m) (Z) Z ?_ ?_,JqL,B4! (HO! (Hi! Z) Z e),
Dd?,by first|show ZR (JL tI (ZS ?_))|show ZR (LQ tI (ZS ?_)),De?,by have#[t1,t2,_]:=rS I1 d,
JqM,(UV _ _ _ _).symm.trans,RM?,by have g1:GF H Z OX! (jH! Z):=Z,JqN,if WP=a then(O!,a,h) else q,
fD!,t∈C9 AE! Ax!,JqO,hB! (N5! Iu! (O!∉Z)),fE!,∀W' H',kE!->W'.qs=In! h.toNat (q,Z)->R wS W' al ys H',
Df?,by have bB:DW 8 _:=h1!,JqP,(dQ M1! H),JqQ,#[TJ! Z,λ_ c=>bb c Z,TI!],Dg?,by show go! r2 rc.symm,
fF!,Pi w (tk Z),fG!,A3! N ps st,Dh?,by show G? #[_,_,nv.toNv,jW],Di?,by rw[AD d,AD (SU! d)];lia,
Dj?,by rw[AF d,AF d.symm,d];lia,JqR,(A.under (Eu! "type.__call__" Z)),RN?,by show#[_,Z,Nx!,Nx!,N0!],
RO?,[Z,dx,[],A!,Z,Z,Z,iD! (0<1000),?_],fH!,(p_ b o e hx),JqS,(Aa SF! (HE! SF! SF!)),
Dk?,by (have:q=(HH!,a,[]):=by simpa using hq),Dl?,by have:=Ba Cg! N2! [],JqT,iM! "state" "House.state" Qc Z Z,
JqU,OP ut JT! F,fI!,R5! CW (As Bo! iK! iF!),JqV,R5! CW (As Ck! (Az! sh) []),
fJ!,R5! CW (As Ik! (EQ fi) (JhN iq iK! iF!)),Dm?,by .rintro rfl;show hb (F3! iA!),
JqW,(QR X sc cl Z N s1 H1 fp AB),fK!,Ai s1 (Ai s2 s3),Dn?,by rw[es,Fq,Da,lw],Do?,by show rB x' hz ?_,
fL!,(IR H5 sl (JB! (X3!).map)),JqX,O.tr _ _ _ Z Jhj (h.lt Z) Z Z,fM!,(Fs! s g n' u),
JqY,∀b ob,Bq! b ob->b≠d->Nn! H' ob,JqZ,∀b,(Z\/b=I.sd\/b=I.fd\/b=I.cd)->Z,
Dp?,by first|show E? A!|show G? A!|assumption,fN!,f i=c i,Dq?,by have G2:JiD f2 c8 Ow:=O7 M2.fn T,
Jqp,lt Z (Gp! Z 0)=true,Jqu,∃t,Z/\t { nx:=λ_ H'=>JO!,rt:=Q } (start N vs) H,fO!,#[Z,#[Z,Z,Z,q3,q4,Z,Z,Jr Z],Z],
fP!,(σ.set i (re v)),Dr?,by have#[t,e1]:=rc;rw[e1] at e;unfold W.kitOne W.kitCls at e;simp at e,
Jq0,DC (x:=Z) e1 A! A! Z,Jq5,B8! CW "ask_all" "World.ask_all" Hz Lb! Z Z,
RP?,[AG?,p,Z,Z,_,_,A!,Z,q!,Z,Z,Z,Z,A!,Z,_,A!,?_],Jq8,Z [Cm!,SE!] H1 Q E,JrA,(G8 I.m Ft! D9! E2!),
fQ!,C1 m N' N W al ys,JrB,j_ (s:=Bn!) e c Z Op Z,RQ?,[L?,p,LK,_,A!,IU,Dq _ ZV,_,A!,k],
JrC,(O2 hu Aa! No Z Z (λ_ _ _=>rfl)),JrD,[EC AB!,l.2.1,EC Os!,EC Om!],
fR!,R5! CW (h2! KU! en Ik! (EQ fi) (JhN iq iK! iF!)),fS!,AH!++Dr m g2 n 2,JrE,FY P w K mg B3! Z k f fd ps sp,
JrF,ND Z y.2 wT l.kind l.s l.g NE l.x,fT!,[fr! (FB msg) j p1],RR?,by change Z kindOf ((p,w)::P.zip vs) m Z=_,
Ds?,by intro a ha;simp only[XM,BO,CA,F'] at ha;rcases ha with rfl|rfl|rfl;{ show bn };{ show h.2.1 };{ show h.2.2 },
JrG,rA (a:=iI!) (b:=Z) (c:=.t Z Z) A!,
JrH,x.JU i W1 IT YO Jhc N4! Jha (EE! (W! ht)) g1 Z A! cA cB g2 k _ λ_ c e=>FM hR c e,
Dt?,by have XZ:(RV!).length<=2400:=by rw[el,ZE,A_] at z3;rw[ZE];show CL z3,
Du?,by show ER? (x.wl.same hi Z A! A! A!) (EE! (W! ht)) (jP! Xx! he! #[?_,Df!]),
Dv?,by show#[L?,Be? t _ _ A! A! ZS! A! a _ _ (Bt! e2) A!],
RS?,[p,AX!,W,l1,l2,t,AX!,Z,g,Z,_,A!,HB!,el,et,λH1 W1 IT=>?_],
JrI,Jf (Z:=Z) (Z:=Z) (Z:=Z) (AM!:=Z) Z A! A! A! A! Z A! ZV A! ZV A! Z Z Z ZV Z Z,
JrJ,x.di (G':=Z) i W1 IT Z Jhc N4! Jha Z wg st Z Z Z cA Z Z Z Z Z k _ Z,
RT?,by show B3 #[_,A!,p,CD,dx,_,_,A!,hp,R1!,g.TK.nW,Dm,pw,RK,_,A!,RI,Z,_,A!,r,_,0,_,A!,A!,iH!,A!,_,A!,r,_,1,_,A!,A!,iH!,A!,_,A!,r,_,2,_,A!,A!,iH!,A!,k],
JrK,x.answer (new:=Z) (D':=Z) (y':=Z) el es p1 p3 ey ee hX fr A! A! A! (mH fr at2) Z Z (Z) Z (λw9=>Z) cA cB Z Z Z Z (Z) (Z) Z Z Z Z,
mW!,Ds! Z,mX!,gA! Z,mY!,(KN!),mZ!,(Ws!),ma!,(Cx!),mb!,(Jku),mc!,List.replicate Z Z,md!,j!->Z,
Ek?,by have lm:=x.wl.len,El?,by show Bj?,me!,(Z xz l1 l2).objs.size=Z,mf!,A9! (Go (AA! x=AA! y)),
Em?,(by injection e with e1 _),mg!,(Qk ls n u).1,mh!,(Qk ls n u).2,mi!,(List.range m).filter,mj!,b∈Dg y,
mk!,(Z,[true,false,false]),En?,by have:=Bf! Z,ml!,λy c e=>?_,mm!,λe=>Al e Z,mn!,x=Cm!,mo!,y=K9!,mp!,a::b::rest,
mq!,o.cls=EC! Z,mr!,λf s1 q=>?_,Eo?,by have#[o,e,c,d]:=id OV,ms!,-GD!<=i,
mt!,{ s with toks:=s.toks+knd.draws k },mu!,DM! (xs.length+zs.length),mv!,{ s with heap:=h',toks:=s.toks+1 },
mw!,s.heap.objs.size+2,mx!,s.heap.objs.size+3,my!,∀fs:EX!,Z,Ep?,(by by_cases h:tb∈kV!),
mz!,show ED! Z Z from rfl,Eq?,by have hz:Z:=AY! Z z,m0!,Jks::us,m1!,FG! Z=ps.length,
Er?,(by rcases ZI Z with hy|hy),m2!,λc ys ec=>?_,m3!,λ_ _ q=>F6! q,m4!,(Rb! Z).1.symm,
Es?,by have#[its,r',pl,hz]:=DK! hq,Et?,by show u? (Dt! hy),m5!,(Ap G (Gy! i)).holds,m6!,d.params.defaults=[],
Eu?,by show BT? cJ,m7!,jY!=m,m8!,JiR=m,m9!,sizeLine+1,nA!,λt=>! Bl G t,nB!,∃dx,JP! Z,
Ev?,(by rcases hb with rfl|hb),nC!,oe.data=Mc! vs,Ew?,by have#[j,hj]:=KW! hz,nD!,t∈FS k,nE!,λl=>Go (AB!=n),
nF!,Ii! Z9!,Ex?,(by rcases ZM hz with hz|hz),nG!,gz! JhQ,nH!,r∈kb!,nI!,kT!<=h,Ey?,by have#[q,hq,e2]:=Ja!,
Ez?,by have l1:=Bf! Z,E0?,(by rcases h with⟨ht,h⟩|⟨_,h⟩),nJ!,∀(m l:E!),Z,nK!,∀q∈qs,0<=LS!,
nL!,(Ap G (Gy! i)).AL,E1?,(by rcases ZM hy with rfl|hy),nM!,ns.length<=63,E2?,(by rcases k with⟨h,k⟩|⟨h,k⟩),
E3?,(by rcases k with k|⟨h3,k⟩),nN!,{ G with hand:=Jq AE! tb },nO!,λc1=>?_,nP!,wt-wt / 2,nQ!,G.hand.length<64,
nR!,G.AL.length<64,nS!,G.AK.length<64,E4?,by have:Yt! Z 1:=rfl,E5?,(by rcases ZM h with rfl|h),nT!,Fq! Ba!,
E6?,by show AQ? TC!,nU!,∀(l:R!)(t u:T2)(v:Int),Z,E7?,(by rcases ht with ht|⟨q,hq,ht⟩),nV!,l.kind≠E1!,
nW!,λt ht ne=>?_,nX!,λl hl _=>W! hl,E8?,(by rcases ht with h|⟨r,hr,h⟩),nY!,∀r∈LR!,Z,nZ!,∀r∈Z,Ju qs r,na!,iV!+x,
nb!,AH!++more,nc!,λk:Nat=>JU!,E9?,(by rcases ZI hz with h1|h1),nd!,s∉Z4!,ne!,fi.length+1,nf!,se++[(s,DW!)],
FA?,by have#[j,hj,rfl]:=Oz!,ng!,W.IB.length<=900,nh!,∀a∈as,Ym a,ni!,Ah!≠num,FB?,by have#[j,_,ez]:=ZN hz,
nj!,∀n∈ns,Sm n,nk!,v::BW! F0,FC?,(by by_cases c2:GM!),nl!,∀w∈ws,Wd w,nm!,vb++F0 a,FD?,by have#[t,ht,e]:=ZN hz,
nn!,x1 % DZ!,no!,λz H' hz s'=>?_,np!,le.2.2.2,nq!,by simpa using h2,nr!,by simp[Str.length],ns!,ts[3]?=D! Z,
FE?,by show#[Q0?],FF?,by show#[_,A!,p,C,Z,_,_,A!,Z,q!,Z,Z,Z,_,A!,Z,Z],nt!,w! Z Z .cell,nu!,by simp;show Z,
nv!,by have:=Z;show Z,nw!,oJ My!,nx!,oJ g9,ny!,EQ sl,nz!,EQ Dd,n0!,S! e2 Z,n1!,S! ey Z,n2!,S! Z h,n3!,S! Z Bv!,
n4!,Bq! Z (.dK (Fg! Z)),n5!,it! h,n6!,DQ.refl _,n7!,Go (x<y),n8!,DY! Z s,n9!,FM gl! Z Z,oA!,h1.symm.trans e,
oB!,Fx! fj!,oC!,DY! H xs!,oD!,BJ! d,oE!,BJ! x,oF!,BJ! t,oG!,AY! Z (Z Z),oH!,W.qs[i]?=D! HD!,oI!,WF Z x.dl,
oJ!,WF Z (FI! Z),oK!,AK! x2,oL!,Ku! HO,oM!,Ku! sB,oN!,A1! EC Z,oO!,Fy! r,oP!,BK! ht,oQ!,Fz! RO!,
oR!,Fz! G'.AK.map,oS!,Fz! (D7! L).map,oT!,Co! hl,oU!,Bc! U!,oV!,A3! [DU!,Z,Z,Z,Z] Z Z,oW!,HF! sB,oX!,le.2.2.1,
oY!,YK! Ba! Z,oZ!,YK! Ij! Z,oa!,YK! Iz! Z,ob!,YK! NU! Z,oc!,F1! (BM! 0),od!,Kv! LL,oe!,(Hj G R),of!,sB->O0!,
og!,IsTup.new _ _,oh!,EH! CM!,oi!,EH! RO!,oj!,EH! NH!,ok!,E4! Z Z Ai! (ys++[Z]),ol!,Bf! r,om!,(MJ++bs).map,
on!,(Af ie!),oo!,Db! SN,op!,by change Z;lia,oq!,Bt! uw,or!,F3! z,FG?,by rw[AF ES!],os!,R8! ha,
ot!,AD (by simp;lia),ou!,Z (List.filter_sublist.map _),FH?,[o?,Z,Z,_,_],ov!,Aj (o:=Ai! Z) Z,ow!,A5! KW Z,
ox!,Nu! xL,oy!,Nu! CV!,oz!,Au! GM,FI?,by show Bd? hm,FJ?,by show Bd? hw,o0!,YQ! t,o1!,SB! Xz!,o2!,SB! (0<JF!),
o3!,iV!=0,o4!,#[?_,?_],o5!,(by change Z;lia),o6!,(by show Cg?;lia),o7!,JE p W H H2,o8!,K2! Me! Z,
o9!,YV! (Ix Z),pA!,(FS λq=>(tk (UV q),val q)),pB!,HO! Z ZA Z,pC!,YW! Eo!,pD!,YW! IQ!,pE!,AC typeIs_str _,
pF!,KZ! nd,pG!,aR K H a xs,pH!,W.qs.take i,pI!,EQ! AI,pJ!,W.qs.drop (ww),pK!,HR! u.there Z,pL!,EE! (W! ?_),
FK?,by show h? jZ!,pM!,(.dK (Fg! ls)),pN!,HT! Z y!,pO!,∀t,GS m b S1 t->Z,pP!,(Fs! h),pQ!,(.make h),
pR!,∀b,Bg!->Z,pS!,AU! (JhV),pT!,HV! Z e Z,pU!,Yd! [],FL?,by show#[Z,_,A!,Z,A!,_,_,A!,_,_,A!,A!,?_],
pV!,FD! Z G Z,pW!,HZ! [Z] Z,pX!,HZ! JC! Z,pY!,(x::BX Jid),pZ!,K6! (by simp at hb),pa!,DB! (Int×Str×gd!),
pb!,by unfold B8;rw[Z];rfl,pc!,SJ! 1,FM?,by (have e:Z:=by simpa using e),pd!,GF! ZO Z,pe!,iL! Qm!,
pf!,(Cb JiM tb),pg!,xs=[ZK!],ph!,Ca al n 1,pi!,Ca al n 2,pj!,(Dj bv Ag A!),pk!,OF! h.symm Z,
pl!,OF! Z (Nat.not_lt_zero _),pm!,Yn! NZ,pn!,JV! Ab,po!,tk (k q),JrL,(Dx! I8! Nz! (Az! t)),pp!,GH! G',
pq!,∃o,Jir G.AL.find? o/\Z,pr!,ST! JlH Z Z,ps!,EG! p o,pt!,EG! x o,pu!,Sem A8!,pv!,LG! Qm!,pw!,LG! UZ.map,
px!,((λh=>Z) ∘ Nat.succ)=Z,py!,al=a++z::b,pz!,Sc! Z Si!,p0!,iZ! h,p1!,Yy! Z Z (Jkt Z Z Z Z),p2!,id! A!,
p3!,EM! (ii (tv t)),p4!,Ok Cr! n,p5!,B8 Ax! h!,FN?,by cases Z;show#[_,_,A!,Z,Z],p6!,L2.Mk K C Z,
p7!,Y6! ([EC n,kd,EC h,EC g].take i).map,p8!,by change Z;rw[Z];show Z,p9!,W2! ft! ns,
qA!,w! (G8 m sd fd cd).lookup (EB! Z) (EQ Z),qB!,! Go DT!,qC!,EM 3 Z Z EL! (Z),qD!,In! h.toNat (q,KQ (IS Cr!)),
qE!,Jg7 (AH z2 hn),qF!,ir! qs.length Z,qG!,EN P w Z h' a Z,qH!,Su! (LL.w l),qI!,(Ac Z (Ac Z (Ac Z (Ac Z Z)))),
qJ!,LU! A4! Z,qK!,bO λq G hs os rs=>Z,qL!,P! k.BV e1,qM!,A0! (W0! Z Z bi) Z,qN!,(Ac (Cs hu Aa! KB Z A!) Z),
qO!,EM 2 Z Z A4! Z,qP!,iy! OJ.1 Z,qQ!,Jhd (λvs H1=>Z),qR!,K2! Me! c,FO?,by show Bf? Z ?_,qS!,(C3 hu Aa! KB),
qT!,(ii ys),qU!,(ii wP),qV!,Q (AG! Z) H2,qW!,PA X es t,qX!,W.plainOver K C=true,qY!,W.makesIn K C=true,
qZ!,q.2.2.2.2.take j,qa!,Ai Z (Ai s4 Z),FP?,by show Bh? q,qb!,(A9 Bg bv Z),qc!,jD! (Z x) Z,qd!,EF.flatMap Dg,
qe!,V->h8! VK,qf!,T2->E!,qg!,qs[j]?=D! r,qh!,H_ K H Z (.tuple (Z Z)),qi!,BQ! Nf x,qj!,(ls++[JlF]),
qk!,AH!++[.ME g s n' u DW! S],ql!,GE->GE->A8!,qm!,EN P w H h a o,FQ?,by rw[this,Bool.or_true],
qn!,(RO! be).filter,FR?,by show Bk? Zd!,qo!,TV! (0<=t.2),FS?,by have ht:t∈Of!:=ht,qp!,(KK! L),
qq!,by change DM! 2;decide,qr!,Ay! World FS!,qs!,Ay! JkQ FS!,qt!,TX! fs.lookup,qu!,Np! Z hd By Z,
qv!,Np! Z fa By Z,qw!,Rep K H v Z,qx!,λq=>(O!,BN!),qy!,h3! IQ! IL! Z,qz!,(A3 Fj No Ag),q0!,(Jq JiM tb),
q1!,H_ K H v (Z Z),q2!,(AH!++[Y1!]),q3!,(AH!++[jh!]++[Y1!]),q4!,jb! xs,q5!,TZ! H2 Z,q6!,Rf (Km! h ta tb) G Z,
q7!,Rf (Kn! h ta tb) G Z,q8!,jg! s4 Z,q9!,AG! Os,rA!,(v! Z,Ix Z),rB!,λr=>Go (h!=h),rC!,JkV (j+1),
FT?,by show False.elim hq,FU?,by show False.elim YR,rD!,P! Int.add_right_comm _,rE!,Z7! (Ce! Ml k Z f Z _ Z),
rF!,#[A!,A!,A!],rG!,(A3 Gx bv Ag),rH!,JiS Z (b∉CS!) Z,rI!,(lay H r),rJ!,(XV a t),rK!,k b o hc e,
rL!,BM! (A1! (w0::ws).map AA!),rM!,(fi.map be).Perm (rg m),rN!,DT K H p ys,rO!,PI X tg l (Z Z),
rP!,Dc! (kvs[i]?) k v,rQ!,JiZ (Cg (Z Ar)),rR!,vy X.env.scope x,rS!,Rd H a (BA! z!),rT!,k b ob q,
rU!,(x.sD.VC l hl nb),rV!,aC! EL! Z,rW!,de m AX! W W' al SZ ys EF kN L,rX!,h!=AZ!,
rY!,{ W with qs:=JhQ,c:=c,ls:=NW! },rZ!,{ W with qs:=JhQ,c:=c,ls:=RV!++L },ra!,x.ma.lt _ hl,rb!,Bq! l kd!,
rc!,FB Ms! t,rd!,(Rr G tb),re!,(Rt G tb),rf!,(Af (OL! 2)),rg!,(Rb! e).2,rh!,EM 3 Z Z EL! Z,
FV?,by show EV? Z (FW! not Z),ri!,[SB ka,Ix PP],rj!,Ax (λ_ _ r=>r.keep k) Z,rk!,Cn! d Dp l,rl!,Jb! p xs,
rm!,Jb! l1 xs,rn!,JhS dd (aq dv),ro!,Og! AH! 1,FW?,by show Bf? _ ?_,rp!,DT Kx H a xs,rq!,FD Kx H a xs,
rr!,R (.ok (K4! .ret Z)) Z,FX?,by show EY? (Z >>= _),rs!,∀σ H,Pv IU! σ H->JQ! H,JrM,(Bt Bs! rs),
JrN,(Bt Cr! rs),rt!,G_ (Mi! (Ze!/\Z FN H')),ru!,OK P w Z h',rv!,Z3! (B9 G).lookup Z (Az! Z),
rw!,AD (by show IP (BQ (Z))),rx!,Kz! (Es (Ff (Fh hu bv No))),ry!,ih (Jim h),rz!,standAt apos.atName,
r0!,IH.mpr λq _=>Sc,r1!,JkS H',r2!,s.heap.FunFrames Qr! Z,r3!,R7!+cr=cr,r4!,(x::YT!).Nodup,r5!,∀{l:j!},(Z)->Z,
JrO,(jW! Ip!),r6!,WU! (IJ!->Sem Unit),FY?,by (have c:Z:=TW!),r7!,(eval e SL),r8!,DT K H a JiY,
r9!,EJ! Pc (Ox! (Fh! Z)),sA!,In! g.toNat (q,KQ (IS Bs!)),sB!,VF qs ls,FZ?,by show Qp? (E7!-BI! Z+Cv t Z),
sC!,Ad (ne e),sD!,(KZ! nd).2.1,sE!,fe xz g e cls,sF!,ok.hk t ht e,sG!,Jhv goal OD,Fa?,[Ax? p C dx _],
Fb?,by show KV! #[Z,Z,λu hu v hv z=>?_],sH!,Z6! D0 (HE! Z Z),sI!,Z8! Z a b,JrP,(ZA! OV! scope cd),
Fc?,[Ci? CW dx],sJ!,A1! g8! (λu=>Go (u∉OG!)),sK!,GF H2 a y o,
Fd?,by show Z p pw r V h A! S1 er (Jp (dd:=Z) g x1 hn hB hd cs ok (λv dv W' D' al' EF H2 tl ef wi fr fp eh=>?_) bad),
sL!,λh=>(UT qs h).toNat,sM!,{ W with c:=B9!,ls:=jX!,GV:=SR! },sN!,q.Pairwise (λi j=>lt i j=true),
sO!,DW (k+1) X.A,sP!,HW H' p I,sQ!,PI X (FV! x px) iter wi,sR!,Rd H d (BA! (Z jc!)),sS!,Mk Kx C f,
JrQ,(fw xs lo hi),sT!,JlG (Z xz l1 l2).objs.size,sU!,Un fs ex H Z h h',
Fe?,by have#[hs,os,rs,HP]:=(x.wg.wl.good (CL hn) Uf).told,sV!,(E5 FC I_ IZ Kq bv (Kr! Ay)),
sW!,JX CP H p d c ls,sX!,(DI! Z _ Z).1,sY!,Dv! (Z p (BL! hp)),sZ!,l.most=D! n,sa!,Aw! (WF Z (x.hl q hq)),
sb!,(LJ!).find?,sc!,al++JlB h,sd!,(([Bb!,t.2]:i!).take i).map (jV!),Ff?,by show#[Q1? Z OW!],
se!,by change R7!<=Z;show HQ!,sf!,BA! (FS Z),sg!,S! ZF Ab,sh!,(JO (Z) λr s' hq=>?_),si!,FM kp JhT Z,
sj!,Dy! s (Z),sk!,Mc Z (TY! Z),sl!,(Av Jw Z Ag YL!),Fg?,by .rw[Ad λz=>by rw[z,e] at q;cases q];show q,
sm!,Gi! z ".",sn!,(XV c u),Fh?,by change X7! Z+B<=_,so!,x.all c hc,sp!,Yb! ET! OW,
Fi?,by .show#[_,Z,λv q=>R8! q],sq!,∀t,PJ G' t->Dj!\/NQ Z t,sr!,show oJ Z≠0 by decide,ss!,N5! g9! Hr!,
st!,Ai s3 s4,Fj?,by (have e:JiB:=by simpa using h),Fk?,by (have:JiB:=by simpa using ht),
su!,s.heap.IsItemsView v d,sv!,SZ! JkW i,sw!,St! r hr,sx!,ZD _ (BL! (BL! (BL! (BK hq)))),
Fl?,by show#[o,e,ex.2.1],Fm?,by show Nr (λc=>?_) (λc=>?_),sy!,Jiu (JiH Z [SB q,va,vb]),sz!,Jiv (Z I.ok) Z,
s0!,kU! Zb! (∃vs,Dk!/\h.DictOf Y8! a vs),s1!,Hs (Z h ta tb) G Z At,s2!,JiT g.TW.cl Z (Z g) Z Z SF!,
Fn?,by show#[Z,#[Z,ob,_,Z,λo v z=>?_,A!],?_],s3!,JkU VF OW,s4!,(fc! C dx),s5!,(A3 Fj Ag KB),
Fo?,by show#[Z,_,A!,HY! (Co! Z) Z],Fp?,by show Qz? Z Hc! Z Z Z kX! Z,s6!,Ck (FS ji!) (tk t),
s7!,kj! D F5! Jhk Z,s8!,Mv pw W ys W' EF H H',s9!,∀(h:Nat) q G,N6! (qs[h]?) (P1 G (S1 h)),tA!,Sk!/\NB a/\NB b,
Fq?,by show#[by cases h<;>(subst_vars;rfl),λFH A outer s hr=>?_],Fr?,by show Gu k λv H1 z=>?_,
tB!,(IR H1 r2 (JB! WG.map)),tC!,ZF! [F2!,A2!,Cs!],tD!,aw (Z h a b) At "ok",tE!,NC H GV y z,tF!,h!=AZ!/\r.2=Z,
tG!,Kt Z (EE! (x.has i q G hi t Z)) m0,Fs?,[_,A!,A!,Z,Z,A!,A!,A!,Q!,Z],tH!,jx Kx C m f,tI!,OK FU! X.w H' h',
tJ!,W.looks_findIn (M:=model DC! w) X Z,tK!,YE xz x dx C mA,tL!,YG P w K mg B3! A FX! s H,
tM!,K66F.Y' ZV ZV ZV ZV,tN!,∀(H2:Hp) (a:Addr) (t:T2) (Q':GN!),Ha!->Jkx->RZ!->Q' (b t) H2->Jkv Q',
tO!,step (o:=BA! []) Ab (c0 Z) Z,tP!,ks.filter kY!,tQ!,hs.Perm AE!,tR!,PL.mp hS,tS!,updateSeq S Z,
tT!,e=x\/Cn! e IM! x,Ft?,(by rcases h with(e|⟨o,e⟩)|z),Fu?,(by rcases h with(h|⟨r,hr,ht⟩)|h),
Fv?,by .show y! (AT #[o,Z]),tU!,∃u,w! Me! e u,tV!,{ cls:=At,data:=Mc! ps },Fw?,by rw[NN (Mh! hj)] at e2,
tW!,λσ H=>Z (σ.set i Rs) H,Fx?,by have#[u,hu,ru]:=rv.get hx,tX!,[AK! b,YO!],tY!,Z<=(FS f).sum,
tZ!,(IW! (by cases hy)),Fy?,by have#[j,h1,h2,h3,h4,h5]:=xk he,Fz?,by have#[u,rfl,rx]:=vals1 rv,
ta!,Ie! (ia! (λz=>hb (JhO z)) e),F0?,by have WC:p∈(X.pn++AB)++[]:=hp,
tb!,{ s2 with heap:=s2.heap.push (JkX Eo! (IL! JlC)) },tc!,acc.toList=BW! Ds!,td!,λt=>by unfold QC;rw[AD Z],
te!,G.h::G.o::G.l::G.r::Z,tf!,λvs H Q _=>Z vs H Q E0,tg!,(Ff! (by cases hr)),th!,Ii! (AB!≠n),ti!,G.hand++Pb G,
F1?,by have S3:=JN! s3,F2?,by have S6:=S5.same s6,F3?,by have#[#[dx,h1],hd,le,nd]:=id S,
tj!,if u=t then v else Ah l u,tk!,∀h,h<m->aA!,tl!,al++Tc! n 1,tm!,{ I with cs:=Dx! I8! h5! (XV DW!) },
tn!,vb.cps.toList=v.cps.toList++[32],to!,(Sl Aa!),F4?,by show JlE (g2! (Bm AI! tb (Z))),
tp!,(by rw[Z] at q;cases q),tq!,S! Fk! ok.on,tr!,(IR (E4! H Z IM! Z) Z Z),ts!,Ay! GE GE,tt!,Rows G os,
tu!,Np! Z hd Fx Z,F5?,by change [JhV]=[B9!+cr],tv!,HE! An! CV!,tw!,A3! JhG JhG Z,tx!,A3! Yr! Yr! Z,
ty!,operate Z (Wx! Z Z),F6?,(by rw[Z] at hz;cases hz),tz!,EG! r1 (JB! Rk!),t0!,#[z,hz,A!],t1!,(Eq! h tb),
t2!,(λz=>by rw[z,Z] at hp;cases hp),F7?,by change JiI Xb! Z=JiI g9! Z,t3!,Gs a O!,
F8?,by .rw[Ad λz=>by rw[z,e] at q;cases q];show q,t4!,De! (Z (EQ x) Gd! Z),t5!,E9! hb Jl!,t6!,DF! e ZV,
t7!,JK! xf Jhu,t8!,PS X st t,t9!,HY! o0 o0,uA!,Be! (H_ K H) xs ds,F9?,by show ZR (DZ Z Ch Z),
uB!,YN! Be Bi hn CJ bv,uC!,hV cls i,uD!,(aY z).2.2,uE!,(.IC o (Ai! xs)),uF!,mP (H x),
uG!,D6 (Z Z) (tk Z)=(Z Z).map Z,uH!,ip! op r,uI!,A0! (fr! Z j bi) Z,uJ!,(aY z).2.1,uK!,wv RO!=HJ!,
uL!,E4! H q ii aE!,uM!,K66F.HW H io I,uN!,O1! f1 d1 Z Z,uO!,Ck (Z Z) (Bm! n),uP!,IS! (h3! Eo! IL! Z),
uQ!,cS K H v t,uR!,JiH Z [Yv!,F2!,A2!,Cs!],GA?,by show p? ZM;(.cases h);.show h? (Bu! h),
GB?,by have hn:BJ! Gr!:=I1.EE.fresh (ZG _),uS!,xY ut S,uT!,k b o (JiX hc) e,
uU!,PZ X (binaryOp Z) (rI Z λi j=>He! Z),uV!,#[v,H,I,r,h],uW!,PI X tg l (Z Kx tl),uX!,IsPart vl lo,
uY!,IsPart vu hi,uZ!,BX! (u=1) 5 3,ua!,H d≠LK! Z Z,GC?,by (.show I? z Op),
ub!,ST! (ib! D9! (Dx! I7! Nz! (Az! t))) Z Z,uc!,ST! (ib! E2! (Dx! I8! Nz! (Az! t))) Z Z,
ud!,Jgw C "__setattr__" (re (Eu! "object.__setattr__")),ue!,EM 1 Z Z [G2!] Ka,uf!,Cn vs a0,
ug!,s.heap.IsList l2 ys,uh!,AW CW CH CP (EG! Z (.dK (Fg! l))) p Z/\JE p W H (EG! Z (.dK (Fg! l))),
GD?,by rw[Ym! (R7!+AZ!=AZ!)],ui!,[AO! Gs!,AK! xs],uj!,Aw! (by have:¬Da!:=iy! h (JH! z);show AP?),
GE?,by show ZS #[_,A!,SB Gr!,_,Z,A!,Z],uk!,∀b,E8! Cd!->g b,ul!,(IR H3 l1 (JB! Rk!)),um!,E4! H2 wp Dp AI!,
un!,RU H t k Z s g n u,uo!,by change W.IB.length<=d+1;show CB a3,up!,#[NU!,th.1,sn,th,D2!],uq!,Z/\E7!<=BI! Kh!,
ur!,4+oJ N,GF?,by have e0:oJ (A1! gy! Ta!)=W.qs.length:=Sc,
us!,∀(x:Addr)(L:k!)(H':Hp),Z->Z->JW!->hU!->je!->kg!->JM!,GG?,by have#[#[q,G],hi]:=i9! g.toNat Jk8,
ut!,w! fs.lookup f v,uu!,storedH_new (atKey_none_of_get no),uv!,JQh (λ{a b} (h:a<b)=>Z) RW,uw!,GC.mp (BY Z h),
ux!,YN! Be Js T.len CJ bv,uy!,b∈B7 l1\/b∈B7 l2,uz!,(letOwnedTupleGo tg K7! u),u0!,So! (u=1) 5 3,
GH?,by show ZR (DC h1 h3 Z ?_),u1!,GK.mpr (jp (by have#[i,_,e]:=ZN hz;rw[<-e];rfl)),
u2!,((Gt! (Kt! Da!)).map CK!).getD 0,u3!,[.n h,.t a.1 a.2,.t b.1 b.2],u4!,(Rm m g ts),
u5!,In! OD.toNat (q,F2 G tb D2! Z),u6!,DT K H l (BC! AU!),u7!,Fp p W ys W' EF H,
GI?,(by show Cb? (kl! (xs.length-i) (i<=xs.length)) IU!;show CR?;have#[q1,q2]:=hl i ys H2 hi pv;show#[q2,?_];by_cases JK:i<xs.length),
u8!,h.Ns1 dx mA,u9!,Jd f0 w0,vA!,QY hl rows,vB!,∀b xs,JlA->Nn! H' (ii xs),GJ?,by change BX! (Z=true) _ _,
vC!,(IS! (h3! WW! Mc! (#[ZZZ,TB! lo,XV hi u,XV 1 v]))).objs.size,vD!,vs=[Cm!,F2!,va,vb],
vE!,λσ H R=>F0! ta (λvs H1=>Z),vF!,∀i x σ H,Sa!->Yp!->kk! x,vG!,([],[],[]),
GK?,by have f:DG! (EK!->Z->Fx! (EG! Z (.dK (Fg! l)))):=λb o e h=>S! (Ad h) e,GL?,by have h3:=Pl (gu! Z) Z,
GM?,by have#[W4,TY]:=W3.LD S4 aM,GN?,by have#[W3,YN]:=W2.LD S3 UM,GO?,by have YQ:=NV! W2 YN,
vH!,(Z Z h! r.2 Z).1.nn,GP?,by have kt:=NV! HB! wf,GQ?,by have#[ad,fd]:=s.ok.find ha hh,
GR?,by have i:kZ!:=#[g0,hi],vI!,{ W with c:=LD!,ls:=RV!++L,GV:=Kj!,IB:=W.IB },
GS?,by show#[L?,t,_,3,AO! g,A!,A!,Lc!,A!,?_],vJ!,Array (WU! IJ!),vK!,by rw[typeLookup_type,WU];kernel_rfl,
vL!,SU H m y,vM!,knd.keeps Z g dat is!,
vN!,h4! wi (λJ H1=>∀p,ZI! p->JhC HN! [] (YZ! H1 []) (∀i m ys H2,W i m ys H2->Z)),vO!,ZR (DZ Z Ch Z),
GT?,by show#[Af? C,Z,_,_,A!,Z,q!,Z,Z,Z,_,Z,A!,Z Z,Yf! Z,Z,Z,Z],vP!,Rm m g ts,vQ!,K0! hP! Mj [G2!] Z Z,
vR!,#[0,0,0,0],vS!,LL! (λ(kv:Key×V) (r:Int×Int×HS)=>∃a,kv=(SD! h!,LM!)/\JlD) ss fi,vT!,E4! H3 x2 ii ys,
vU!,Wt l.kind G NE l.x G',vV!,if Da! then(O!,WP,h) else q,vW!,aw dd dv z,vX!,#[o,g1,g2,g3],
vY!,E4! H7 hd Fx JkR,vZ!,E4! H7 wp Dp AI!,GU?,by rw[AF (show Ac! (Ds! T != Value.none) by simp)],
va!,(Dr m g n u),GV?,by have#[t,q]:=(show Z from rx);cases q;show Oi! Z Wq!,
GW?,by have:=Ba BE! (EQ d1) (As Ci! (Az! 0) Jhf),
vb!,∀C s1 H1 fp AB,PE (QR X sc cl C (x::YT!) s1 H1 fp AB) elt te,
vc!,∀C s1 H1 fp AB,fq (QR X sc cl C (x::YT!) s1 H1 fp AB) ifs tt,vd!,(ls++[#[Ba!,cr,g,b,JhX]]),
ve!,(ls++[#[E1!,cr,b.1,b,g]]),vf!,(Wv! xs BZ! LQ! x.2.2),vg!,No! (model DC! w) A (Builtin.«list.sort» JiV) P E,
GX?,by show#[Bp!,Il!,W.c,Fi!,_,_,_,_,A!,W2.po,z3,λt H3 ht et S3 UM=>?_],vh!,Lb m b S1,
GY?,by .rw[AD c,AD (Ge! (¬b=t) (SU! c))];lia,vi!,V->CD!->CD!->h8! VK,vj!,ZZ!=nums W.c L.length,
vk!,JkZ (∃a,Bx!/\nC H1 a/\kf! Z),vl!,[AU! (jf!),AU! (Ir wt)],GZ?,[Z,A!,Z,_,_,A!,A!,Z,?_],vm!,wR p W io I,
Ga?,by show Ch? hx (W! #[Z,A!,Cy Z,nx _ A!]),
Gb?,(by show ET?;show W? Z;have#[p,h,va,vb,W,rfl,S,k]:=h;show A?;show Q?;show C?;show#[_,Af (Bc (i8! jk! q! Fo! G1 D6! (kW! xL))),?_];show#[Qr? LB! p h W S];rcases k with k|⟨q,G,i,k⟩),
vn!,OB! H4 x ([]++[AU! (B9!)]),Gc?,by show EX? G.h (Cb AE! tb) S9! (S.QF (Cb AE! tb)),
Gd?,by have#[pK,H5,J5,q5]:=q;show Mt (Sr J5 J4.ok) hN hi hn λs6 J6=>#[_,H5,J6,q5],
vo!,.Tuple [FV! x px,FV! y0 jK] kt pt,vp!,rE Z W.c h L Z,vq!,∀a b,Jm!->BS!->ki! Z,
Ge?,by have#[u',r',q]:=hl j y v' e1 e2 e3,vr!,Q0! (Z K x y H Q),
vs!,Z (H':=kh! Z Z) Z #[_,Ab] (B4! #[o,Aj Z b o e]),
vt!,{ s3 with heap:=s3.heap.push (h3! "slice" Mc! (#[ZZZ,vl,vu,At])) },
vu!,∀i x ys H2 (N:HN!),Sa!->Pv i ys H2->(∀ys H,Pv (ww) ys H->N ys H)->tt (Ye!) H2 λb H4 =>Yl! (te (Ye!) H4 jj!) (N ys H4),
Gf?,by have#[g1,g2,g3]:=Qs S ha WZ,vv!,{ W with c:=LD!,ls:=RV!++L,GV:=Kj!,IB:=W.IB++[(y.n,xf)] },
Gg?,by change Str.length Z<=10;show Ab?,vw!,W.specialIn K (Eu! "object.__class__") "__get__"=D! JkY,
vx!,(h.lt (AH K3! hn)),Gh?,[I.ok,I.os,Z,Z,Z,Z,Z,Z,EU!,Z,I.len],Gi?,by show ok.QE (JKI) (λc q=>?_) λc xs q=>?_,
vy!,W.takesIn K (Eu! "object.__class__")=D! GM,Gj?,by show Qo? LK IU LK IU,
vz!,Je! J.stop (Ny! p H2) J.go J.TX Z,Gk?,by show A2? (iC! q! I2! G2 GZ Fp! No) Z,
Gl?,by .rw[e];show#[ZV,ZV,ZV,ZV],Gm?,by show Cf? (As f v ((k,x)::r)=(if k=f then(k,v)::r else(k,x)::As f v r)),
Gn?,by .show EW? #[xs,xs[i],q1,by simp[JK]];have#[e,y]:=y;subst e;show hs i x ys _ (JkT (xs.length-i) (xs.length-v6) (ww<=xs.length)) (y xs q1) pv aD!,
v0!,typeLookup (DE! Q2!) (f9! Z)=Er! Rs,v1!,holding [ov] (getMethod ov m pl),v2!,s.heap.IsSliceOf sl vl vu At,
v3!,∀b∈ch,(b∈X.ex\/X.IV.heap.objs.size<=b)/\Wd!/\(Jkr)/\TU! (g!≠b),
v4!,RX kind_sorted plain_sorted entry_sorted (args_sorted1 _) (Z),
Go?,by show y! ?_;rw[es];show A1?;(.show h? h);.show EP?,v5!,Wg D m n sh qs [],
v6!,JhB vE g.mPk.mg g.mPk.fn.kp g.mPk.bd (Aa Z (HE! JiU Z)),Gp?,by have#[FN,H',I,q]:=h;show#[FN,H',I.NF,q],
Gq?,by .show Az?;show v! #[q,G,i,q,HM,_,A!,hq,Cu!,_,A!,_,A!,k],v7!,Sn! e (I.ok.dF x c uo hc),
Gr?,by (have e5:IA L=IA (Rv! v6)++IA (L.drop v6):=ZY! ZF GN),Gs?,by show W.methodCall_KW (pl:=pl) ka! ht,
Gt?,by show#[n? q,Cc? LK bC (Ce _ ZV) _ A! q b _ tb S1 (Oy! hb)],
v8!,iJ! Cj No Ay (A7 nJ NS A! M5.mg M5.fn.kp M5.bd U! Bk (Kr! Z)),v9!,∀f,RT (fs.lookup f) (mA f),
wA!,∃kvs,qr P w K FA z!/\Be! (mU K) FT z!,wB!,sY m A A' B B' dd,wC!,v! #[AX!,l1,l2,t,A!,e,sn],
wD!,ZipApart z TI TO i1 i2 l1 l2,
wE!,∀(C D:Addr) (H':Hp) (s1 s':Shared) (H1:Hp),C=s1.heap.objs.size->Tb!->Ld!->B7! H' C->(∃m,s'.heap.Ns C m)->YQ! D->compPost iE! X.A X.xe use RQ TA! C (.ok .next) s',
wF!,Jg3 (comprehension Z sc SL (firstIterPos [#[Z,iter,ifs,0]] bi) (newList []) Os Jkj use) RQ,
Gu?,[_,A!,_,_,A!,A!,Td!,_,_,A!,A!,_,_,A!,A!,SS! 2147483647,?_],
Gv?,by show#[OW!,λc=>bb Z c,λc=>bb Z c];have#[_,_,_,rfl,rfl,#[a,rfl,ea],#[b,rfl,eb]]:=pk pa;show Z p pw r a b V h A! S1 er (Jp (dd:=Z h ta tb) g x1 hn hB hd cs ok (λv dv W' D' al' EF H2 tl ef wi fr fp eh=>?_) bad a b ea eb);show A3?;cases tx;show kq _ Sr!,
JrR,Classical.byContradiction Z,JrS,List.getElem?_range Z,JrT,Z λb hb o eb=>Z b o eb (off b hb),
JrU,Z λr=>(JjS,AO! Z),JrV,(Z be).length,JrW,(Wl!),JrX,(HX!),JrY,(LA!),JrZ,(JjB),Jrk,(JjN),Jro,(lF!),Jrs,(JoI),
Jru,(λi v=>∃e,es[i]?=D! e/\v=e.key),JsA,(s.heap.objs.size+4),JsB,(∀i q G,JmO (rF G i)),
JsC,(λz=>(Z _ z).2.1 A!),JsD,(if v<0 then Dh! (v+GD!) else min v.toNat n),JsE,kF!=true,
JsF,Go (AA! x=AA! y)=true,JsG,PC!/\Z,
RU?,by have#[#[a1,a2,a3,a4,a5,a6],#[b1,b2,b3,b4,b5],#[c1,c2,c3,c4],#[d1,d2,d3],#[g1,g2]]:=x.df,
RV?,by have#[l1,l2,t0,a,z,b,el,es,ll,nv,ef]:=af,RW?,(by rcases h with h|⟨r,hr,h⟩),JsH,l9!=Z,JsI,JmH Z=Z,
JsJ,JoJ=Z,JsK,A9! (JpT Z Z),JsL,λq=>hb (by simp[q]),JsM,λq=>JjX,
RX?,(by rcases Cw hv with⟨j,u,rfl,rfl⟩|⟨y,u,rfl,rfl⟩),JsN,u=fZ! n,JsO,BX! Ea! Z Z,JsP,lm!=none,
JsQ,(List.range as.length)[j]?=none,JsR,s.ok.fresh.2.1,JsS,(Iq! q hq).2,JsT,o.data=Mc! vs,JsU,fb! 1000,
JsV,∃o,EK!,JsW,∃o,LY!,JsX,∃o,lN!,RY?,by change Fz! (Zr!).map,RZ?,(by by_cases hb:O4!),
Ra?,by rw[List.getElem?_set] at e,JsY,λb u q=>F6! q,JsZ,¬JnY Z,Jsn,λo=>WF Z Z,JtA,X.A.frames=D! Z,
JtB,X.stack=fh!,Rb?,by have#[v,o,ho,hd]:=lt!,JtC,∀b∈[z,TI,TO,i1,i2],Z,Rc?,(by rcases I.ok.eT with e|⟨e,hf⟩),
JtD,(Sg T5.w tl t).mp,JtE,λy c e=>Z y c (XI! e),Rd?,(by rcases q with⟨k,e⟩|⟨k,c,e,z⟩),
JtF,∀(AB:Db)(s:Shared)(σ:St)(H:Hp)(Q:VK),Z,JtG,∀(AB:Db)(s:Shared)(σ:St)(H:Hp)(Q:Z),Z,
JtH,λ_ H Q=>∀p,Hf!->Ny! p Z,JtI,λi j=>Ix S5!,JtJ,(kA X AB E).Ok,JtK,KJ! (F0! Z (λx H1=>Z)),JtL,[Y1!],
JtM,λo e=>FM k JhT e,JtN,λo e=>FM kp JhT e,Re?,by have#[its,rv,p,hz]:=DK! hq,Rf?,by have#[its,rv,p,hz]:=Gc! hq,
JtO,DM! (kvs.length+more.length),JtP,xs=[K9!,Ix j],JtQ,i.natAbs.log2<1920,
JtR,{ s with heap:=h',toks:=s.toks+knd.draws k },JtS,Mq! (IS! (h3! Z Mc! Z)),JtT,g∈SJ! u,
Rg?,by have#[mA,O,r,_,_,_]:=SI! Ss,JtU,fs.length<1000,Rh?,by have hd:l5!:=Z,JtV,mT!::outer,
JtW,λh' dE hs=>h _ ?_,JtX,s'=JLf,JtY,(Rb! Z).2.symm,
JtZ,((items.toList.drop (KG items.size 0 lo)).take (JkE)).toArray,Jta,([Bb!,t.2]:i!).take,Jtb,λm=>xs[i+m]?,
Gw?,by have#[its,r',pl,hz]:=Gc! hq,Gx?,by have#[_,_,_,_,o,_,_,e,ex,_]:=SL! p hk,wG!,its.toArray.size-1,
wH!,(x.ok.mono (DO n)).holds,wI!,ER.gens=Ep!,wJ!,λv _=>v=lE!,wK!,λvs H Q E z=>(h vs H Q E z).1,
wL!,∀u,Z->∃as,Reads Z u d as,wM!,λh=>UI t qs h,wN!,λh=>Classical.choose (mG h),wO!,ty="str_ascii_iterator",
wP!,ty="str_iterator",wQ!,Jg!×Bool,wR!,if ad then D! Z else none,wS!,z.cps.toList≠[],wT!,∀p∈ps,c∉p.cps.toList,
wU!,z.cps.toList.head?=D! 48,Gy?,by have#[n,rfl]:=Int.eq_ofNat_of_zero_le Z,wV!,(σ[wP]?).join,
wW!,Ie! (WF hb Z),wX!,Ie! (Yh! hb),wY!,s_++R6!,Gz?,by have#[o,e,_]:=(Nh! y hy).has hb,G0?,by have fresh:=JmR,
G1?,by show B? (oJ (Dx! Z h5! (Az! DW!)).length=I.m),G2?,by have h2:=(pm.filter λq=>! Z).length_eq,
G3?,(by rcases vs with _|⟨v,_|⟨w,vs⟩⟩),wb!,λp pp po h2 c uG e=>Bj! ?_,wc!,∀q∈l,k q≠t,wd!,∀q∈l,0<=PP,
we!,RP! (O!≠HH!),wf!,{ G with holds:=G.holds++[(t,a,[])] },
G4?,by have#[z,lo,ys,rel,o,es,ep,g1,g2,g3,g4,g5]:=kQ! Z hd,G5?,by have#[_,o',e',hn]:=hl.mem m,wg!,∀b∈fr,aY!,
wh!,∀b∈fr,¬g b,wi!,λb o q _ n=>?_,G6?,(by rcases hb with rfl|rfl|rfl|rfl|rfl),wj!,λh1 q1 b1=>?_,
wk!,λ{a b} (h:LI a b) (z:a=b)=>by rw[F8,z] at h;lia,wl!,λj a q e1 e2=>?_,wm!,λq hq z=>SH! h Z Z,wn!,Ii! (l∈OW),
wo!,∀l∈l1,¬AB!=n,wp!,∀q∈W.qs,0<=LS!,wq!,∀ob u,o≠.IC ob u,wr!,λy hy z hz e=>?_,ws!,XX! JnX,wt!,∀q∈G.AL,O!≠HH!,
wv!,∀u∈ah!,Z,ww!,∀q∈G.AK,0<=PP,wx!,g2! (Bm AI! tb v),wy!,∀(more xs:Ht!),Z,wz!,ys=JpF,w0!,ts.length<=5000,
w1!,hB! (jJ! jf!),w2!,kvs.length-v6,w3!,t∉Gy! i,w4!,AJ! (JmX ht),w5!,∀t∈ts,Tr!/\Ts!,w6!,ns.length<=5000,
w7!,λ_ _=>ES!,w8!,{ G1 with BJ:=G1.BJ+1 },G8?,(by rcases k with k|k|⟨h1,h2,ad,hl,WZ,k⟩),
w9!,{ G with hand:=mG! },xA!,λb' o e h1 h2=>?_,G9?,(by generalize E4! H G.h By (Cb AE! tb)=H1 at S1 NP b1),
xB!,(S9!:BZ).num,HA?,by show EA? hb,xC!,λH2 a t Q' sm ha ht q=>?_,xD!,λet i σ H2 _ h=>let#[_,_,_,fr]:=h;Z (Z),
xE!,(Ap G (Gy! i)).AL.map,xG!,λH9 S9 vH=>?_,xH!,W.c+BM! 0=W.c,xI!,λi ys H2 _ h=>by rw[bn];show#[Z,Ab],
xJ!,(keepR G R).hand,xK!,l.kind=NU!,xL!,∀l∈OW,ko! Z,HB?,(by rcases Ds e with⟨ej,e2,_⟩|⟨_,e⟩),
xM!,λX y=>JkD y.next Z Z Z,HC?,(by rcases Il hr with⟨e1,e2⟩|h),
HD?,(by rcases h with⟨k,⟨c,o,f,e⟩|⟨c,e⟩⟩|⟨k,e⟩|⟨k,e⟩),xN!,∀(ID:Bool)(more:TD),Z,xO!,λj hj bj=>?_,
HE?,by have#[#[q,G],eq]:=i9! Z Z,HF?,(by rcases Ds e with⟨e1,e2,_⟩|⟨_,e⟩),xP!,al++Ew! .w,xQ!,s∉JjD,xR!,jY!≠m,
xS!,JiR≠m,xT!,W.GV.length<=900,xU!,X1! JmQ,xV!,I.fs.length<=500,xW!,I.ss.length<=500,
HG?,(by generalize E5! H Z .dK Z=H1 at IJ s1 c1 f1 k1),xX!,I.cs.length<=500,xY!,∀e∈W.IB,e.1≠n,
xZ!,{ W with IB:=Ou! },xa!,λH2 jt PY=>?_,xb!,ho! JoP,HH?,by rcases h0 with h0|h0<;>lia,xc!,X0! s g Z u∈al,
xd!,∀y∈ys,∀b∈Dg y,Z,xe!,∀s g ts,Zs!∈al->Z,xf!,{ W with qs:=a7!,c:=c,ls:=Ls },
HI?,(by rcases Il hr with⟨_,e⟩|hr),xg!,W'.qs=In! h.toNat (q,Z),xh!,c=W.c+oJ L.length,
HJ?,(by rcases kk with⟨e,_⟩|⟨e,_⟩|⟨e,_⟩|⟨_,e,_⟩),xi!,λj2 q2 G2 ui t2 lI vg=>?_,
HK?,by have bG:W.qs.length=m:=x.wg.wl.len,HL?,(by rcases Dl! mid with rfl|⟨h,h2⟩),xk!,λr:Int×Int×HS=>h!,
xl!,λne v H2 W2 at2 PY gz=>?_,xm!,λr:Int×Int=>h!,HM?,(by rcases iv.t2 with⟨h,_⟩|⟨_,pm⟩),xn!,λj q G hj t ht=>?_,
xo!,tb∉B8 Ax! ta,HN?,by have aD:Z:=JqL Z (Hi! cI),xp!,∀y∈ws,y.length<=Z,
HO?,by have#[b,x1,x2,x3,rfl,sb,_,r2,_]:=xH rep,HP?,(by rcases c with⟨xs,c⟩|⟨ob,u,c⟩),xq!,∀l∈W.ls,l∈W.ls,
xr!,x % JnU,xt!,(Z λb hb o eb=>YN b o eb (off b hb)),HQ?,by show lM!,
HR?,by show GA! (Builtin.Tuple.tupleExact _) Z,HS?,by show JkN UM (jq! s2 IT),xu!,by simpa using hs,
xv!,by simp[Ck,CN,e],xw!,by grind [As,V],xx!,by simpa using z,xy!,by simpa using ne,xz!,by simp at h1,
x0!,by simp at h2,x1!,by simp[PyData.depth],x2!,Z (λi=>L.getD i (Tx!,0)),HT?,by show#[Q5? 1 Z],x3!,w! Z gn! Z,
x4!,by have#[od,J,hl]:=I.look;show Z,x5!,by cases h;show Z,x7!,(by assumption),x8!,(by simpa using h1),
x9!,(by simpa using h2),yA!,(by show AP?),yB!,(by simp[Nz]),yC!,(by rw[Mb! bk.OC]),yE!,#[Z,λt H1 W1 l1 IT=>?_],
yH!,oJ ns.length,yI!,EQ sK,yJ!,S! Z (GB! Z),yL!,SB h'.objs.size,yM!,DB! (Str×Tok),yN!,DB! (Key×Value),
yO!,DB! (i!×Int),yP!,Option.bind_eq_some_iff.mp h,yR!,wv RO!,yS!,wv DR!,yT!,wv ps.map,yU!,wv (Zr!).map,
yV!,(DH! Z).map _,yX!,Kr! KB,yY!,Kr! Hc!,yZ!,P! Z (l! EZ! e),ya!,W! #[A!,A!,A!,A!,Z],yb!,DY! Z xs!,
yc!,DY! Z { s with heap:=Z,toks:=t' },ye!,by rw[Z];split<;>lia,yf!,v! (id! Z),yg!,Fx! (dQ h H).get?,
yi!,(V.ls.map be),yj!,AY! bG Z,yk!,AY! Z hj,yl!,l[j]?=D! HD!,ym!,qs[l.g.toNat]?=D! HD!,
yo!,W.qs[l.g.toNat]?=D! HD!,yp!,W.qs[d.at]?=D! HD!,yq!,qs[l.th.1.toNat]?=D! HD!,yr!,X.A.units+1+1,ys!,WF WW Z,
yt!,WF Z n,yu!,WF Z r,yv!,WF Z hd,yw!,WF Z eg,yy!,Kt! (k q=t),yz!,AF ES!,y0!,Fy! ws,y1!,Fy! sl,y2!,Fy! WP,
y3!,Fz! G'.AL.map,y4!,Fz! G3.AK.map,y5!,HE! Z Aa!,y6!,Nq! sB,y7!,Nq! CD!,y8!,A3! Z [G4!,Z] Z,y9!,A3! Z OJ! Z,
zA!,A3! Z OP! Z,zB!,A3! Z OY! Z,zC!,HF! PySem.Fin,zD!,HF! Jg!,zE!,Au (i:=Z) Z A! (M3! A!) Z,zF!,(hf b hb).2.1,
zG!,aG.2.2.2.2.2.2.1,zH!,(em z hz).2.1,HX?,[L?,A0? Z,EN? A! Z _ _],HY?,by show#[L?,EO? CW Z Z v4 Z Z Z Z],
zI!,a! Ic! Z Z,zJ!,a! "state" Z Z,zK!,a! "give_back" Z Z,zL!,a! "letters" Z Z,zM!,YK! Bo! Z,zN!,YK! CP! Z,
zO!,Q (AG! (MZ! (Z))) H',zP!,Ab! F.args_list_extend_2,zQ!,Ab! Heap.SameBut.refl,zR!,F1! n,zS!,F1! b,zT!,F1! m,
zU!,(FV (JpQ) Z),zV!,wE (Eg (dC dd) (XM dd)),zW!,BM! (KG n n hi),zX!,YM! Hc Z,zY!,firstArgMember _ _,
zZ!,Int.add_comm _ _,za!,EH! ps.map,zb!,EH! G.AK.map,zc!,EH! W.GV.map,zd!,EH! (Z Z).map,ze!,EH! (D7! L).map,
zf!,Bf! t2,zg!,Bf! t3,zh!,Bf! v1,zk!,(Af (Gk A! A! Z Gw)),Ha?,by rw[Ad λe'=>h2 (JhO e')],zl!,Jgp 7 Z Z Z,
zm!,Jgp Z Z (OR! Z) Z,zn!,BQ! W.handedIn Z,zo!,Db! ZE,zp!,by have:=r.un;lia,zq!,by rw[F8] at *;lia,zr!,F3! jZ!,
zs!,DG! (Hj!->Z->Z),zt!,DG! (Z->HK!->Z),zu!,AD (Jnu),zv!,#[_,RL? Z],zy!,Nu! bv,
zz!,LW λ(o:Obj)(its:Array Value)(n:Nat)=>Z,z2!,EM! (ii (k.map kV)),z3!,YQ! l,
Hb?,by .have#[o',e1]:=JjG hx;show Z,z4!,by show P?;show Z Z,z5!,Z (by simpa using hi),z6!,Ny! Z Bn!,
z7!,(Ao (pl:=_) Z q! Z Z Z Z U! Bk (Kr! Z)),z8!,D! y::R6!,z9!,(qs.set i (q,al!)),JAA,(qs.set i (q,M0 G b 0)),
JAB,aG.2.2.2.2.2.2.2.1,JAC,CB! (JH! ht),JAD,De! (Hb! Z Z Z),JAE,(by show BD _ _),JAF,(by show rZ ey A! A!),
JAG,YV! Cs!,JAH,YV! (SB ta),JAI,(FS ji!),JAK,YW! WW!,JAL,YW! "max",JAM,YW! Mo!,JAN,YW! Q2!,
JAO,YW! "isinstance",JAP,AC Nat.add_right_comm _,JAQ,FM k HW! Z,JAR,pm.nodup_iff.mp nd,
JAS,(WV! (Bp P w)).is h Z Z,JAT,wv (Bm l t v).map,JAU,wv (As f v fs).map,JAV,wv (D7! (IA L)).map,
JAW,λq=>(O!,AK! WP),JAX,h9! lK,JAY,Jgw CP Z Rs,JAZ,(re (.ref ex)),JAa,(re (.ref io)),JAb,HU! I.ok.VA,
Hc?,by .show RN? Z,JAc,Cw! hl,JAd,Cw! sm.1,JAe,(Aa KB (HE! Z Z)),JAf,(Dt! (Dt! hz).1).1,JAg,AW CW C CP H' p W,
JAh,Yc! [x,y],JAi,∀b,BS!->Z,JAj,AU! (Oq!),JAk,Yd! (B9 G),JAl,Yd! (As f y fs),JAm,iB! Hv!,JAn,FD! NS! Z Z,
JAo,(BW! DN!),JAq,N3! Z (R5! CP (Fc (c+1) d)),JAr,GB! z3,JAs,N5! JTE Z,JAt,(re (Eu! "object.__class__")),
JAu,HZ! h7! Z,JAv,E7!-JF!,JAx,Jg6 wi.wg.wl.len Z,JAy,Jg6 Z hi,JAz,Jg6 Z cy,JA0,Jg7 hn,JA1,iG! G.AK.map Z,
JA3,xs[j]?=D! v,JA4,SO (qs.set i (q,Ob!)) t,JA5,Br! cells.lookup c,JA6,Br! cl.lookup c,He?,by show CY? (Er! Z),
JA7,OA! SF,JA8,K6! (W! (Z b hb)),JA9,K6! (hb.elim y! λh=>Z),Hf?,by show#[hl i ys H2 hi pv,?_],
JBA,YN! Br Z Z PyProof.Rows.boot_int Z,JBB,h4! t (λx H1=>Z),JBC,h4! to (λx H1=>Z),
JBE,(Ac (ju! (ri (Hh Z)) Z) Z),JBF,Ai! ((p.map Z).map Z),JBG,Yi! (JoT Z),
JBH,Yi! (Ao (pl:=_) Aa! g.TW.cl Z (Z g) Z Z U! Bk Z),JBI,SP! { W with c:=Z,ls:=NW! },JBJ,Qu! (ZG _),
JBK,(Dj bv No A!),JBM,AH!++Ew! .w,JBN,(DR! be).map,JBO,Yn! ey,JBP,JV! (AC s9 Z),JBQ,iO! Z Z o,
JBR,AW CW CH CP H' p W,Hg?,by have#[_,_,_,_,o,_,_,e,_]:=x;show#[_,e],JBS,KQ { G with holds:=Mz Ax! ta Z },
JBT,SS! 4,JBU,((by cases hz)),JBV,by show Cn? Z;show AP?,JBW,by have:=EX e;show AP?,JBX,OI! ZW!,
JBY,DY! H' { s with heap:=h',gens:=g',drawn:=d',toks:=t' },JBZ,CA! (x==EB! "__classdict__"),JBa,iR! h,
JBb,Qv! iE! X.A Z Z E Z,JBd,(!(if Z then some kJ! else none).isSome)=Z,
JBe,(Builtin.List.listExtendWith (EQ Z) Z Z),JBf,Sc! Z A4!,JBg,F5 lr!,JBh,aG.2.2.2.2.2.2.2.2,
JBi,(x.wg.wl.ok _ hl).2.2.2,JBj,∀b∈Z,b∈F9!\/Bg!,JBk,(RY! Z).toArray,JBl,λu=>Go (u≠t),JBm,λu=>Go (u∈JlX),
JBn,(ii (RC! kV)),Hh?,by show#[_,(show JR! _ from x)],JBo,id! q,JBp,OR! bv,JBq,OR! (A3 Fj Z Ag),
JBr,Ok (FX.keepR G R) n,Hi?,by show y! (AT #[r,hr,ht]),JBs,JhK h!,JBt,Nw W W' Fi! j0!,
JBu,Heap.SameBut Dw! Z h',JBv,Y0! (Z Bw! Z Z),JBw,XS! Z sK Z Z,JBx,(Z (·.length)).sum,JBy,O!∉Gy! i,
JBz,O!∉([]:E!),JB0,O!∉JlY,JB1,ih! Sm! Z,JB3,HT! e xV,JB4,Bm AI! tb (o-wt),JB5,Bm AI! tb (ku!),
Hj?,by show Ca? Z Z (Ac (Z) Z),JB6,W2! us ns,JB7,W2! items.toList ns,JB9,JhR Z (EP X AB σ Q) Z,JCA,JhS d Z,
JCB,JhS (.IE AX!) Z,JCC,(backTo bi (fp! Z SL)),JCD,Sp! (c≠a),JCE,im! .ref,JCF,im! DN!,JCG,w! fn! Z Wc!,
JCH,ZC! Z (JH! z),JCI,BE (λr:T2×Int×List T2=>! Go (FA!=Gs Z h!)) Z,Hk?,by show Ay? (lo! Z Z) Z,
Hl?,by show S? wpAny_handled ?_,JCJ,Rf (Ko! h g tb) G Z,JCK,JhW Hj! Z,JCL,(.dK (Fg! (Kj!))),JCM,io! hb,
JCN,ip! .Eq Z,JCO,Su! Zs!,JCP,Oc! A!,JCQ,JhZ a,JCR,QR X sc cl C (x::Z) s1 H1 fp jM,JCS,LU! h7! Z,
JCT,Qd (a:=Z0!) A!,JCU,Od! ex,JCW,W.ls=l1++(n,t)::l2,JCX,(ZS #[JP1 HY _,?_]),JCY,Sw! Z sl Z,
JCZ,(hf b hb).2.2.2.1,JCa,(Ac (Cs hu Aa! Z (D0 Z) A!) Z),JCb,S2! { W with c:=SA! i,ls:=NW! },JCc,EG! p JqV,
JCd,EM 2 Z Z h7! Z,JCe,De! (K4! pyIter Z),JCf,K2! QV.get? c,JCg,Hw! f,JCh,Hz! v,JCi,DG! (EK!->Z->Z->LY!),
JCj,D! (FB (Ar u)),JCl,S6! (JlP Z Z),JCm,S6! { G with BJ:=Kx!,hand:=Z },JCn,Jhe (Fg A! g.T.range Tn!) Z Z Z Z,
JCo,RM m qs ls Z n (Tk!) se,JCp,i2! h.Ns,JCq,∀p,ZI! p->Ny! p Z,JCr,AllBare s.gens,JCt,A.units+64<cLine,
JCu,(BC! YJ!),Hm?,by have#[_,_,_,_,o,_,_,e,_]:=x;show Bk!,JCx,w! Cd! Z ob,JCy,(as.getD i 0),JCz,Nr! Z x kr!,
JC0,K2! KH! d,JC1,h8! (Bi!),JC2,Ya! Z (Ix DZ!),JC3,SH! AT e Z,JC4,SH! nw e Z,JC5,jA! (Fx! Md!),
JC6,(Xq! be).take j,JC7,(KZ! cZ).2.2,JC8,jB! "len" Z,
Hn?,by show B3 #[Af? CD,dx,_,_,A!,hp,R1!,g.TK.nW,Dm,pw,RK,_,A!,RI,Fo W _ ZV,_,A!,r,_,0,_,A!,A!,iH!,A!,k],
Ho?,by show B3 #[Ec?,_,A!,EN! Z Z Z,LI!,_,A!,_,A!,Z],JC9,JY! AH! 2,JDA,Ov! (Ix S5!),JDB,Jhq No Z Z,
JDC,(QN b' o' e' KR),JDE,V->Nq! V,JDF,aG.2.2.2.2.2.1,JDG,(hf b hb).2.2.2.2.1,JDI,ys[i]?=D! y,JDJ,Led kN! t,
JDL,H_ K H Z (kP hs os rs),JDM,HN 3 Z Z EL! (Z),JDN,(Z be).length<=60,JDO,r.2.2.length<=60,JDP,Jht U'.nd Z Z,
JDQ,Jgp 2 Z Z (Ac Z Z),JDR,Jgp 6 Z Z (Ac Z Z),JDS,#[_,A!,Z,λb o e _=>e],JDT,Cn! b Ai! xs,
Hp?,by show EQ? (Builtin.Dict.showsAll d),JDV,JP! (R5! CI Z),JDW,Qv! K1! A Z (Z) E Z,JDX,Qv! K1! A Z P E Z,
JDY,∀p,Hf!->Ny! p (YX! p Z),JDZ,∀p,Hf!->Ny! p (E4! H p ii Z),JDb,GE->GE->GE,JDc,a! x x st,JDd,#[r,h,A!,ht],
JDe,EN P w H h a u,JDf,jR! d,JDg,Binds Kx fd ps [],JDh,FY FU! X.w Kx X.mg Qr! (XA FU! X.w) k f fd ps sp,
JDi,(λh=>Q!),JDj,IJ!->Sem IJ!,JDk,Z->Q Z Bn!,JDl,u=fY! b,JDm,¬Fq! E1!,JDn,¬Fq! HA!,JDo,F1! (lo+i)::R6!,
Hr?,by have#[z,hd,vs,rel,dd]:=SI! rK,JDp,O3! R7!,JDr,Du (Jk!),JDs,by show P?;show Z (Z),JDt,O8! nu,
JDv,Ay! sB FS!,Ht?,by show ZR (wpAny_standAt (ZR Z)),JDy,Zl! h Z,JDz,Zm! JjN,JD0,(A3 E6 (Uv hu Z Z Ag JG!) Z),
JD1,DD! xs ft!,JD2,In! g.toNat HG!,JD3,([jh!]++[Y1!]),JD4,jb! [Z,Ix Z],JD5,PG! H1 Z Z,
Hu?,by show y! #[Z,_,A!,p,dx,_,A!,hp,Cu!,_,A!,p,Z,G,Z,A!,S,Z,?_],JD6,JiF CT!,JD7,GF H a Z (Ck z! k),
JD8,YN! Be Bi T.len CJ KB,JD9,JiG bv,JEA,JiG KB,JEB,JiG (lp! Z),JEC,Zq! h,JED,w! sc.names.lookup y0 Wc!,
JEE,Rf (Kl! h ta tb) G Z,JEF,Zy! (JiN Z) Z,JEG,Zy! (qs.set i (q,Z G b (Z))) Z,Hv?,[Ax? p CW Z _],
Hw?,by show A5? (G_ Z),JEH,jg! s6 Z,JEI,PM! Z (Jgp 5 Z Z (Ac Z Z)),JEJ,A0! (.Call Z [] [] bi) Z,
JEK,FA!=Gs OT! h!,JEL,Z1! (E5 DG EJ EI Ej Z (Kr! Z)) Z,JEM,Z1! Z ie!,JEN,(Ka! (t≠HH!)),
JEP,Te! (c==Z || c==Z) Z Z,JEQ,Bb!≠cr,Hx?,by have#[z,hd,xs,rel,dd]:=SI! j9,JER,ys++[#[LA!,io,I,[],[]]],
JES,(C6 (JhB fQ g.mLl.mg g.mLl.fn.kp g.mLl.bd (Kr! Z))),JET,B7! X.mg WW!,JEU,Z=(Z).map λr=>(JjS,AO! Z),
JEV,DY! (EG! a Z) Z,JEW,((ht t).mp z).1,JEY,AY! f2! z,JEa,jv! 2 Z Z,JEb,(A3 Gx (JiP (Yx! Ag)) Ag),
JEd,JiS H1 Z Z,JEe,(by show CB Am!),Hz?,by show Bn? JmM,JEf,PZ X (binaryOp .Add) Z,JEh,j8! Z ZA Z,
JEi,HQ X (DE! Eo!) Z,JEj,HQ X (DE! Mo!) Z,JEk,HQ X (DE! Q2!) Z,JEn,(y.fi.map be).Perm (rg m),
JEo,((Z).map be).Perm (rg m),JEp,(Bm AI! tb (o-wt)),H0?,by show#[o?,Z,dx,_,A!,Oo! Z Ab,q!,Z,Z,?_],JEq,JiX hb,
JEr,ir! m mx,JEs,ir! m JlT,JEt,iJ! Cj No Ay (YN! Br EU g.TR.str CU Z),JEv,T7! hq,JEw,Dc! (kvs[j]?) k v,
JEx,JiZ (Cg (r.2.2.map Ar)),JEy,(.ListComp elt [#[tg,iter,ifs,0]] sc bi),JEz,(y.VC l hl nb),
JE0,∀b u,SC! Cd!->SC! Me!,JE2,Jim m0,JE3,OL (R_ Ax!) m (Rd! G) [] R,JE4,(ls++(Bt Cr! rs).map (Iu cr)),
JE5,LG p b (FS UV) H Z Z Z,JE6,Jiu (Z [SB q] H Q E),JE7,Jiv Z I.pin,
H1?,[q,G,i,q,a,b,G,ta,tb,A!,i.at HB!,ea,eb,AT (AT #[ha,Z,ad,_,fd,Z])],
H2?,by show Bg? _ (v! #[q,G,i,q,a,b,G,ta,tb,A!,i.at HB!,ea,eb,Zt!,Z]),JE8,GK.mpr K5!,JE9,aG! bn,JFA,Jix FL,
JFC,B4! #[o,Z b o e],JFD,KJ! (F0! te Z),JFE,KJ! (F0! tv Z),JFF,λσ H R=>F0! td (λx H1=>Z),
JFG,∀base:FS!,FY P w K mg B3! YV 12 Z Z jm! (Rc K),JFH,JjA s0,JFI,aL! NM! Z,JFJ,(BU (HU! low)),
JFK,RE (env::outer),JFL,JqG i i=D! as,JFM,(List.range as.length)[j]?=D! j,JFN,seqIndex? i Z=D! j,
H3?,by subst e;show I1.UB (ZG _) lf!,JFO,x.wg.wl.ok _ hl,JFP,Bq! l FF!,JFR,W! (Bc! e),
JFS,W! (Bc! (JL! (1<=sh) (BY Op hs))),JFT,A1! hT! i,JFU,Br! X.mg u,JFV,Br! X.mg Sx!,JFW,YK! D8! Ba!,
JFX,YK! D8! NU!,JFY,YK! D8! E1!,JFa,(Af (OL! 4)),JFb,aX! JqF,JFc,Nv! Z j V!,JFd,Nv! Z j (JoL Z hj),
JFe,aZ! (A3 Fj Z Ag),JFf,h6! he (λv s1 #[x,H1,I1,r1,q1]=>Z),JFg,IR H3 Z (JB! Z),JFh,Y7!+(2*sh-1),
JFi,HN 4 Z Z YS! Z,H4?,by rw[AD e,AD (lW!)],JFj,Ax (λ_ _ r=>r.keep (MK Z)) Z,JFk,Jg6 Ni! e,
H5?,by show Qt? Z Z (JmE Z Z Z),H6?,by show Qt? Z Z (Jhe Z 2 Z Z Z),
H7?,by (have e:b=s1.heap.objs.size:=by simpa using hb),JFl,W.keepIn K ZP!=true,JFm,OD! 3 HI! Z,JFn,OD! 3 YS! Z,
JFo,FM f Im! (JE! Z),JFp,Cn! d By l,JFq,Oo [Cm!,F2!] H Q E,JFr,J9 [Cm!,F2!] H Q E,JFs,Tp [Cm!,F2!] H Q E,
JFt,JjT "dict.pop" Z,JFu,JjT "dict.get" Z,JFv,(IR H1 d T4!),JFw,(IR H1 d kD!),JFx,JhS dd dv,JFy,am! Nd Z,
JFz,De! (K4! pyNext z),JF0,Og! AH! u,JF1,ap! C,JF2,R (XQ K a) H1,JF3,R (XR K a) H1,JF4,ar! (b≠p),
JF6,W_ h' it d i n ep,JF7,W_ xz it d i n ep,JF8,A0! (.Call JjU (Ml!) [] bi) Z,JF9,JkA Gd! Z Z,JGA,az! s3 Z,
JGB,#[_,A!,Z,_,lJ!,Z,Z],JGC,Wt E0! G tb wt G',JGD,Jw8 λ_ _ _ _ _ _ _ q=>Z q,JGE,∀σ H,Pv Wy! σ H->JQ! H,
JGF,∀i ys H2,Z->Pv i ys H2->HS!,JGG,λz=>h2 (JhO z),JGH,No! (model DC! w) A Z (λo ER=>Z) E,JGI,(I.pin p hp).1,
JGJ,a8! (Z target Z v) Z Z,H8?,by have#[W1,IT]:=S.step Uf S1 NP (UF (W! (Z b hb))),
JGK,((ne e (λ_ z=>by cases z) y.s)),JGL,((ne e (λ_ z=>by cases z) y.f)),JGM,((ne e (λ_ z=>by cases z) y.c)),
JGN,([(a,NameKind.local),(b,NameKind.local),(c,NameKind.globalImplicit)]:iS!).lookup,
JGO,JkK (eval (FV! x bi) SL),JGP,JkO (Z d z! o) Z,JGR,(al++Ew! .w),JGT,X.IV.heap.FunFrames Qr! Z,
JGU,E8! fj!/\Z,JGY,kp! (((Z (kn! Y4!)).map CK!)=D! 0),JGZ,(JjX).1,JGa,(I.ok.bs b o e).1,JGb,(x::y0::YT!).Nodup,
JGc,Mm! (kR! H'),JGd,Mm! (kR! H1),JGe,Fb! (Z u (F3! hu)),JGf,Fb! (Z u (l! Z (Ao! hu))),
JGg,{ G with BJ:=Kx!,AK:=jJ! (R3 AN! tb+wt) },JGh,kw! (Ka! RZ!),H9?,by have q:Yt! AW! 1:=rfl,
IA?,by have q:Yt! ":" 1:=rfl,JGi,(fj (Uq Z (Uo (Av Z Z Z YL!)))),JGj,(fj (xF Z (xo (Av Z Z Z YL!)))),
JGk,(List.Perm.nil_eq p),JGn,ky! (Cy RC),JGo,Q (re (.ref sK)) Bn!,JGp,iu! D0! (k q∉Z)=Z (Kt! Z),
JGq,Z=Iu! (Kt! Z),JGr,(DH! as.length).map,JGs,l! z hb,JGt,l! z (EH _),JGu,k8! Z Z (S8! Z (OL! Z)),JGv,lA! m Z,
JGw,aR K H a JiY,JGx,lD! yl,JGy,EJ! Pc (Jgn nd),JGz,Nw! JTE (O!=ta),JG0,lG! Bn!,
JG1,(ZR (DC gp qK (x:=Z) A! Z)),JG2,EN FU! X.w Z h' a Z,JG3,iD! (DM! 3),JG4,iD! (DM! 5),JG5,lO! YS! Z,
JG6,(Ac Z (Ac (ju! Z Z) (Cq! Z))),JG7,lc! (if Z then j else i),JG8,La! (! Go Z),JG9,S8! ie! (OL! Z),
JHA,Nr! H' x [He! B9!],JHB,jD! Bw! Eo!,JHC,jD! Bw! KO!,JHD,jF! q.Perm KS!,JHE,E4! H2 r Ai! [],
JHF,E4! H2 gO! Ai! [],JHG,Jhv goal goal,JHH,I1.UB (ZG _) I1.fresh,JHI,AG (HT! e g0!),ID?,[Ax? p CW dx _],
JHJ,z.2.AK.length+F5 l,JHK,w! (E4! Z Z Ai! []) Z (Ai! (UR Z)),JHL,(Jon (j6 hr)),JHM,lv! h,
JHN,∀h',mO! h' Z->Zv! Z xz->Q () Bn!,JHO,Oh (Iz) [] E0 S4!,JHP,A1! g8! (λu=>Go (u∉found)),JHQ,(Kd! r hr).1,
JHR,h_ (In! g.toNat (q,Ob!)) SZ j2 t,JHS,l2! (JjY C0 T.sorted Z),JHT,GF H2 a y (re v),JHU,JkL Z Z hr A8,
JHV,∀w' s',Z->ED! v w'->Q w' s',JHW,λh=>(UT ut h).toNat,IE?,by have hb:Z:=Wp! h;simp only[List.lookup,hb,Z],
JHX,mA! fy!,JHY,W.plainGet K C Gd!=true,JHZ,W.plainGet K C Str.empty=true,JHa,kO! W' EF H1,JHb,kO! W' EF H2,
JHc,Be! (mU K) l z!,JHd,mR! Si! Z Z Z,IF?,by have#[hs,os,rs,HP]:=(x.wg.wl.good (CL hn) e).told,JHe,mS! Cj!,
JHf,(E5 FC I_ IZ Kq No (Kr! Ay)),JHg,JX C H p d c ls,JHh,pq λ_ _ _ _ _ _ _ hc q=>Z,
JHi,pq λi j _ _ _ _ _ hc q=>Z,JHj,x.keep (fl! (s b o e)),JHk,RO! Go!,JHl,Gq! (Dt! Z).1,
JHm,(show s.heap.IsTuple l1 CJ! from p),JHn,(la!++ls),JHo,wv (Bm l t v).map=Z,IG?,by rw[Df AN! (λt=>kF!) t,Z],
IH?,by rw[Df AN! (λt=>aj!) t,Z],II?,by have:=BE (λu=>Go (u≠tb)) Z,JHp,∀b∈RE (fh!),Z,
JHq,λ_ _ _ H _ I h=>Z #[Z,H,I,A!,h],IJ?,by have#[its,rv,p,hz]:=I1.list hq,
IK?,by have#[its,rv,p,hz]:=I1.tuple hq,JHr,2<=iV!,IL?,by show Q3? Nj!,JHs,Sg!++Oj!,JHt,λr=>AO! r.2,
JHu,λr=>AO! FA!,JHv,λt=>(t,V.bl GM),JHw,λt=>(tk t,V.bl GM),JHx,JlO (l4!->Z),
JHy,{ G with BJ:=Kx!,AL:=Bm AI! tb (Z) },JHz,{ G with BJ:=Kx!,AL:=XI G tb wt },
IM?,by have#[g0,g1,ib,kk]:=G8! l hl,IN?,by have#[g0,g1,ib,kk]:=x.wl.ok l hl,IO?,by have h:t∈Of!:=h,
IP?,by have W2:S2! { W with GV:=Kj! }:=Z,JH0,JlU l.g.toNat,JH1,(p.map jN!),JH2,(KQ (XD G a)),
JH3,JlW (k<TU.length),JH4,σ[i]?=D! (re v),JH5,σ[i]?=D! (re (FB Z)),JH6,its.toArray[Z]?=D! u,
JH7,es.toList[j]?=D! (es[j]),JH8,es[j]?=D! (es[j]),IQ?,by show Q4? (λna=>?_),JIA,Ay! V IJ!,JIB,Ay! V Fc!,
JIC,W! #[r,hr,A!,ht],JID,l! es (F7! HL!),JIE,Np! (S0! sK []) Z BA! Z,JIF,q8 p (Oc! r),
JIG,HE! Ag (Be (Z A!) Ks! Z Z Z),IR?,by show Bs #[n? z,EN? A! Q! _ _],JIH,Nr! Z r xs,JII,l.2.1.length<=10,
JIJ,JD! Wk! o,JIM,(intKind DC! w),JIN,HM! (show b∈([]:X!) from z) Ch,JIO,(by rw[hex];simp),
JIP,(AH!++[.ME g s n' u DW! S]),JIQ,(AH!++[JqA]),JIR,Cn! a By hl,JIS,JmK h6,JIT,JmL Z No,JIU,CF H cs BO!,
IS?,by show Q7? (Ac! (Ds! d==Value.none)),JIV,AA (Ru xs lo hi) hz,IT?,by (have:u=t:=by simpa using hu),
JIW,OD! 2 OP! Z,JIX,∃t,u=Value.bytes b t,JIY,∃t,u=Value.float b t,JIZ,F8! (E4! H Z By l) Z,
JIa,F8! (E4! H Z Dp l) Z,JIb,Jmm JoU,JIc,Hn! #[_,A!,Ai s1 s',Z],JId,Sj! t ii Z,JIe,(ZS (ZS (Bj! (ZS h)))),
JIf,JnC (kq! (ER! Z Q) Z),JIg,by have:=Bf! x.OC;show H? DL;show this,
JIh,by have:=BE (λk=>N9! (f k) c k) Z;show H? DL;show this,JIi,JnG setFlight Z,JIj,jF! iN n,JIk,Cn! b IM! a,
JIl,Cn! dx IM! a,IU?,by show EQ? (field K7! 1),IV?,by show EQ? (field K7! 0),
IW?,by intro u e;have#[t,rfl]:=e;show#[_,Z],JIm,Q (Au! (Fa! ns ms)) s,JIn,VG ls Ct! t,
IX?,by show RB? (JqK Z Z ta Z),JIo,Jnr Z s3,JIp,hh! (LZ!->A9! (b j)->Z),JIq,hh! (LZ!->h!=Ct!->Z),JIr,Jnt ?_,
IY?,by (have hj:j<m:=JiE eq),JIs,#[[],.refl _,Sc],JIt,#[[x],.refl _,Sc],JIu,PW X (.BoolOp .And (Z) bi) Z,
JIv,PW X (.BoolOp .Or (Z) bi) Z,JIw,H!->Sm!->CW!->Z,JIx,FD K H Z (BW! DN!),JIy,FD K H Z (cs.map DN!),
IZ?,by change X7! 0+1<=X7! (1*Z),Ia?,by change X7! Z+1<=X7! (1*5),JIz,Jja j (Gp! i 0),JI0,E cls Rs H',
Ib?,by show Qu? H4 Z aO,JI1,JkH H as,JI2,JkH H' as,JI3,∀s',Inv X AB Z H s'->Q () s',JI5,JiO H' p F5! (d+1),
JI6,JiO H' pw F5! (d+1),JI7,0+Fw m y'+1=Z+Fw m y,JI8,Wk H ut lr ts Hc,JI9,jy N' h! r.2,JJA,JoV 46 Z,
Ic?,by show RE? (h.lt Z),JJB,FY P w K mg B3! YV (k+1) f fd ps sp,JJC,FY P w K mg B3! OV! (k+1) f fd ps sp,
JJD,AJ! (by show q?;show ht),JJE,AJ! (by show q?;show W! ht),JJF,∀(l:Addr)(H':Hp),OQ!->db->Z->YQ! l,
Id?,by have#[#[q,G],eq]:=Nv! qs h Z,Ie?,by have YO:∀b∈BX Z,b∈CS!\/Bg!:=UF Yw!,JJG,JpE (Z h ta tb G ha c2 hb),
If?,by change E7!<=Ah (Iu! λq=>Ji!) t,Ig?,by change E7!<=Ah (Iu! λq=>Hy!) t,JJH,JpM Qm! Z,
Ih?,by show#[_,A!,_,A!,p,RO? Z hp Z Z],JJI,by change Z<DZ!;show DP! Z,JJJ,JpR (Z\/Z),JJK,MZ (AA! v) UJ,
JJL,MZ (AA! v) XO,JJM,JpS z1,JJN,EE! (W! (O3 LJ t ht)),
Ii?,(by (.have z:Bq! Z (.IC o v):=z;rw[Z] at z;cases z)),JJO,(λq=>hq (HF.mpr (AT Z))),
JJP,(λq=>nb (HF.mpr (AT Z))),JJQ,(CM! λS=>Jy t S.2.2).sum,JJR,JpY Z Z WY Z,
JJS,(Ie! (QN b o (IT b o e hb) (sw b hb))),JJT,(Ie! (gG b o (IT b o e hb) (sw b hb))),JJU,DY! (EG! d u) s,
JJV,JqI qE Z Z,JJW,Inv (X.RP E) AB σ H s,JJX,Inv (lD X ex) AB σ H s,JJY,(Af (Bh (TO! KB Ay) (Yi! Z) Z)),
Ij?,by show QI FO IZ! JA (Ab! RB) Z Z,JJZ,swapsWith e Z pos.line SL=Er! Os,JJa,JqO JmJ,JJb,(.Tuple es kt pt),
Ik?,by show#[_,Ac Z (Ac Z (Ac Z (Ac Z (Cq! (A7 Z GZ A! Z Z Z U! Bk (Kr! Z)))))),?_],
JJc,JAJ o m SL (eval o SL)=j1!,JJd,JAJ o Gd! SL (eval o SL)=j1!,JJe,qg D2! l G G' bs,JJf,qg sh l G G' bs,
JJg,W.fnOf x q (Pt st) (Ha st) (Ak st) At kV doc pm an FH ct,
JJh,W.fnOf x qual (Pt st) (Ha st) (Ak st) At kV doc pm an FH ct,JJi,JrE OV!,Il?,by show RR? Z p,
In?,[q,G,i,q,a,b,G,ta,tb,A!,i.at HB!,ea,eb,Zt!,AT (AT #[ha,Z,ad,_,fd,Z])],JJj,FT! (·.n),
JJk,Eu! "object.__class__",JJl,.of_wp λprog w A R s h=>Z,JJm,hl.Sublist Ax!,JJn,jW! Ip!,JJo,ms.Pairwise (·<=·),
JJp,(ws++R6!),JJq,(show DM! 2 by decide),JJr,i!->i!,JJs,setField K7! Z Z,JJv,d.canLay0=true/\d.depth<=Z,
JJw,HK!/\Bg!,JJx,b≠p/\b∉CS!,JJy,le!=p[i],JJz,Ck (Z JhE) Z=none,JJ0,o.data=IL! At! n,JJ1,λp=>((JpW:F4!),wP),
Iq?,by have:=Jn8 x1,JJ4,∀xs,o≠ii xs,JJ5,lo+BM! 0*1,JJ6,(a:Int).toNat,JJ7,h!∈HJ!,JJ8,∀h',(Z)->Q Rs Bn!,
JJ9,JqB++B7 l,JKA,λx=>knd.hash BZ!,JKB,∃ob,Z/\ob.dict=none,JKD,∀{ps:kz!},Z->Z,JKE,Ff! (Z r (BL! hr)),
JKF,λu=>aN! Bo Z,Is?,by have#[dx,e]:=(x.ho q hq).ob,It?,by have hq:q∈Zd!:=hq,JKG,qs++[(x,(Jid:BZ))],
JKH,(wi.same wk.sm),Iu?,by show C?;show Ba?,Iv?,by show Q9? Z Z I5! Zu! Xs!;show A4?,JKJ,Gn! (Ym! (Z=0)),
Iw?,by show#[RS? s Z],JKK,ZN (HP.MA.pm.mem_iff.mpr Z),Ix?,by (show Q2? (h<m)),JKL,SB (Z h l1 l2).objs.size,
JKM,Bq! ta Jhu,JKO,B7! fj! a,JKP,Z=(Z l Z).map Hk!,JKQ,Ky (HX!) Z Z,JKR,l! ew (MB.refl _ _),JKS,l! hz z,
JKT,v! (Bc! QQ),JKU,AY! Z (St! q Z),JKV,A1! R0! AA!,JKW,(ii (p.1.map AU!)),JKX,G_ λc r=>z.cps.toList=Gj!/\Sd!,
JKY,(JqN).2.1,JKZ,(Ac (Cs hu KB Z Z A!) Z),JKa,Br! bootBuiltins u,JKb,FZ this Op,JKc,(Bp P w).is k Z=true,
Iy?,by show ZR (Jq0 Z ?_),Iz?,by show B3 #[_,λ_ _ h=>h,?_],JKd,AI (by rw[e]),JKg,HO! OS AM Z,
JKh,Dx! (FS Z) (tk t) (Z Z),I0?,by show Aw? (Jml KB) Z,JKi,HP! (EN P w H h a Z) (Z a _ e),
JKj,s.heap.IsCell c v,JKk,∀t,F t->D t,JKl,(Aa No (HE! KB Z)),JKm,HN 5 Z Z JhG Z,JKn,FD! Z (SB! (t∉([]:E!))) 60,
JKo,(FB (Ar u)),JKp,Be! (cS K H) xs ts,JKq,GF! Mb! ks,JKr,OD! 5 JhG Z,JKs,W2! NI.toList ms,JKt,SQ! (h l hl),
JKu,∃o,Br! Cd! o/\o.cls=LN!,JKv,(Cg (lR! EC)),JKw,ON! IsTup Z items,JKx,s.heap.Ns fi! m,JKy,L2.Mk K CW Qz,
JKz,L2.Mk K CP R5,JK0,Sl! (AO! Z) Z ht,JK1,ZA! CX Z FH,I1?,by rw[AI (show V.FJ=V.FJ from rfl)],
JK3,W_ Z it d v6 M7! ep,JK4,W.excIn K C j5 "ValueError.__new__"=true,
I2?,by .have e:i=n:=il! hi JK;subst e;show E? #[Bv!,Z],JK5,(by simp only[Gr];change Z+_<=_;lia),
JK6,w! Cd! l { cls:=EC! Eo!,data:=IL! CJ! n },I3?,by (have hl:l∈Lm!:=OE! (Ta e)),JK7,SH! AF e h2,
JK8,IsZip xz z TI TO At,JK9,IsZip Z z TI TO (KK! QV.objs.size),JLA,V->h8! (Kv! L2.St),JLB,_+(IS Z).AK.length,
JLC,jM! h1 Z h,JLD,(Ax (λ_ _ rr=>rr.keep kk) Z),JLE,(AA (AV Z) Op),JLG,IsTup h a At!,JLH,JiK S.dO z1,
JLI,λr=>Go (h!∉(Xq! be).take (ww)),JLJ,((other b Z).trans q),JLK,(C6 (JjY C0 T.sorted Aa!)),JLL,jv! 3 iM.nd Z,
JLM,Hb! W.methodObj f (EQ y),JLN,j8! (JkI Z) Jp0 Z,JLP,(Bm AI! tb (Y7!+(sh-1))),JLQ,(Fg A! T.range (Kr! JnP)),
JLR,MB ut JT! ZM! (JJ SZ),JLS,TT! (qs.set i (q,Z G b (Z))) Z/\JhH Z Z,JLT,Nw! JTE O6!=D! (th,a,hl),
JLU,PA X IT! ta,I4?,by show Qs? Z Z Z Z Z (iY! HH! Z Z (Bu (JjI Z Z))),JLV,s.heap.IsKeyIter it d i M7! ep,
JLW,Og (VW jJ Z (B0 1)),JLX,E8! s0.heap.get?/\JX!,JLY,vs[1]?=D! (EQ T),JLZ,DB! (WU! V),
JLb,lU! (FB (Eg Z [iI!])),JLc,Sj! r Dp (Z Ez! []),JLd,Bu (JjI (G.AL.length<=1000) z2),JLe,#[r,hr,e1,e2],
JLg,∀h',lj! h'->Zv! JoN xz->Q () Bn!,JLh,HQ X (Eu! "isinstance") (Z Kx),JLi,Kz! (Es (Av Cj Z No YL!)),
I5?,by show Ee? "things " S1! Z,I6?,by show Eh? hb Q,JLj,(Ca al N 1).length,
I7?,by have#[kvs,e]:=(x.ho q hq).LY hb,I8?,by show EB? (E5! H Z BA! []),JLl,AV (Tu (by rw[ZA,ZA];lia)),
JLm,K66F.YF (K66F.IA (K66F.NG m f c a S)),JLo,Q wS (lH! (xs++zs)),I9?,by .rw[AG e,AG (HT! e XV!)],
JLp,FX.IM (k:=JS!) Z hq,JLq,JnA Qp! (SC! KH!),JLr,F0! ta (λx H1=>ER! tb (λy H2=>R x y H2)),
JA?,by show S? ZR (KC IZ! (ZS ?_)),JLs,Zo! (Bm! (Z)) Z (l! Pd (Du (AA Z Op))),JLt,JoF (ak! H2/\HS!),
JLu,PC X op a b t,JLv,jv H' W.c b ts L Z,JLw,(UT ut k).toNat,JLx,JpB (Gg!,y),JLy,JpH Z KK! (cr+1),
JLz,(kI! x.2)-FC! Z+OA t r.2,JL0,JqE (Jg (Nu! Z)) (Qf A! (JhY Z Z (JhY Z Z (JhY Z Z Mo)))) Z,
JL1,a.fr c o e n1 n2,JB?,by show#[_,A!,DZ!,A!,HQ!,Q!,?_],JL2,CX FX! H s E e Z,JL3,JqX (h.lt Z) Z e Z,
JL4,JqZ (b=io) Bg!,JL5,WN H t k s g ts,JC?,by show#[Cy!,FE!,FE!,FE!,FE!,Z,Z,mL! Z,Z],
JL6,YU! (.Call JjU (Ml!) [] bi)=Z,JL7,∀(i j:Int) (t u:Tok) (s:Shared) (Q:KE) (E:KE),Z->JkK (f UB! (XV j u)),
JL8,sorts (λt:T2=>t) (l:=Z) Z,JD?,by have hy:y∈Iu! λq=>Ji!:=hy,JL9,∀(s:Shared) (u:Value),JoH [u] [(x,u)],
JMA,∀o v,X.SV d≠D! (.IC o v),JMB,∀{l:j!} {i:Nat} {q r:NF!},Tz!->Z,JE?,by have#[q',G',QQ,e3,_]:=eR k (Gq! hk),
JF?,by have aj:JE p W H Z:=Nf! (QN b o (PA! eb) hb),JMC,{ W with NO:=W.NO++[(LA!,io)],c:=LD!,ls:=NW! },
JG?,by have#[j,q,G,eq,T]:=at_ _ hS,JH?,by have#[#[q,G],e]:=i9! j (l! Ni! Z),JMD,w! l.lookup v fs,
JME,JJ (Ew! .w),JMF,O!=En! v,JI?,by show#[_,Ac Z (Af ie!),?_],JMG,EE! ((Z ht).imp id Z),
JMH,(qs[h]?.map λp=>Z).getD 0,JMI,GB! (AA (AA (BQ Z) lf) m5),JMJ,(NA! (DQ! Z) (Ji8 Z)),
JMK,Ef m W W' al SZ ys EF H0 dd dv,JJ?,by show CZ? { s with heap:=h1,toks:=tk } (I.kept kp),
JK?,by show Qp? (Z-JF!+(Cv t ls+QC t Z)),JML,DG! (EK!->b≠I.sd->b≠I.fd->Fx! Z),JMM,CF H6 au (R_ hl t),
JMO,ZR! AN! b 0,JMP,OL (R_ hl) n ((C5 (Cu L) L).filter ab!) [] R,JMQ,OM! (JmB r/\Z/\∃L,Z),
JMR,(A3 E6 Ag (OR! (JiP (Yx! Ag)))),JMS,Inv Z [] FN H' s',JL?,by show CZ? Bn! (I.kept (t':=Es!) kp),
JM?,by show Call_ (Qq I hg hm boot_range Z),JMT,JkA "pop" [e] (Z td ty),JMU,Be! (NC H2 (Kj!)) L Z,
JMV,k b u (hb b n) q,JN?,by have hb:Ac! (g==k):=MO.mpr h;simp only[List.lookup,hb,Z],
JMW,Ez (HX!) AI! (SB! DT!),JMX,(by induction p with | nil=>show U! | cons r _ ih=>show am (AC h r) ih),
JO?,by simp only[BR,A_] at hlen;rw[Z];show GF! Z V!,JMY,Jm6 Da! t PB!,
JP?,by show RJ? (keepR G R).holds.any #[r,hr,Z],JMZ,Wv! Z BZ! LQ! x.2.2,JMa,∀l,OQ!->Ny! l (EG! l Z),
JMb,∀u,X8!↔(F u/\u.1=Ct!),JMc,λk:Nat=>(JU!,a k,S k),JMd,∀k<n,LX! Ck Z JU!=D! (XV (Z k)),JMe,QY hl (D7! L),
JMf,by subst z;rw[r] at mu;show mu,JMg,rQ (aH (hV! be) al),JQ?,by show#[L?,EN? t _ _ ZS!],
JMh,(am (XV _) (am Z U!)),JR?,by show J?;have e':Z:=e;subst e';show Z #[H,I,q],
JS?,by show GA! Z (SH (a:=Z) (by kernel_rfl) ?_),JMi,XS! xz TI (EQ i1) (EQ i2),JMj,ZZ!=(DH! m).map JpD,
JT?,by show#[Bp!,Il!,_,_,_,_,_,_,A!,Z,(by rw[ZE,Z];lia),λt H4 ht et S4 aM=>?_],JMk,PB m A B qs al ys,
JU?,by show#[s0,eQ,F,?_,JnH,ft,hu],JMl,(AD! Z #[_,_,_,_,j3! a,Z] Z),
JMm,B4! (by by_cases hb:b=G.o;(.show RI? Z);.rw[Ad hb];show Z),
JV?,by show ZR (ZR (wpAny_onRaise (GA! (On! Builtin.SmallTypes.nextOf i1) Z))),
JMn,LE! t [Ix k,wE Z,Ix s,Op!,A2!],JMo,eG j q2 G2 e ej,JMp,Jnw (li! KB) Fo! G1 D6! Z,
JMq,(backTo IK (fp! Z SL)).all (λx=>! BZ!)&&(backToKw IK (keywordEach [] SL)).all (λx=>x.1.isSome),
JMr,f6! #[v,_,I3,RZ,q2],JMs,#[ZZZ,GC!,Sb! 0,Sb! M7!,Sb! ep],JW?,by have gd:=x.wg.wl.good (CL hn) hq,
JMt,[AP!,Hg!,Di!,F1! (oJ (VU S m).length),u4,none],JMu,(r.drop (Ia! IU! 0 lo)).take (JqD-JqC),
JMv,v! #[_,tk t,a,Z,A!,ha,Z],JMw,eD H x hs os rs,JMx,.ME s g y.n u DW! S,
JX?,by have S1:F8! (E4! H wp Dp (Bm AI! tb (Z))) (g2! (Bm AI! tb (Z))):=S.NK _,
JMy,JiC vG g.mCo.mg g.mCo.fn.kp g.mCo.bd (Yx! KB),
JMz,callWith bi f Q7! (backTo bi (fp! (Ml!) SL)) (backToKw bi (keywordEach [] SL)),JM0,(Mg! b o e n hx),
JM1,Ky! G1 hr M1.mg M1.fn.kp D6! (Kr! SF!),JZ?,by show HP! (JpK _ (Wm! (Ac! (Ds! d==Value.none)) _ _) _ _) ?_,
JM2,∀(H2:Hp) (bs:X!),Ha!->ac! (JB! Qm!)->T6! H2 g4! b->GE!,
Ja?,by show S? EO (DB slot_list_sort (Dg! g1) entry_list_sort Z (args_list_sort _)),JM3,M1 X o "pop" apos e IK,
JM4,Su! (.ME s g n Z DW! S),JM5,j2! (eval a SL) (λv ER=>lX! (eval b SL) (λu MM=>JhR (f v u) Q MM) ER),
JM6,(.ME s g y.n u DW! S),
JM7,Go ((Z:Jp!).length+([]:DB! Keyword).length+(Wm! ([]:DB! Keyword).isEmpty 0 1)<30),
JM8,#[W2,S! ew Z,by change PK!<=_;show BW a1,x.ob,x.m1,x.m5,Z,Z,Z,Z,Z,S! ew x.ma,?_,Z,Z,Z,Z,Z,Z,Z,K5!,Z,kx!,Z],
Jb?,by show k t H3 W3 #[a,b,et,O9! YQ.BV,EN! YQ.BV s2 qL] JjB,
JM9,xW G ta tb (λ_ _=>Z) (jT! QS) (jT! SF) (jT! MI),
Jc?,by show#[#[Jo! (FM f e (JE! Z)),FM f x.hs (JE! Z),ly! (TQ! ?_),lI! (λo e=>FM f e Z) (λo e=>FM f e Z),FM f D4! Z,Z,Z,AV!],Ie! (TQ! ?_)],
JNA,∀(t:Addr)(H':Hp),JpI (In! h.toNat (q,{ G with BJ:=Kx!,AK:=Z })) B9! (W.ls++j0!) t Z h Z Z JW! (PF! Sv!),
Jd?,by subst e;show C?;show Ad?;show V?;rw[Fv ZV];show i?;rw[Fv ZV];show i?;rw[N5 A!],
JNB,W.WalkO q loose XP YP l.row.toRowW d [] (λf vs=>PySem.call f vs),
Je?,by show NT! Dz K K a lw xs Z tt Z te Z AM! Z (Z) Z (Z) ?_ ?_,Jf?,by cases b<;>simp[behindInMarks,e1,e2],
JNC,BU lh!,JND,ZS (hQ _ Z is!),JNE,ks! rd,JNF,Z (B4! (e0.bs b o e).1),JNG,(λb o _ hb _ e n=>Z b o e n hb Ch),
JNI,(λ_ h=>GQ!),JNJ,(λi σ H2=>∃u2:Lg!,Z),JNK,(∀k<m,WH K H (a k) (S k)),
JNL,(λb o eb hb n1 n2 n3=>YN b o (jf b o eb hb n1 n2 n3) hb),JNM,(DG! (Z->Z->HK!->ZJ!)),JNN,Params->W.Frag,
JNO,C!->h8! VK,JNP,Builtin.Slice.slicePlaces Z Z 1,JNQ,PI!\/JnS,Jg?,(by rcases us with _|⟨a,us⟩),
JNR,((Z JnO).map be)=Z,JNS,oJ (Dx! Z h5! (Az! DW!)).length=oJ Z+1,JNT,ai!=FA!,JNU,backTo IK (fp! Z SL)=Z,
JNV,Z=N1! Ig! Z,JNW,A9! ((Z:Z!).contains m),Jh?,(by rcases Cw hb with⟨j,u,rfl,e⟩|⟨y,u,rfl,e⟩),
Ji?,by rw[show A.in1.handled=none from hh],JNX,kH! ls Z=none,JNY,(I.ok.bs b o e).2,JNZ,∃o',Nn! Me! o',
JNa,λb ps q=>#[Ep!,by rw[Z,q];simp],Jj?,by rw[A_,List.range_succ_eq_map],JNc,(En! v,SE!),JNd,λp=>AK! wP,
JNe,X.env.frame=D! fi!,Jk?,by have#[_,o,ho,_]:=I.ok.ON.mem hb,JNf,UF (Dm! I.SJ),JNg,∀s',jr!->Q (Au! Z) s',
Jl?,by have d_:i<σ.length:=Hu! I.len (BP! hi),JNh,(b1.2 b hb).trans,JNi,λAB s σ H Q I hw=>Z (jM! h Q hw),
JNk,{ D with nx:=u D },JNl,Mm! (∃o,Z/\∀v,o.data≠.cell v),JNm,show s1.heap.IsTuple a CJ! from p,
JNn,(JgR n).toNat,JNo,[Rh!,G2!],JNp,["form",G3!],JNq,[q.1.1,q.1.2],JNr,[AO! n,AO! Et!],JNs,if k then 1 else 0,
JNt,∀h',Z->JhZ it->Z,JNu,IW! (x.YY wf hy),Jm?,(by obtain rfl:ov=Ds! a:=rx),
JNv,λus s1 #[xs,H1,I1,r,z,q]=>#[AY! r.length z,?_],Jn?,by have hf:ZI! Dw!:=I1.EE.fresh (ZG _),
Jo?,by have hl:fx!:=Tt!,JNw,mK!++JnJ,Jp?,by have he:∃q,JD! Me! q:=let#[q,_,_,hq,_]:=dE;#[q,hq],
Jq?,by have#[os,gp,hcs,qK]:=id hs,JNx,λ(m:Nat)=>xs[Dh! (cr+DZ!*1)]?,
JNy,if ws.length=fs.length then Gj fs ws else none,JNz,λj=>Arg.t i j,JN0,λr s'=>r=w/\Z2! r s',JN1,Fb! (R8! hu),
Jr?,by have#[z2,RS,n2,r2,fN,e2]:=I.WM hB,
Js?,by have hsz:DM! (its.toArray.size+RS.toArray.size):=by rw[BG,BG];lia,JN2,λh=>US t qs h,
Jt?,by have g:K2! Cd! d:=(show EN X.prog X.w H s.heap d kD! from I.EE d _ hg).1,JN3,∀{ys:Z!} {us:d!},Z,
JN4,s3.toks+([]:TL!).length,Ju?,by have#[v0,r0,rfl,l0]:=Vm wl,
JN5,∀j (h:j<es.size),∃a,as[j]?=D! a/\es[j].key=A2!,Jv?,by have t1:lT!:=JnT o1,JN6,(l.set i HG!)[j]?,
JN7,λt=>y! (by rw[e]),JN8,Aw! (by simp at hq),JN9,Aw! (R8! hq),JOA,∃dx,as! [(NN!,Yv!)],
Jw?,by have m2:G.l∈CS!:=by simp[BX],JOB,[k0,k1,k2,k3,LK! Eu! Z,k5],
Jx?,by have WD:¬(Ac! (Ds! t==Value.none)):=AQ,Jy?,by have z1:JnL h₁:=bZ,Jz?,by have#[its,rv,p,_]:=Gc! q1,
J0?,by have iT:BQ! Builtin.Dict_items.ownsTuple Qz!:=o0,JOC,λq hq z=>ZC! h (JH! z),JOD,Fh! (R8! hl),
J1?,by have eA:((Lb m b S1).map λS=>Jy t S.2.2).sum=Z:=Z,JOE,Ey! (WT! i) (t∈Nm!),JOF,λt ht e=>Z t T8! e,
JOG,{ G with hand:=SO!,AK:=Bm AN! tb v },JOI,{ G with AL:=Nw! g9! Z,holds:=Nw! Xb! Z },
J2?,by have h3:=x.wl.sum t (BK! nD),JOJ,AJ! (rL ht).elim,JOK,(IA L).flatMap,
J3?,by have#[g1,g2,g3]:=x.ok.get ta,J4?,by have s1:=Jmn Z hl,JOL,∀(x:Addr)(H':Hp),db->Z->JM!,
J5?,by have s2:=Sl! (AK! b) Z ha,J6?,by have s3:=JnV cz,J7?,by have hy:Ry!:=OE! Z,JON,vs[i]'(by show hl▸hi),
JOO,{ JoE with AL:=N5! Ol! (O!≠t) },J9?,by have YC:Z:=Xp! (WF h1 (i1! vH)),JOP,{ W with c:=B9!,ls:=jX! },
KA?,by have s0:=io! LV,JOQ,L++[(JhV,t)],KB?,by have gR:UA! { G with holds:=Mz Ax! ta Z }:=Z,
JOR,λt _ h=>(Cf _ _ _).2.1 t h,KC?,by have WW:JmC:=JlI NC! s.ok.rn,JOS,∀t∈BO!,∃r0∈G.holds,r0.1=h!/\t∈r0.2.2,
KD?,by have IJ:N3! Z (R5! CI JrA):=WF Z hp,JOT,{ W with qs:=In! j HG!,c:=c,ls:=Ls },
KE?,by have#[sd,nu]:=DX! Uf,JOU,W'.qs=In! g.toNat (q,Ob!),KF?,by have#[_,a,hl,f,_,pm,_]:=t.MA.at_ r hr,
JOV,{ W with c:=c',ls:=RV!++L,GV:=Kj!,IB:=cQ },JOW,FG! Le!=ys.length,JOX,∀z∈l,0<=aM!,JOY,∀r∈y.fi,jy N' h! FA!,
JOZ,∀s ts,lY!∉al,KG?,(by rcases Ds hj with⟨ej,rfl,rfl⟩|⟨nj,hj⟩),KH?,by have l1:0+0+y.fi.length=m:=l1,
KI?,by have l2:0+0+y.se.length=m:=l2,KJ?,by have#[q,G,eq,h2]:=FM at_ _ h,JOa,∀l∈L,0<=AB!/\AB!<=W'.c,
KK?,by have j0:=EG x (Ym! (Z≠0)),JOb,λlw H4 gq s4 UX=>lV! lw UX ?_,
KL?,by have tP:kt!:=AJ! (wi.tQ hn (Nn wi.wg (R4! t ht)).2),KM?,(by obtain⟨h,eh,hm⟩:∃h:Nat,Z=AZ!/\h<m:=Z),
JOc,(Re! #[z,hz,hb]),JOd,(Jax (Uw DP KY QK Ql bv)),KN?,(by intro i j UU hj;by_cases lV:j=a),
KP?,(by show QA λj=>?_;by_cases hj:j<es.size),KQ?,by .show AT (it! h),JOf,(AG (λq=>nomatch q)),
JOg,ds.push (c-48),JOh,small (Jix HG),JOi,acc.toList[j]?=D! (acc[j]),
KR?,by cases (show Z from rx);show Oi! Z Wq!,KS?,by have#[l,_,rfl]:=Ja!;show j3! l,
KT?,by have:=BP.mp e r0 XG;simp[e0] at this,JOk,by simp at e;show DF! e.1 (Z),JOl,by show d? Z;show ht,
JOm,by have#[t,e]:=As! Z Z Z v v h;show Z,JOn,#[hd2,Cw! Z],KU?,by (have aZ:DQ H7 Z:=JZ! Z),
KV?,(by (have uA:lw≠lr:=λz=>by rw[z,Z] at gq;cases Z)),KW?,by show Sq (id! (id! Z)),
JOq,#[λj q2 G2 e ej=>Z,Z,λj q2 G2 e ej w9 hw=>Z],JOr,cM _ (b2 p hp).1,KX?,by show h.closed λs hs u hu=>?_,
JOs,seqIndex_neg ((Int.not_le.mp h0)) Z,JOt,sorts (HX!) Z,JOu,wv (aH ns al).map,JOv,Z Z _ (l! e2 nd),
JOw,Ay! BZ sB,JOx,(((Heap.SameBut.update ..).extBut.push _).push _),JOy,#[Z,Z,am Z (am Z U!),#[_,Z,A!,_,A!]],
JO0,s.heap.IsTuple t items,JO1,Z t (l! Z (F7! Ch)),JO2,(W.plainGet_of hg).1,JO3,[(YI!,3)],JO4,[(Oq!,t2)],
JO5,Fz Z (Z Hk!),JO6,(Fq! Z/\Jq8 Z),JO7,l! l (rel.val k),JO8,l! b1 qB,JO9,l! Pa pm,JPA,v! #[A!,A!,A!,Z],
JPB,Np! bootBuiltins x Z Z,JPC,AY! ht e,JPD,AY! Z (an! F.len h),JPE,(Ai! (FY! CK!)),
JPF,(Ai! ((([Bb!,t.2]:i!).take i).map jV!)),JPH,BK! #[xs,A!],JPJ,A3! Si! Si! Z,
JPK,#[_,uh,λj y v' e1 e2 e3=>?_],JPL,#[_,dd.mapOf,FM h iv! ?_],JPM,(Z (b,o) (Bu! (Bu! (Jk hb e)))).2.1,
JPN,(Ac (JrI Z Z tt Z Z Z Z Z (C6 (pv 4)) ZD! jL! ZG! Z Z) Z),JPO,((by intro z;cases z)),
KY?,by rw[N5 (show Cg []=G0! from rfl)],KZ?,by show#[L?,Cl? _ _ A! (SS! 2)],Ka?,by change FC! Z<=kI! x.2,
JPP,(h2 b Ch),JPQ,by rw[Z,ZA,ZE];rfl,JPR,(Av kC (YN! Be Bi T.len CJ No) Z YL!),JPS,(Av Z CV! Kl YL!),
JPT,CA! (fZ! XQ! == fZ! Z),JPU,w! l.lookup y k,JPV,JD! gF! mH!,JPW,JD! Z (lP! e1),
Kb?,by rw[Ad (Ri ec e (JhI))],JPb,Wg D m Z sh qs ls,JPc,(Z b (BU (AU e))).trans (ZT _ e),
JPd,(Mj! (FV! y py) SL),Kc?,by show(hs.2 b (BU Z)).trans (fk! b o e n hb hx),JPe,LW λi FN H'=>Z/\Z/\(Ji2)/\Z,
JPg,(A3 Jom Ag Ag),JPh,DG! (b≠S->Fx! Md!->Fx! Z),JPi,EN! kr.BV bA.BV Z,JPj,BI! r.2.AL=0,JPk,YR! Cj Z Ay Z,
JPl,h6! hi (λv s1 h1=>FV h1 λuL s2 h2=>?_),JPm,CB! #[o,u,A!],JPn,De! (a6! (Z Z Z bi)),
JPo,De! (compareOp .Lt Z Z),Kd?,by rw[AD (λz=>JmG z.2)],JPq,(by rw[hj];simpa using ew),JPr,HO! ZA Z (Jg7 Z),
JPt,YZ! H2 (ys++[LM!]),JPu,#[_,ET _ Z (KD (FF Z _)),(Obj.cls_mapFields ..).trans Z,Z],JPv,N1! (n'=n/\u'=u) Z,
JPw,by unfold D6;rw[E_,Z],JPx,Cn! a Ai! xs,JPy,Yb! JpX CU!,JPz,IR H1 Z (.dK (Fg! (Z))),JP0,Cw! (AH (Z) Op),
JP2,JK! t (ii (tv HH!)),JP3,Cn! b Ai! zs,JP4,Q (AG! GM) H',JP5,λi=>OU! i [],
Ke?,by have#[t,q]:=(show Z from ry);subst q;rfl,JP7,iD! (1<1000),JP8,SH! nd.1 z Z,JP9,HY! Q! Q!,
JQA,#[_,hv,A!,_,A!,S! Z (Z k)],JQB,Be! (PF Z) xs as,JQD,AA I.ok.aQ I.sz,Kf?,by show#[BD! #[y,h1,e],?_],
Kg?,by show#[v! #[r,(Dt! hr).1,h],?_],JQE,BD! #[t.2.toNat,Z,?_],JQF,GF! cY S.dl,JQG,OK FU! X.w H Z,
JQH,YN! Br (Z A!) Z PyProof.Rows.boot_list Z,JQI,W.keepIn K Sx!=true,JQJ,Dx! Z Nz! (XV t),
Ki?,[AG?,p,dx,_,A!,hp,LI!,_,A!,AZ!,A!,Cy RC,_,_,A!,A!,(by show RA? 7;lia),?_],JQK,V_ λh o l r=>G=Jhg cr r,
JQL,SP! { W with c:=Z,ls:=NW!,IB:=Ou! },Kk?,by show AU (show JR! _ from x),
Kl?,by show ZR (GA! (Builtin.Tuple.tupleExact _) Z),Km?,by rw[Ad λz=>Z _ (Bz! z q)];show q,JQM,AT (DQ! Ab),
JQN,#[λv H'=>rH v H' Q,#[Af? CD,dx,_,_,A!,hp,R1!,g.TK.nW,Dm,pw,RK,_,A!,RI,Fo W _ ZV,_,A!,r,_,0,_,A!,A!,iH!,A!,k],?_],
JQO,Be! (NC H GV) Z al,JQP,min v GD!,JQQ,∃o,K2! Cd! d/\DY! (EG! d Z) s,JQR,GJ! ej e1,JQS,LE! e [Ix DW!,SB xs],
Kn?,by rw[AG (show ¬Z by rcases uY with rfl|⟨z,rfl⟩<;>show JiA)],JQT,(am A! r),JQU,F8! (E4! H Aj! Fx Z) Z,
JQV,Be! (NC H W.GV) L c,JQW,(λt=>Hs!\/Jr!),JQX,OO! FT! (·.n),JQY,OO! ys.flatMap Dg,JQZ,ia! (hm b _ q Wa!) q,
JQa,Aj (o:=Ai! (qC.map L2.V.str)) Z,JQb,(A3 Bb Ay (A9 Bg KB Z)),JQc,(Z++wv (Ca Z n u2).map++T).Perm (rg m),
JQd,ih! Z (X.xe e s'),JQe,L2.Mk K CD Q1,JQf,L2.Mk K CI R6,
Ko?,by show Ag? (E5 FC TL TH xj Ay (Kr! (kS! Of Z (Br (EU.or Ga) Ks! T.str CU TM!)))),JQg,JhS Z (aq (XV (Z))),
JQi,W_ Z Z d 0 M7! ep,JQk,(Eb! NN!:EX!).lookup,JQl,∀C s1 H1 fp AB,Z (QR X sc cl C ig! s1 H1 fp AB) Z Z,
JQm,ZC! (IY! Z).1 #[z,hz,Z],Kp?,by (have h1:j<acc.size:=S! ha.1 hj),
Kq?,by show PQ PySem.F.entry_extend_loop ?_,JQn,St! y hy,JQo,ip! Z (rIn Kx Z),JQp,w! Me! T oT,
JQq,Sw! Z r2 WG.map,JQr,Sw! Z aa UZ.map,Kr?,by (.rename_i h;show HV! JqM h JpL),JQs,Jhd (λxs H1=>Z  xs H1 Q),
JQt,De! (K4! Builtin.SmallTypes.nextOf it),JQu,by have:=JkI hd;show H? Z;show this,JQv,PI X tg iter wi,
JQw,iY! tb S1.dO b1 Z,JQx,S8! kA! kA!,JQy,Jtv X sc cl p,JQz,B8! CW RX! "World.house" Ee HI! Yy Zn,
Ks?,by show Rv (Mi! (FN=Z/\Z)) (λnx RD=>Hn! ES!) ?_,Kt?,by show HV! hb.symm.trans e Z,JQ0,ZO! e oe,
JQ1,ZO! T oT,JQ2,w! Cd! e oe,Ku?,by .have#[bs,_,sm,IU,_]:=pv;show#[Z,IU],
Kv?,by .have#[more,q]:=I.base.QU b ps e;show#[DO!,Z],JQ5,Dc! (xs[j]?) k p,JQ6,EN! s5 s4 e,
JQ7,Ya! (Ix m) (Ix sh),JQ8,Df AI! (SB! Z) t,JQ9,SH! Et e OJ.1,
JRA,(E5 DG PySem.F.slot_list_extend PySem.F.type_list_extend Z Z (Kr! Z)),JRB,ib! D9! (Dx! I7! Nz! (Az! t)),
JRC,ib! E2! (Dx! I8! Nz! (Az! t)),JRD,(W.clsIn K C).isSome=true,
Kw?,by show#[AG?,EO? CI dx hp q! Z Z Z (Zo! k0! Z (F4 (jw! Z)))],JRE,∀u,T0! SZ=SJ! u,JRF,∀u,T1! SZ=Ca al n u,
JRG,∀{l:DB! (Z)},aW!->Z,JRH,Q v (E4! H2 a Z ke!),JRI,Be! R cs ds,JRJ,Jgp Z Kq! Z (Ac (Bh Z (Af Z) Az) Z),
JRK,YN! Be Hb g.T.sorted DX Z,JRL,Nv W W' (RV!) L,JRM,Lk! (ER! tb (λy H2=>r x y H2 Z)),JRN,Jhv wt 0,
JRO,TS! l.lookup l.lookup,
JRP,TS! ([(a,NameKind.local),(b,NameKind.local),(c,k)]:iS!).lookup ([(a,NameKind.local),(b,NameKind.local),(c,k)]:iS!).lookup,
JRQ,Lo! "NoRow" NR,JRR,(.ListComp elt [#[target,iter,ifs,0]] scope bi),
JRS,B8! C "is_near" "House.is_near" Kg JC! Zf Z4,JRT,(if n'=n/\u=u2 then some Z else none).toList,
JRU,HC K fy! JWx m7 Z Z,JRV,HC K fy! JWz Ud Z Z,JRW,HC K fy! JXj Ue Z Z,JRX,Om [Cm!,F2!,Op!,Cs!] H Q E,
JRY,Bu! (RW! #[HD!,mq,Z]),JRZ,f9 G b (a5!),JRa,M0 G b (l6!),JRb,Ah (D0! λq=>P9 O!) t,JRc,W_ xz it d i M7! ep,
JRd,Z it d v6 M7! ep,JRe,B8! C "need_in_hand" "House.need_in_hand" Hg JC! Y7 Zw,
JRf,YN! Br EU g.TR.str CU (A3 Dc JiU KB),JRg,B8! CP "put" "Post.put" Nc Yq! Zc Z1,
JRh,IK!/\G_ λ(its:List Value)(n:Nat)=>Z,Kx?,by rw[AD (Sc),AF (by rfl)],
JRi,∀i σ H,i<=kvs.length->Yp!->OI! (Zn! Z z!),JRj,Aw! (h q (BL! hq)),JRk,(XD! #[λm=>Z m A!,Z]),
Ky?,by show Br?;show i3! Z Z Z,JRl,w! Z l (Ai! (Z AU!)),JRn,#[(x.sd Z q G e).1.up,(x.sd Z q G e).2],
Kz?,by rw[ZA,CO];simp only[A_,BR];lia,JRo,Dx! (Z Z) (tk HH!) (Z Z)=(Z).map Z,JRp,#[_,_,Qw? ZB! (Z a _) kG! fp],
JRq,jw! (AA z0 zn),JRr,j2! Z (λ_ s'=>G_ (Mi! (Ze!/\Q FN H'))),K0?,by rw[AF e,AF (h1.symm.trans e)],
JRs,GF H Aj! ZQ! (re (DN! a)),JRt,AT (AT #[k,Db! e1]),
K1?,by show CZ? Bn! (I.turned (t':=Es!) (Se! ((sb.2 b hb).trans e)) f0 f1 f3 f4 f5),
K2?,by show CZ? Bn! (I.turned (t':=Es!) (λb ob hb e=>(sb.2 b hb).trans e) f0 f1 f3 f4 f5),JRu,T2! WG.map NS,
JRv,(ZA! CX scope FH),JRw,W.mroIn K C TA!=D! GM,JRx,∀h',h'.DictOfH knd d Z->JhZ d->Q () Bn!,
JRy,Oi (t:=t) x.wl.ok,JRz,(WV! (Bp FU! X.w)),JR0,Oh (Jb) [] E0 (Cm (B0 0) (Cm (B0 1) F3)),
JR1,jE!->Fz! (Bm AI! tb v).map,JR2,TT! (JiN Z) Z/\Yb! (JiN Z) Z,JR3,BX! (u=1) 4 2,JR4,(Rm! PH!).filter,
JR5,B4! (jG! hl (s2 b o e)),JR6,∀b ob,Zj! Z->Z->Zj! Z,K3?,(by unfold Bm;by_cases h:Ea!),
K4?,by subst e;show I2.UB (ZG _) fresh,JR7,(Classical.choose_spec (mG k)),JR8,aP! bn Z h.2.1,
JR9,#[λi _=>Z,λi H x H'=>H'=H/\Z,λi _=>Z],JSA,Z b=Cd! b,JSB,FM bQ.extBut Z (bR.extBut _ _ Z Z),
JSC,FM nU.extBut Z (nV.extBut _ _ Z Z),JSD,(List.mem_erase_of_ne (Z)).mpr (h Z Z),JSE,IR Z r2 (JB! WG.map),
JSF,HN 4 Z Z jp! ml,K5?,by show y! (A5! put (AD d)),JSG,Jgw C Ms! (re (Eu! "object.__class__")),
K6?,by show#[_,A!,AL!,Hh!],JSH,{ G with holds:=Kb Ax! WP l },JSI,JjZ (Z h l1 l2).push (#[ZZZ,Z,Z]),
JSJ,R (.ok (.ret (Au! Z))) Z,JSK,(Ff (Ux hu Z Aa!)),JSL,Jji iN (Di n f c),JSM,PZ X (compareOp .Eq) (Z Kx),
JSN,FB (Eg Id! [.n AX!]),JSO,(hs.2 b (low e)).trans e1,
K7?,by .have e:i=xs.length:=il! hi JK;subst e;show E? #[#[xs,q,Bv!],F0! hd p],JSP,OK P w H' IP!,
JSQ,(Z h ta tb G ha hb c2),JSR,B8! C "need_near" "House.need_near" Kf JC! Y6 Zv,JSS,(NG n f c a S),
JST,JkN aM (AC s3 (jq! s2 IT)),JSU,JkO Z (Z it a i),K8?,by cases y<;>show HM! (show Q1! from hs) AQ,
JSV,IH.mpr (Aw! (SQ! (Z q hq))),JSW,(Bp DC! w).is (Z Z) Z=true,JSX,AW CW CH CP H' p Z/\JW!,JSY,BX! Da! PP 0,
K9?,by have e1:CA! (op==CmpOp.In):=by cases op<;>first|rfl|show I? A! h,JSZ,[AO! KT!,AO! G.BB],
JSa,[SB l1,SB l2],JSb,([r].filter (JlM OT!)),JSc,(h1 a Ch),JSd,(AD! [(z,t)] Es! Z),
LA?,by .show#[o.slots,(CC _ _ (λz=>Z)).trans q],JSe,DB! (DB! GE),JSf,#[FB! (WF kh Z),Ab,Z,?_],JSg,wv Z=BC! Bm!,
JSh,(Dx! z! k y),JSi,(Dx! z! O! PP),JSj,k7! (XL! Eo! (BW! Ds!).toArray n),JSk,(IR H3 sl (JB! jo.map)),
LB?,by show Qp? (E7!-ZR! AI! NE (Z)+Cv t Z),JSl,c.ho j q G eq,LC?,by show ZR (SN! (DK e2 f2 ?_)),
LD?,by show ZR (SN! (DK g1 g3 ?_)),JSm,jM! ha Q h,JSn,w! Hc lr (Ai! (UR Z)),
JSo,iJ! Cj No Ay (A7 (l8! Z) GZ A! Z Z Z U! Bk (Kr! Z)),JSp,lz! s3 WB,
JSq,by change W.GV.length<=d+1;show CB a2,JSr,Jt (a:=.t Bb! t.2) Z,JSs,HQ X (DE! IQ!) (Z Kx),
JSt,{ W with c:=B9!,ls:=RV!++[(B9!,t1)],GV:=SR! },LE?,by show#[Dw!,yx!,Qw? ZB! (Z a _) kG! Hh!],
JSu,w! Wk! Z #[Z,Rs,Z,Ep!],JSv,Ez (JS!) Ax! (SB! Z),JSw,mC! ZU! Si,
JSx,PI X (.Tuple [FV! x px,FV! y0 jK] kt pt) iter wi,JSy,#[Ba!,th.1,xx,th,D2!],
LF?,by have r1:(EB! "hand "++S1!)=Eg BE! [iI!]:=Qd (a:=iI!) A!,
LG?,by have r1:(EB! "things "++S1!)=Eg Fe! [iI!]:=Qd (a:=iI!) A!,JSz,(show s.heap.IsTuple a CJ! from p),
JS0,SJ! u=[]/\jy! u,JS1,∃u,us=[u]/\Jh!,JS2,λ_ _ _ H _ I h=>Z #[Z,H,I.tok _,BR!,h],
LH?,by have e2:CA! (op==CmpOp.NotIn):=by cases op<;>first|rfl|show I? A! h2,JS3,(h1.extBut gj! D.i1z),
JS4,(cq.extBut gj! D.l1z),JS5,Af (Au (i:=2) bU.nd A! (XB! A!) Z),JS6,xs[j]?=D! x->ds[j]?=D! d->Z,
JS7,xs[j]?=D! x->ys[j]?=D! y->R x y,JS8,(by first|rfl|(simp only[firstArgMember];rfl)),
JS9,#[Z,?_,ae! (λc o e=>?_) Ab],JTA,max (v+GD!) 0,LI?,by have#[t,e]:=(show Z from r);subst e;show Z P w Z t,
JTB,l! BG (AA K3! (hl▸hz)),JTC,Cn! wp Dp AI!,JTD,Cn! BG! Dp AN!,
JTF,by unfold Fw;rw[AD (by show IP (BQ h.symm)),AF (by show Z),Z,Z];lia,JTG,(CC _ _ (JE! hb)).trans (ZT _ Z),
JTH,ks t ht (Gw! t Z e),JTI,XI G NE l.x,JTJ,M0 G tb (iV!-iV! / 2),JTK,K0! hI! Gi [CP!] Z Z,
JTL,K0! hJ! Ia [CP!] Z Z,JTM,ST! (E4! Z Z .dK []) Z [],LJ?,by rw[AG (show ¬(Z<Z) by show IY.mpr (Z Z))],
JTN,Jmu Z "tuple_iterator" (SB l1),JTO,Jm3 (JmV (isTrue e SL Z)),JTP,Rd H d (BA! z!),JTQ,Rd H o (BA! DO!),
JTR,JnE cr Z (Z i UL),LK?,by show HV! BD! #[b,hb,ZY! e ha] Z,LL?,by show HV! BD! #[a,ha,A5! e hb] Z,
LM?,by show ZR (SN! (GY e2 f2 ?_)),LN?,by show ZR (SN! (GY g1 g3 ?_)),
LO?,by show#[_,A!,WP,_,Z,AK! Z,A!,A!,Z,A!,Z,A!,#[_,Z],?_],JTS,PE X (FV! x bi) (B0 i),
JTT,PE X (FV! x bi) (tC v),JTU,JnZ [b] b,LQ?,by rw[AG (Ge! (¬L2.V.ref lr=L2.V.FJ) JiA)],JTV,JoB (tL r t),
LR?,by show Qu? H4 mQ! l7,JTW,Z [Cm!,wE v,SB r] H1 Q E,JTX,∀t,QC t Z=if Kg! then sh else 0,
LS?,by (.have#[o',e1]:=JjG hx;show#[o',(hs.2 b (BU Z)).trans e1]),
LT?,by (.show RF?;show#[sl,(hs.2 b (BU Z)).trans e1]),JTY,by show Ax (jl!) Z;rw[Ad (Ow! Z)];show e,
LU?,(by show#[o,e,λv z=>by rw[d] at z;cases z]),LV?,(by show#[oi,e,λv z=>by rw[q] at z;cases z]),
LW?,by change A1! Iu! (λq=>Z)+_<=_,JTg,JoS (iz! (iz! T3! Ay Z) Ay O7!),
LX?,by show NM m.base m.je m.line DP MF PySem.F.type_dict_pop JjJ,
LY?,by show NM m.base m.je m.line DP FO TJ JjJ,
JTh,∀(j2:Nat) q2 G2,aw! ((W.qs.set j (q,G'))[j2]?)->JoC (h_ ZM! SZ j2 t),
LZ?,by have YO:∀b∈BX Z,b∈CS!\/Bg!:=UF (ad! (Jbj (G:=G) ta Z) hb),JTi,Found (K66F.IA (K66F.NG m f c a S)) ts,
JTj,NJ Z as (CM! be),JTk,Mx Z as (CM! kL!),JTm,by rw[DR,ha.1];show IV! Am!,JTn,Ma! R (as++cs) (bs++ds),
JTo,HN 3 f1 d1 HI! (E1),La?,[_,A!,p,CI,dx,_,_,A!,Z,q!,Z,Z,Z],JTp,C2 N' N W' SZ,JTq,(.Slice lo hi Rs p2),
Lb?,by show ZR (DC ho hd (x:=SE!) A! ?_),Lc?,by show ZR (DC ho hd (x:=XV i 0) A! (ZR (KU uf ux ?_))),
JTr,B8! CW "state" "World.state" Mf HI! f1 d1,JTs,B8! CW "state" "World.state" Mf HI! K1 Lm,JTt,JqT V4 Xf,
JTu,iM! "give_back" "House.give_back" kF Zk Z9,JTv,iM! "give_back" "House.give_back" kF fG dG,
JTw,ii! "need_holding" "House.need_holding" Mi f4 vK,JTx,ii! "need_holding" "House.need_holding" Mi Y8 Zx,
JTy,ij! "add_to_record" "House.add_to_record" kD f5 vJ,JTz,ij! "add_to_record" "House.add_to_record" kD Zl cU,
JT0,B8! C "lose" "House.lose" kG OJ! Zg Z5,JT1,B8! C "lose" "House.lose" kG OJ! fL dL,
JT2,(IR H9 p (LH! aP (B9 { lb! with BJ:=(keepR G R).BJ+1 }))),
JT3,(IR H9 p (LH! aP (B9 { Ap G ts with BJ:=(Ap G ts).BJ+1 }))),
JT4,B8! CW "give_back" "World.give_back" Qb ZU! f2 d2,JT5,B8! CW "give_back" "World.give_back" Qb ZU! K8 Lv,
JT6,Jq5 Lh Mb,JT7,C5 OT! Y2!,JT8,Ok.sz s.ok hn,JT9,W1! Bw! KO!,JUA,(Kb l a h).map,
JUB,Z Z (by simp only[BG];lia) #[H,I.tok _,S! (Vo r) q],JUC,∃its:d!,av!/\Z/\IK!,
Le?,by have fin:Z2! w s:=#[z,H,I,RZ,q],JUD,λi j=>RN! (TU.getD i []) (TU.getD j []),JUE,Mq! (JjZ h'.push CJ!),
Lg?,by have#[w',hw,RZ]:=As! qi v v o (Wu! vs k) Z,JUF,∀i,Z->Jqp (Gp! i 0) k,JUG,Z (q::qs) k=D! PP,
Lh?,by intro ht;show sw _ (Mf! #[PU.mpr (Z Z),by rw[Rw!];simpa using ht]),JUH,WU! (DB! Arg),JUI,#[o0,o0,o0],
JUJ,(IR H2 wp (Dp (Ol! Tp!))),Li?,by show BD! #[q,Mf! #[hq,?_],e],JUL,AA! (fm Z)=AA! Cg!,JUM,DY! (S0! d JpU) Z,
Lj?,by rw[hb,Ab];rw[hb,S.ob] at e;show e,JUO,Cn! Aj! Fx Ax!,
JUP,by have e:=FW! (λz=>z.cps.toList) e;simp only[join_one,Eb] at e;show HM! Z Z,JUQ,(.ins CP mE []),
JUR,(Af (JrC (A3 sN Z Ag) Ec)),JUS,Z Go!=FS Go!,JUT,h4! ty (λy H1=>ER! td (λx H2=>Z  x y H2 Q)),
JUU,IR H5 d JhL,JUV,List.Pairwise.map _ (λa b h z=>h (Z)) Z,Lk?,by show Pw I (l! e Wq!) Z Z Z,
JUW,((D0! b).map f).sum,JUX,FV (Ns! Z s2 H2 I2 q2) Z,JUY,ON! NJ as TU,JUZ,Jfu M3.fn T M1,JUa,W1! (EQ d) KO!,
JUb,(en::fi::iq::pd::po::Z5! Oj!).Perm (Z),
Ll?,by rw[EZ!] at e;show(DI! b u e).QE (Z) (λc q=>S! (Ad (ne q)) q) λc xs q=>S! (Ad (ne q)) q,
JUc,by rw[Ih _ Z];unfold kvsOf;rw[ZF];rfl,JUd,#[j,hj,bj,A!],JUe,ip! Z (Q0! (y=wS/\Z)),
JUf,x.2.AK.length+F5 l+r.2.AK.length,JUg,(IR H1 B5! (.dK (Fg! (lw!)))),JUh,JW!->Z->hU!->je!->JM!,
JUi,H_ K H Bw! (.tuple ds),JUj,x.rc _ q G hi t hd Z,JUk,Inv Z [] (start N vs) H s1,JUl,f b o e ?_ ?_,
JUm,aS! I.ok.glob I.mod.glob.keeps I.bk,JUn,λ_=>#[RK? Z (Ai s8 s9)],JUo,FM T_ e (Ow! S6.dr),
JUp,A3! [DU!,G1!,Z,Z,Z,Z] EL! Z,Lm?,by show ZR (KU Z A! (ZR (wpAny_updateSeq_pair Z Z))),
JUq,ln! (Ff (Fh hu No Aa!)) Z,JUr,∀w' s',jr!->RelV (o.getD Z) w'->Q w' s',JUs,(Av Qg xL (D0 Z) A!),
Ln?,by have:=EG (c0 / 4) (Ym! (DZ!≠0)),Lo?,by show Cm? Z Z (Z NR! T);show Ef?;show mN! Z,
Lp?,by show#[Z,_,A!,Z,A!,_,_,A!,_,_,A!,_,_,A!,A!,?_],Lq?,by show q?;show Bm?;(.show r? h (S! k Z));.show N?,
JUt,(DA (ZS (Bj! (ZS h))) Y_),
Lr?,by (have:B8 hl t=[]:=by unfold B8;rw[XO! (Aw! (by have:O!≠t:=iy! c (JH! z);show AP?))];rfl),
Ls?,[_,Ei? Z Z,Eg? q! Z Z Z Z (tk t) a Z Z Z],JUu,by have:=Jn Z hb;show H? WZ;show this,
JUv,by show Aj? (x=q);subst h;change Z=Z;lia,JUw,A0! (.Compare a [op] [b] bi) Z,
JUx,fr b o eb Z (λq=>Z (HF.mpr JmN)) Z Z,JUy,JoX FX! [] IP!,JUz,Z Z Al! B6! g.TP Z Z (Z g) g.mPP,
JU0,JpG [hashInt (oJ Z),hashInt (oJ Z)],Lt?,by unfold Mz;rw[AZ];show Bp?;change Z=Z;show AI?,
JU1,OR H' W.c Z n Z L NG!,Lu?,by show RM? wp (Ah AI! tb) (Ph S.dO hb fo),
JU2,I.dm (its':=its++RS) hH e Ch (Wt! r2) ?_,Lv?,by rw[Lj (k:=gw!) (f:=Tf!)],JU3,aH (hV! be) al,
JU4,Np! XH! v BW! dN,JU6,(Sn Z Z Z Ks! Z Z U! A8 (Jhi KB)),
Lx?,by ·(have lZ:b'≠x:=λz=>by rw[z] at e' KR;rw[IT x o' e' KR] at hx;cases hx);rw[Ad lZ];show Z,
JU7,Be! (UD H) bs os,JU9,Z Z Al! g.mNe g.mQH g.mQN g.mQG,JVA,WO H1 lr ts us i Hc,
JVB,Jjj sK (BA! []) Z Bh! (Jgq xz I.big),Ly?,by show ZR (JLa ?_ (by rw[ZA,CQ];lia)),JVC,fb IP! (λb=>Z) ex cls,
JVD,by have#[k,hk]:=KW! hz;show(As! DX! q Ah! G z.2 hk).1.m0,Lz?,by have:h=j:=NZ! (go! t1.symm Z),
JVE,λm=>by have#[o,e',_,h]:=x.some_at m;show j?;cases e';show P! h A!,JVF,B8! C "is_spent" JXG Ub JC! Y1 Zq,
JVG,K0! Xh! Mh [Fl!] fP fdP,JVH,K0! Xl! Ic [G3!] f1 d1,JVI,iM! Fd! "House.make" m9 bF bJ,
JVJ,iM! Ic! JW7 Ui Wv X8,JVK,iM! "tick" "House.tick" mh Y0 Zp,JVL,SX! JXZ JXa Kd Kz Lk,
JVM,SX! "pass_came" JXc Ua K3 Lo,JVN,SX! "ask_came" JXv Hy Lg Ma,JVO,SX! JXw JXx E2 Lf L9,
JVP,SX! "let_came" JX2 Hx K5 Lq,JVQ,Full I n f c a,JVR,ii! Ba! "House.hold" m6 Wo Xy,
JVS,ii! Gk! "House.drop" my Wq X0,JVT,ii! Gl! "House.take" mf V3 Xe,JVU,ij! "came" "House.came" mn Ww X9,
JVV,ij! "added" JW1 Uk W0 Yd,JVW,ij! "given" JW2 Ug Zj Z8,JVX,B8! C Fm! "House.let" m8 OJ! Wj Xu,
JVY,B8! C Gm! "House.free" mz OP! Wp Xz,JVZ,B8! C JXH JXI Uc OP! Zb Z0,JVa,B8! CI "still" JXo O0 A4! Wn Xw,
JVb,B8! CI "result" JXp Kj A4! Wm Xv,JVc,YY! Aa! TP.cl M3.mt G3 GZ M3.bd Z,JVd,kH! W.NO (BK! n)=D! (EQ io),
JVe,Dk H' p pw m Z Z A' B' W' D' Z EF,
JVf,∀(x:Addr)(as:X!)(H':Hp),(JjV (b∉CS!) (b≠x))->Br! H' FF!->KS H' as Z->PE! (KQ (IS Z))->lZ!->JM!,
JVg,B8! C "part" "House.part" mZ Tu! V9 Xk,JVh,B8! C "passed" JW4 Oy T9! Y9 Zy,
JVi,B8! CW "letters" JXY Hw A4! K4 Lp,JVj,B8! CW "let_all" JX5 Ke kP! K6 Lr,
JVk,B8! CP "letters" JXO Ig A4! Zd Z2,JVl,B8! CP "taken" "Post.taken" Oz OY! Za Zz,
JVm,B8! CI "first" JXk O1 UC! Zi Z7,JVn,B8! CI "second" JXm Ki Ty! Zh Z6,JVo,B8! CD hL! JYG Uh jp! Wr X5,
JVp,TP! Xi! Ie NO! wn fR dR,JVq,wu wi AM! tt te σ H Z,
L0?,by show#[x,_,_,A!,A!,l7,Du (by change 0<=20000;decide),?_],
L1?,by (·(have e1:W.c+BM! ww=JhV:=Q!);rw[e1,<-AY];show W4.keep (JlK (T5! jI))),
JVr,#[x.hn,Z,x.on,Z,x.ke,x.rn,Z,Z,x.new,x.hk,x.lk,Gw!],
L2?,by show#[L?,p,C,dx,_,_,A!,hp,q!,Be? DV! (D3 _) A! wp _ A! g1 _ A! _ _ Z],JVs,IX.mpr #[_,PL.mpr Z,hr],
JVt,Z λv hv=>(IY! nd).1 (NX hv).1,JVu,(Cp Z N u).length,JVv,Bp FU! X.w,JVw,StrsAre us ys,JVx,AW.off W1 (Nf! Z),
JVy,Kp.trans (Kp.trans (JjA Z) Z) Z,JVz,kv! /\ (l.x=Fr!->Z) /\ (l.x≠Fr!->Z),JV1,n∈ns/\(u=1\/u=2),
JV3,lB! arrOf Z=(q.map λi=>vs.getD i At).toArray,L3?,by change E7!=BI! (Bm AN! tb _)\/_,
L4?,by ·(have e:Z:=by simpa using hb);subst e;show#[Z,Z,Z,Z],JV4,∀b o u,Bq! b ZW!->Nn! H' ZW!,
JV5,(pO xz l1).objs.size,JV6,(((RG! a (RH! λ_=>(Ep!:BT!))).push (XL! IQ! Mz! 0)).push (XL! Eo! Ep! 0)).get?,
L5?,by have e':b=a:=hA b (JmT),JV7,∀x,(Br! Z .cell\/Br! Z Eq!)->∃c,Z,JV8,∀(l:Ad!),(JlL)->Z=l,
JV9,λz=>h _ (RW! (JH! Z)) Z,JWA,(ef.n6 (Z:=0) Z).elim,JWB,λi h h' st k=>st.at λo e=>k it Ch o e,
JWC,λo e=>Lf! uH e Z,JWD,BM! JmP-BM! 0,
JWE,{ s with heap:=IS! (h3! WW! Mc! (#[ZZZ,TB! lo,XV hi u,XV 1 v])),toks:=tk },JWF,[AA! "drop ",AA! "take "],
JWG,[("h",1),(DU!,0)],L6?,by have XW:∀{H':Hp},(Ji2)->Z:=λhn b hb=>Z,JWH,oJ at_<BM! (A1! UR ts),
JWI,∀h',Z->f_ h' sK Z Z->(JnN)->Z,JWJ,(λy=>by rw[y,ef] at z;cases z),JWK,if Z then Z else(B3!,Os,t),
JWL,v*48271+k*7919,JWM,λAB s σ H Q I h =>wpAny_Dict_empty #[LO!,_,Z,A!,h _ (Qu! (ZG _))],
JWN,((AD h1).trans (Z hf)).symm,L7?,(by cases Z with | none=>rfl | some v=>show Jko v n Z),
JWO,∀{xs:C!} {us:d!},Hp!->JoM->Z,L8?,by have hsz:3<ts.size:=aR! t6,
JWP,∀(FH:Value) (A:Around) (outer:Cz!) (s:Shared) (H:Hp) (vs:C!) (Q:VK) (E:XK),l1! (envOfC qual (Ak st) sK f FH)->ZE! sp -> Jqu Z,
JWQ,(ZA! Z (Ak st) FH).fB,L9?,by have#[z,lo,vs,rel,dd]:=rK DI! hd,JWR,M5! (hd c (BL! hc)),JWS,λr=>Go (k r=k q),
MA?,by have lG:iN! Yj!:=lookup_relabel_local hx,MB?,by simp only[SV! (¬(cr<0)),GA,CS,Z hi],
MC?,by simp only[show ¬(cr<0) from(IY.mpr (AR _)),GA,CS,Z],JWT,λi h h' #[oi,e,r] k=>#[oi,k it Ch oi e,r],
JWU,∀(f a:Nat)(G:Z),1<=a->a+f<=n->Z,JWV,∀i,Z->i<k->Jja k (Gp! i 0),JWW,∀as:Z,DD! (BW! Z) (Z Ds!),
MD?,by have#[z,lo,es,ep,as,raw,hz,ks,at_]:=rX I hd,ME?,by have m0:G.h∈CS!:=by simp[BX],
MF?,by have m1:G.o∈CS!:=by simp[BX],MG?,by have m3:G.r∈CS!:=by simp[BX],MH?,by have#[eX,q2]:=a.slot b _ q hm,
MI?,by have#[o,e1,_]:=(I1.stack.mem (l! aT hb)).2,
JWX,Value.builtin gn! == Value.builtin "object.__getattribute__",
MJ?,by have nw:HH!∉HJ!:=λm=>by have:=(x.new _ m).2;show DF! this (JL! (¬G.BB<G.BB) (Int.lt_irrefl _)),
JWY,(es.filter λz=>z.hash==e.hash).size,JWZ,A1! (Gy! i).filter b<=ts.length,JWb,AJ! (Z t (y! ht)).1,
JWc,∀H,FD K H t (Z Job),MK?,by have#[kvs,vs,h1,h2,h3,h4,h5]:=Jke (P:=P) Z Z,
JWd,{ G with BJ:=Kx!,hand:=SO!,AK:=jJ! (R3 AN! tb+wt) },
ML?,by have NP:Y9! (E4! H G.h By (Cb AE! tb)):=λb' o e h1 h2=>Yh! (λe'=>h2 (JhO e')),
MM?,(by have gV:d2≠d3:=λz=>by rw[<-z,Z,Ab] at h3;cases h3),JWe,λc=>AA! (one c),
MN?,(by generalize Jq! H9 (LH! aP (B9 Z))=nG at bN YC),MO?,by have uS:JjV (b∉CS!) (b≠x):=Xp! (Al (Z) hx),
MP?,by have l7:Nr! H4 x []:=FM TY (AC s3 ex) jD,MQ?,by have e_:∀z∈AH!,OE m z:=jp (G8! z (l! es (mem_mid hz))),
MR?,by have oh:UI t qs h=JF!:=by unfold UI;rw[eq];rfl,MS?,by rw[RQ! ((Z:EL).hs=W.hs),<-z,Z] at this,
JWf,X1! (WF n (EN! Z Z e)),JWg,{ I with ss:=Dx! I.ss h5! (EQ xs),fs:=Dx! I7! h5! (XV DW!) },
JWh,∀(x xf:Addr)(as:X!)(ts:E!)(L:k!)(H':Hp),Z,MT?,by have jf:WJ p W I H H2:=λb o eb hb n1 n2 n3=>Z,
JWi,∀W',Z->W'.qs=JhQ->R v W' Z ys H1,MU?,by have hN:BM! h.toNat=h:=BN i.1,MV?,by have hN:BM! g.toNat=g:=PJ!,
JWj,λz hz t ht=>(Z t (AT #[z,hz,ht])).1,JWk,∀y L W' H' q G hs os rs,k2!->C1!->JpV->Z->JpO->JnK Z,
MW?,by have mo:∀{L:k!} {c:Y!},Z:=Z,JWl,∀z,(z∈i1\/z∈i2)->Z,MX?,by have ub:DW 4 _:=h1!,
MY?,by have ua:DW 6 _:=h1!,MZ?,(by by_cases c1:AU! (c % 2)=AU! 1),
Ma?,by have gO:∀t∈hs,GG!:=AJ! (wi.sm hn hq (y! (K8! hx! ht))),
Mb?,by have lhs:hs.length<=60:=by have:=HP.pm.length_eq;have:=(YG! hq).1.ok.hz;lia,
Mc?,by have#[#[q,G],hq]:=Nv! Z h (l! Z hh),
Md?,by have a7:∀r∈(S h).2.1,NB h!:=Ff! (Z V! hq (HP.MA.pm.mem_iff.mp (BK hr))),JWm,(intBits_le_64 h1 h2),
JWn,(Fa Iv! BN!),JWq,(Jfl Aa! Z JG!),Me?,by show#[e?,_,A!,A!,Js!,?_],JWr,(Bm! (k r)),JWs,(aE (j7 #[RQ?])),
JWt,by rintro rfl;show h v ZL,JWu,BX (KQ (XD G a)),JWv,JgH (QZ.mpr #[HQ!,DP! hh]),
Mf?,by have ty:=hw.ty;have#[own,ok,ov,f,ho,e0]:=hw;have#[o2,e2,c2,f2]:=hm,
Mg?,by (repeat (any_goals (first|assumption|wp_step))),
Mh?,by (have PY:Y9! (E4! H1 wp Dp Z):=λb' o' e h1 h2=>WF (λe'=>h2 (JhO e')) (i1! NP)),
Mi?,by (have li:(iN (List.range n)).length=n:=by unfold iN;rw[ZA,DL]),Mj?,by show AD λz=>h (AY! Ah! k.1),
JWw,W2! (Z Rx!) ns,Mk?,by show#[#[o,e,ex.1],λa e2=>?_],JWy,(IR H' ex (wC ex C)),Ml?,by show#[IZ!,λb q=>?_,hd],
JW0,#[g0,g1,LX! s.ip b hb,Z],Mm?,by rcases(Cf _ _ _).2.2 t h with h|h;(.show y?);.show Bo?,
Mn?,by rename_i e;injection e with e _;show HM! (e▸a) Op,
Mo?,by have e:JR! Z:=x;change JD! Me! Z;show k a _ HW! e,JW3,l! (Z i (BY Op Z)) q,JW5,List.lookup k ((Z,v)::r),
JW6,rY 10 (((Gj!).reverse.dropWhile j3).reverse),
JW8,by have#[m,#[o,es,ep,ho,r],_]:=id I.loc;have#[sl,hL]:=u.any ho IN! Z;show Z,JW9,Fz! (g9! (Kt! O5!)).map,
JXA,W.takerIn K C Z=D! Rs,JXB,EM 4 Z Z kP! (P7),JXC,al.filterMap (Z n u),
Mp?,by change Jy t (S1 k).2.2=US t qs k,JXD,Bc! (λe he=>sw e (BL! he)),
JXE,Au (i:=Z) Z A! (by first|show XB! A!|show M3! A!) Z,JXF,AW CW Z CP H pw W,
Mq?,by have#[_,_,_,q]:=hs;show False.elim q,JXJ,WI H1 Z W D m n d A B al ys,JXK,Aj (o:=Jv p d) hp,
JXL,AW CW C CP (YX! r []) p { W with c:=W.c+BM! 0,ls:=W.ls++[] },JXM,(by change BM! t.2.toNat=t.2;show Z),
JXN,Bx!/\Z/\ao!/\Hx! f/\Z,JXP,Dc! (W.qs[j2]?) q3 G3,JXQ,Ot [Cm!,F2!,Cs!] H Q E,JXR,λz=>KR (RW! #[_,hm,Z]),
JXS,Z (AH!) y.n 2=[],JXT,(fj (Uq Z (Uq Z (Uo (Av Z Z Z YL!))))),JXU,D! (FB (one c))::R6!,
JXV,h6! ho (λu s1 #[x,H1,I1,rx,q1]=>JjQ hi (λiv s2 #[y,H2,I2,ry,a,v,ex,g,q2]=>?_)),JXW,IsTup h ka At!,
JXX,by unfold Ah;rw[CN,AG e],Mr?,by show#[y',F7! HL!,S! en Z,Z],JXb,JL! Z (AA (AA (BQ Z) Z) hn),
JXd,K0! hN! Kc [CO!] Z Z,JXe,K0! hO! Hv [G1!] Z Z,JXf,K0! hQ! Kh [Fe!] Z Z,JXg,V_ λnum l1 l2 t=>Z/\Ln!/\Sm AX!,
JXh,((If! f).map XC).sum,JXi,(∃xs,Z/\k=!xs.isEmpty)\/(∃xs,Z/\k=!xs.isEmpty)\/∃kvs,aU! p z!/\k=!kvs.isEmpty,
Ms?,by show GA! (load S) (wpAny_load a3 (ZS ?_)),Mt?,by .show u i j UU (K' (HG hj) lV),JXl,lu!/\(JlV)/\JpC,
Mu?,by show r? d (by change BI! (Bm AN! tb _)=_;rw[put,AF d,d]),Mv?,[EN? A! Z A! _],JXn,Ma! S Z (FT! g),
Mw?,by show B3 #[Af? CD,dx,_,_,A!,hp,TK.cl,TK.nW,Dm,Be? pw RK A! RI LB! _ A! r _ 0 iH! A!],JXq,Sf! _ EC JlJ,
JXr,Y0! (compareOp Z u Bw!),JXs,E4! H2 Aj! Fx Ax!,Mx?,by show Qp? (Ah (Iu! λq=>Z) t-Ah (g9! (Kt! Z)) t+_),
JXt,((S.st q mq).keep ((MK Z).trans (MK Z))).keep Z,JXu,So! (g=f) (D! u) (mA g),JXy,hc _ (lookup_mem h) (Z A!),
JXz,(hs.2 g! ne).trans e,JX0,Jj! (call (Eu! id) (v::us)),JX1,Jj! (Hb! call f us),JX3,AF (by show CL l),
JX4,E4! H3 mE IM! po,JX6,A0! (.Dict [] [] bi) Z,
JX7,T.keep _ _ _ Z λb hb o e=>(Z (b,o) (Bu! (Bu! (Jk hb e)))).1,JX8,PI X tg (.Call (FV! WW! p) Z [] bi) (Z ta),
JX9,S6! { G with BJ:=Kx!,holds:=Kb Ax! ad Z },JYA,S7! (storeName SL x u),
My?,by .have e:i=kvs.length:=il! hi JK;subst e;show E? #[#[fz,Bv!],F0! hd pv],
Mz?,by .have h:Ir!:=h;show#[LC!,by unfold Bl;rw[AI (show t∈Z from h)];rfl],JYB,Jhq Ay Ay Ay,
JYC,#[Ba!,cr,g,b,JhX],JYD,#[E1!,cr,b.1,b,g],JYE,Gi! (Ar t) ".",JYF,ax h' h0.objs.size es OZ,
M0?,[EO? C dx hp q! Z Z Z (JnR Z)],JYH,(by unfold nums;rw[Mb! bk.OC];show bk.num),JYI,Mod Kx X.mg Qr!,
JYJ,W.codeIn K FH qual=true,
M1?,(by show#[o,g,Nt I #[_,e] (λxs z=>jK!) (λy z=>jK!) (λob v z=>by have:=Wg! d Z v Z;show H? e;cases this) (λps z=>jK!) Z]),
JYK,PZ X (binaryOp Z) (cG λi j=>He! Z),M2?,by have r1:(EB! "holds "++Z)=Eg wn [Z0!]:=Z,
JYL,λh' eb=>Bc! (I.turned (t':=Es!) (λb ob hb e=>eb b ob hb e) f0 f1 f3 f4 f5),JYM,[SE!,Ix FA!,SB hd],
JYO,(IR H1 p (LH! HM (B9 JlQ))),JYP,(IR H4 cl (JB! (MJ++bs).map)),JYQ,JiO H' p n' d',JYR,RU H y.2 wT Z s g n u,
JYS,Fd (G1:=Jnx Z) (Jbk g3) (by unfold BX;rw[T9]) A! S1 k,JYT,fp! IT! SL=[SK! (YU! a),SK! (YU! b)],
M3?,by show UV Z (by simpa using hx.symm) Z A!,
JYU,#[λi H=>OI! Z/\i<kvs.length,λi H x H'=>H'=H/\Z,λi H=>OI! Z/\kvs.length<=i],JYV,PW X (.BoolOp Z [a] bi) tA,
M4?,by have:=Ba CN! (EQ d2) (JpP d1 (Az! 0) Jhf),JYX,Og (VW (cG λi j=>AG! (MZ! (j<i))) Z Zx!),
JYY,Z ho hc hd (by simpa using ra),M5?,by .show(CC _ _ (JhP n t2)).trans q,JYZ,(h.keep t h1 h2),
JYa,RelV (kV k) u,JYb,(BY h1 (Int.le_of_lt h2)),JYd,E5! H2 wp Dp AI!,JYe,E5! H2 Aj! Fx Ax!,
M6?,by show#[[],CL!,A!,λv hv=>by simp at hv],M7?,by .subst lV;by_cases hi:i=j-1;(.rw[hi];show e);.show Z,
JYf,E4! H2 wp BA! (Dx! (NH! JlR) (tk HH!) (AU! 0)),JYg,EM 1 Z Z [NO!,wn] P8,
JYh,Jt! (Jn! (Je! (XQ K a).stop GE! (XQ K a).go (XQ K a).TX (PL! at! GR!))),JYi,Kz! (Es (Av mY mF! Ag YL!)),
JYj,mD! M3.mt G3 M3.bd,
JYk,Z->Pv i ys H2->(∀ys H,Pv (ww) ys H->N ys H)->tt (Z) H2 λb H4 =>Yl! (te (Z) H4 jj!) (N ys H4),
JYl,Z _ _ ha (S.tup_ne ha).1 (S.tup_ne ha).2,
JYm,(List.range h.objs.size).filterMap λa=>if a=L\/Z then none else EI! KH! a (λo=>(a,o)),
JYn,s.heap.IsTupleIter it t i,JYo,s.heap.IsTupleIter i1 l1 k,JYp,Pairs Y8! es vs,
JYq,kvs.length<=sizeLine/\Zb! /\ ∃xs,Ju!/\h.DictOfH (WV! (Bp P w)) a xs,
M8?,by rw[e1,Df rs (λt=>! Z) t,Vr pm s.ok.rn],
M9?,by have I3:DY! Z { s1 with heap:=s1.heap.push (h3! Z Mc! Z) }:=I2.kept (t':=s1.toks) (XJ! N8!),
NA?,by (have ej:j=SA.size:=by show B? (j<SA.size);(.rw[SV! (SA.size-j=(SA.size-(j+1))+1),RA] at hr;cases hr);.lia),
NB?,by subst e;show C?;show#[L?,p,dx,_,A!,hp,LI!,_,A!,Z],JYr,JlZ (XV S5! Es!),
JYs,by rw[e];change Ah (Bm AN! tb _) tb=_;rw[put,Aq!],NC?,by .have#[a1,a2,a3]:=Sy! hp;show#[a1,Z,a3],
JYt,T.keep 0 _ _ Z λb hb o e=>Z,
JYu,JmF SX.nd (YY! (C3 hu Aa! An!) TI.cl Z Z GZ Z Z) (Cq! (Uu (Hh (pv 6)) Z H0!)),
JYv,sp (Tl!::aF!) Z (λv H2=>v=wS/\Ny! x H2) E,JYw,JL! Z (AA Z (AV hd)),JYx,x.ma.has _ q G Uf _ Z,
JYy,∀C s1 H1 fp AB,PE (QR X sc cl C (x::y0::YT!) s1 H1 fp AB) elt te,
JYz,∀C s1 H1 fp AB,fq (QR X sc cl C (x::y0::YT!) s1 H1 fp AB) ifs tt,JY0,Jns (∃a,Bx!/\(∃xs,Z)/\Z),
JY1,Jnv (Z AB s1 σ H1 x v Q I1 r1 q1),JY2,JkM S1.fld HM (WF h1 (i1! NP)),JY3,JkM S2.fld LK (WF h1 (i1! PY)),
JY4,SeqAt.EqAt A s u v Z,JY5,by (have:a≠p:=λz=>by subst z;show Z);rw[Ad this];show e,
JY6,∀(l:Addr)(H':Hp),OQ!->Jji Z (λx=>AK! x.2)->db->YQ! l,
ND?,(by (.have z:OI! (.IC ob v):=z;rw[S.ob] at z;cases z)),JY7,[SB y1,SB y2,SB y3],
NE?,by show QI FO IZ! JA (AC PySem.F.args_dict_get_3 _) (Z Z a Z hd r) Z,
JY8,swapsWith value (re (Z o Z pos')) pos.line SL=Er! Os,
JY9,∀base:FS!,K.In B3!->i2! base.Ns->FY P w K mg B3! Z Z fa fd Z Z,
JZA,kS! Of (C6 (Jjs Z)) (Br (EU.or Ga) Ks! g.TR.str CU TM!),JZB,AJ! ((ZI ht).elim (Z t) λq=>Z t (sw t q)),
NF?,(by have lq:b'≠r:=λz=>by rw[z] at e';rw[LV] at e';cases e'),
NG?,by have A:∀u,SJ! u=JY! AH! u:=λu=>by rw[es,Bz,Fk,Bz];rfl,NH?,by have kt:=WJ.FQ HB! UN.at_ fr,
JZC,(by induction p with | nil=>show q | cons h _ ih=>show am h ih),NI?,by show#[Q6? a ta ha],
JZD,OQ!->Z->Ny! l (EG! l Z),JZE,Kn (FT! (·.n)) z,JZF,(meets_dict_get TR! a Zz! Z),JZG,aw Z N2! (EC n),
JZH,by unfold RE;rw[II,hf];show Z,JZI,storedH_old (atKey_of_get nd hj),JZJ,Z->fs[i]?=D! f->ws[i]?=D! w->Z->Z,
JZK,FD K H3 a [u,v],JZL,E5! H7 wp Dp AI!,JZM,eY G tb sh ID,JZN,k (j+1) r aO! V!,
NJ?,by .rcases Cv! (Cf _ _ _).2.2 with e|h;(.rw[e];show v! hi);.show N?,
NK?,by show GA! (On! Builtin.SmallTypes.ownedTupleIsFree z) (ZR (DC hz A! (x:=At) A! (ZS ?_))),
JZO,Ma! R (xs.eraseIdx j) (ys.eraseIdx j),JZP,LL! (λ(y:Int×Addr) (l:LT)=>JrF H1) L ls,
JZQ,PS X (.AugAssign Z op value bi) Z,NL?,by show ZR (JF i1 i3 Ch ?_),
NM?,by show#[Bp!,Il!,W.c,Fi!,_,_,_,_,A!,W3.po,GB! zl,λt1 H4 ht et S4 aM=>?_],
NN?,by (have e:SW! FS kL!=(FS be).map JlN:=EJ! AZ AZ),JZR,YY! bv v4 I2! G2 hr Fp! Z,
JZS,(SJ! 2++wv (Ca al n 2).map++JjD).Perm (rg m),NO?,by show#[LO!,_,Jjj sK (Z sK d) ZB! Bh! ?_,A!,q _ hn],
JZT,SJ! 2=[]/\jy! 2/\se=[],JZU,Jmo Xn! ((BH!/\Ti!/\Z)\/(BH!/\GP!/\∃wt,Jir I3! wt/\Z)),
JZV,∀{l:T!},aI! UV->∃s:T!,s.Perm l/\(s.map UV).Pairwise LI,JZW,PS X (.Assign [Z o Z pos'] value bi) Z,
JZX,JqH Z (Bm! (B9!):Key) e SR!,JZY,JrH (EE! (W! (Jgk (Fb! Z) ht))),
JZZ,LA.mpr #[_,h,by change Yk! (n=n/\u=u) Z=D! Z;rw[AF ES!]],JZa,((Z gj! Z).extBut gk! Z).extBut RS! Z,
NP?,by rw[ZA,ZA,pp.length_eq,DL,CQ],NQ?,by show#[RP? C dx hp Z Z Z _ Z],JZb,(Z O h h1 Jmi u Z),
JZc,Un fs [] H0 H1 s0 Z,JZd,((wt=0/\OA! NW)\/(wt≠0/\Done p G H Z (Q (XV (Ir wt))))),
JZe,iq! q! ML.mt GL hr ML.bd Z,NR?,by show S? ZR (JG ty (SN! (wpAny_fieldsOf e0 A! ?_))),
JZf,GF H2 Z (Az! cr) (re (XV (Z i))),NS?,by show Qs? dx hp I0! (F9 G) G.h Z,
JZg,(Eu! "list.extend.loop" #[[SB S,SB h0.objs.size,SB S],[]]),
NT?,by show Z (I.ok.hd hc) st Z (by simp;show hl▸hx) mJ!,
JZh,by have h1:CC! Z Z r _:=Z r _;have h2:=Z;change CC! Z Z r Z;lia,JZi,CE FX! P w H s Q u s',
NU?,by have iw:M_ V AZ! q G:=#[HQ!,S! CS hq],
JZj,∀q:Ad!,jF! q.Perm as.length->q.Pairwise (λi j=>RN! (Z i []) (Z j [])=true)->∀h' c,(JnM)->JD! Me! (j9! q.map (λi=>Ji4 i At) c)->P JoR Bn!,
NV?,[RH? A! _ A! CW LK IU v4 TW.nS (Jz _) (λa2 cz=>?_)],NW?,by show#[s',gL,F,lk _ Z,st F sF,ft,hu],
JZk,(λσ H R=>wU Kx tl σ H R\/wF Kx tl σ H R),JZl,(λi σ Hd=>(∃u4,σ=Z)/\WO H4 lr ts Z i Hd),JZm,Am N ps scope,
JZn,Slot T Gd! id,JZo,Heap.ExtBut it xz h',JZp,Jjn (To! el) vZ vL,
JZq,Z Z (by simp only[BG]<;>lia) #[Ix gE!,H,I.tok _,#[s.toks+1,A5! BG Cf!],q],
JZr,Calls.Name_function_global Qt! hg Z hd,JZs,Z TR! d vs ep,NX?,by show ZR (wpAny_fieldsOf i1 i3 ?_),
NY?,by rw[Str.cps_append,Str.cps_append,KP,KP],JZt,DG! (Hj!->Bg!->Z->b∉ex->Z),
JZu,∀b ps,Cn! b .cX ps->∃more,Nn! H' (.cX (ps++more)),NZ?,by have hx:kvs[i]?=D! (kvs[i]):=by simp[hi],
JZv,λz=>S.SR (b:=Z) (by simp[BX]) KX!,Na?,by have:its=its':=SQ! (aH! Array.toList d1),
JZw,∀(AB:Db)(s:Shared)(σ:St)(H:Hp)(D:Ends),ih! (t D σ H) (Jg3 (Z st SL) (SP X AB D)),
JZx,∀whole,Z=(do let v <-whole;standAt Z;holding [v] (truthy v)),Nb?,by have#[o,e,d]:=T.obj _ _ Z b hb,
JZy,Q0! (Jwr x y=true/\Z),JZz,([(a,NameKind.local),(b,NameKind.local)]:iS!).lookup,JZ0,λb z=>DF! z (kl b),
JZ1,∀(AB:Db)(s:Shared)(σ:St)(H:Hp)(x:V)(xs:C!)(v:Value)(us:d!)(Q:VK),H!->Sm!->Hp!->Z,
Nc?,by have I2:Z :=I1.laid (t':=Es!) (ZB!) Bh! (show EN FU! X.w _ _ _ Z from Z),Nd?,by show u? (Jm0 I1 r1 ty),
JZ2,∀(w:World) (h:Heap),YP w h->(K W9!).In h,
JZ3,∀(w:World) (mg:AC!) (fa:Addr) (h:Heap),(K W9!).In h->i2! h.Ns->JnI d.name -> Z,
Ne?,by have g:w! (IS! (h3! Z Mc! (#[ZZZ,GC!]))).get? sK (h3! Z Mc! (#[ZZZ,GC!])):=EP!,
Nf?,by have YH:A9! (Builtin.Dict_items.ownsTuple gP!):=o0,JZ4,∀q,Pm q n->Up lt q n->G q s,
Ng?,by have#[e2,e3,e4]:=ha.2 j acc[j] (by simp[h1]),
Nh?,by have g1:w! (h1.push (seqObj "list" (as.map Value.ref).toArray 0)).get? Gr! (XL! Eo! (BW! Ds!).toArray 0):=EP!,
Ni?,by have g1:GF H1 wp OX! (jH! Z):=Z,JZ5,λtk=>#[AG! b,H,I.tok tk,A!,q],
JZ6,[(DU!,0),("beginner",1),("n",2),("turn",3)],Nj?,by have hT:W1! (EQ z) IR!:=Dg! hz,
Nk?,by have L0:a3! (K4! typeOf x) Sx!:=hc▸(W.Looks.ld uP).andThen .now,
Nl?,by have#[q,hq]:=iW! us (by have:=BP! eb;show lB▸this),Nm?,by have sub:∀w∈AH!,w∈al:=λw hw=>JqJ hw,
Nn?,by have sub:∀z∈AH!,z∈ls:=jp (S! es (mem_mid hz)),
No?,(by have cb:d1≠d2:=λz=>by rw[<-z,Z,Ab] at h2;cases h2),
Np?,(by have gX:d1≠d3:=λz=>by rw[<-z,Z,Ad cb,Z,Ab] at h3;cases h3),Nq?,by have#[vs,rel,lo,da]:=Jtt I hg hd,
Nr?,by have OV:s.heap.IsValIter it d i KS! ep:=AY! hl st,Ns?,by have gr:w! H2 Aj! (Zn! Fx Ax!):=ll! Ab S.dl,
JZ7,λq2 G2=>M_ W g q2 G2,Nt?,by have gm:=S.JY (b:=DS!) iA! (ZP Uf),Nu?,by have#[s,nu]:=x.sd _ q G hi,
Nv?,by have len:(a++b).length+1=ls.length:=by rw[es];simp only[ZE,A_];show A!,
JZ8,λe bb hs=>x.s2 e bb λh hh bh=>?_,JZ9,∀(r:Addr)(ms:Z),aT!->ms.Perm ns->Z->Ny! r (EG! r Z),
JaA,∀s g ts,Z->FJ!/\g<m/\∃F,JqU/\(Z)/\l7! (F t) (Bb!=g),JaB,∀v H',Lh!->Q' v H',
Nw?,by have#[k1,k2,k3]:=k r xs _ Z Z (Ax (λ_ _ z=>Z) pa),Nx?,(by generalize (z*48271+12345) % 2147483647=y),
Ny?,by have#[q0,G0,h0,h]:=c.ho j q' Z hj,JaC,Gi! (Cg ws) AW!=ws,
Nz?,by have zt:=wi.dq wk.nd (AJ! (Nn wi.wg (R4! t ht)).2),JaD,[AP!,Di!,TN!,k6!,u4,none,none],
JaE,λi σ Hd _ hd=>by have#[_,r,_,_,_,_,fr]:=hd;show NL! (FM fr UX uA),
N0?,(by show AD?;have#[p,xs,rfl,hq,fx,fs,q]:=h;cases ry;rcases hq with hq|hq),JaF,(x.above y c (KO h)),
N1?,by .rw[AD hj,AD hj];show#[_,A!],JaG,(by induction p with | nil=>show U! | cons n t _ ih=>show am Z ih),
N2?,by rw[AD d,AD (SU! d),AD (SU! d)];try lia,N3?,by have mm:=LR (Z hw);obtain⟨_,h|h⟩:=kn<;>rw[h] at mm<;>lia,
JaH,(BX Z).Sublist (BX G),
N4?,by (have los:(S h).2.1.length<=60:=by have:=HP.MA.pm.length_eq;show U? ZA ZA;have:=(Z hq).1.ok.oz;lia),
JaI,g!=O!/\Bq! WP (ii (p.1.map kV))/\ED! wP BN!,JaJ,Mc (AJ 0) A!,JaK,#[Ah!,P! ht z.2.1,z.2.2],
JaL,(compEnvC sc cl Z SL),JaM,Z g cr (g4! JmI),JaN,(AA UU (AV ha)),JaO,(AH K3! (BQ hk)),
JaP,PySem.Within mA (Qo! be),JaQ,ItemsOf (λi v=>∃e,es[i]?=D! e/\v=e.key) acc M7!,
N5?,by show#[Z::fs,W.KatTups.cons Z Z Z Z a1,by simp[a2],λv hv=>?_],
N6?,by show#[S! fs c.fin,Z,HO! eq SM c.len,Z],
N7?,by show#[HO! ha hb x.t1,HO! ha hb x.t2,Z,Z,λe b hs=>st _ (x.s2 e b λh hh bh=>?_)],
JaR,G_ λa b=>SW a/\SW b/\z=a++"."++b,JaS,by rw[AZ];show C_ λi hi=>?_;have:=inr i hi;simp[this],
JaT,#[x.len,x.lA,Z,G8!,Z,x.sh],JaU,S.ZX g3 (Z hl tb),N8?,by show I? (GJ! q1 z) (x8 ey x.qA y0 Z),
JaV,HN 4 f1 d1 YS! (Z),JaW,λz=>Z (Z j q G e r hr t ht z),JaX,(Af (Cs hu No Z Z A!)),
JaY,(Ao (pl:=_) bv R1! Z (Z g) Z Z U! Bk lS!),N9?,by (have:(iB n2 u2 ∘ λi:Nat=>X0! g cr n u)=Z:=Z),
JaZ,DF! (JZ BB!) (IY.mpr Z),Jae,fZ! Eo!=fZ! IQ!,Jaj,Tells G hs os rs,Jak,Wp! (Mh! (BU hb)),
OA?,(by .have z:Bq! wp (.IC o v):=z;rw[S.dO] at z;cases z),
Jar,(Z/\(oJ (Dx! Z h5! (Az! DW!)).length≠I.m->∀(x:Addr)(H':Hp),SP! { W with GV:=Kj! }->mB! Z->ls!->Nr! H' x []->JM!)/\(oJ (Dx! Z h5! (Az! DW!)).length=I.m->Z)),
OB?,by show#[YP! _ g,#[_,g],λh1 h2 #[o,e,r] k=>#[o,k o e,r]],
OC?,by have#[t,rfl]:=r;cases (show Z from ty);show#[Z s Z t,λ_ e=>fV!],
Jas,#[o,Ll! ho (by rw[eo];simpa using Z),eo],OD?,by show CY? (ite (Ac! (Ds! t==Value.none)) _ _),
OE?,by .show CL? (DK! hq);show Z (XJ x) Mn! (λw hw=>Ks rx fx r fs w (by simpa using hw)) #[AG! _,H,I,A!,?_];rw[Zp! (its.toArray.any (XJ x)=its.any (XJ x)),Pz r fs];show q,
Jat,(Z (envOfC qual scope s.heap.objs.size f cd).kindOf (ps.zip us) Q5!),Jaz,Ef m W W al al ys ys Z dd Z,
OF?,by show GA! (field (EQ z) 2) (DC hz A! (x:=Au! Os) A! (GA! (field (EQ z) 3) (DC hz A! (x:=SB TI) A! (ZR (KU u9 A! ?_))))),
OG?,by show AR?;show#[Z,BH e,ag!,h],
OH?,by show Y?;obtain⟨hy,e'⟩:Z/\k=(oJ Z != 0):=e;subst e';show Z Z #[H,I.tok _,q],
Ja2,Ma! (λ(y:Int×Addr)(i:Nat)=>Z) L (DH! m),Ja8,A0! (.ListComp elt [#[Z,iter,ifs,0]] sc bi) Z,
OI?,by show Qo? aP cp aP cp,JbA,(JM (ix! ha s H I h (λus s1 #[vs,H1,I1,r1,q1]=>?_)) (GJ! hs cK) (Db! cK)),
OJ?,by show Qp? (ZR! AN! NE (JjC)-JF!+Cv t CU!),JbB,ZL! H2 l (Cb! AU!) (AO! y),
OK?,by .have#[bs,ey,sm,IU,WB]:=pv;rw[ZA,lt,B_] at WB;show k H2 bs sm (AY! ey IU) WB,
OL?,by .show CL? (Gc! hq);show Z (XJ x) pl (λw hw=>Ks rx fx r fs w (by simpa using hw)) #[AG! _,H,I,A!,?_];rw[Zp! (its.toArray.any (XJ x)=its.any (XJ x)),Pz r fs];show q,
JbC,(VW (mS K) (B0 0) Zx!),JbD,PB m A' B' Z SZ ys,
JbE,([(a,NameKind.local),(b,NameKind.local),(c,k1),(d,k2)]:iS!).lookup,JbF,TP! hM! Ib "form" G3! Z Z,
OM?,by show#[Z,Z h ta,k9!,ZV,λtc sc=>#[JrG (.t ta.1 ta.2) tc.1 tc.2,#[RC,kW,sc],hm]],
ON?,by have ht:t∈(G.AL++[((HH!,0):Dz!)]).map (HX!):=ht,JbG,lt (Gp! i 0) (Gp! j 0),
JbH,No! (model P w) X.A (K4! pyNext it) (λr s1=>Z) E,JbI,PassesOwn iE! X.A SL X.xe,
JbJ,#[a2,b,aQ! et,JiJ Ab,JnQ dA],JbK,#[?_,EI! p.map jN! Ds!,c,Z,?_],
JbL,HY! hb (i5! g.X3 3 (Z h ta tb G ha c2 hb)),JbM,JiC vF g.mLs.mg g.mLs.fn.kp g.mLs.bd (Yx! Z),
JbN,#[λi H=>G_ λxs x=>Z/\Sa!,λi H x H'=>H'=H/\∀xs,Z->Sa!,λi H=>∃xs,Z/\xs.length<=i],
JbO,Z=Ca a n Z++C0!::Ca b n Z,JbP,Gj (BW! dN) (BW! F0),
JbQ,I.laid (t':=tk) kp Bh! (show EN FU! X.w _ h' _ Z from Z),OO?,by show#[Z,#[d,o,_,ef,λob v z=>?_,A!],?_],
OP?,(by show ET?;show W? Z;have#[p,h,W,rfl,S,k]:=h;show A?;show Q?;show C?;show Ag? (JkL jk! q! hr Bk);show#[Qr? LB! p h W S];rcases k with k|⟨q,G,i,k⟩),
JbR,(∀h' OZ c',OZ.length=es.size->OZ.Nodup->Z->w! Me! S (j9! OZ.map Ds! c')->Z->Z) -> Z,
JbS,nm.sm V! (Z hB) y Z,JbT,Builtin.Slice.sliceAdjust lo hi 1 GD!,
JbU,qs[k]?=D! HD!/\US t qs k=E7!/\UI t qs k=JF!,OQ?,by rw[AF d,AF d.symm,AF d.symm,d];lia,JbV,GI K x st f fd,
JbW,w! Wk! f #[oc,od,Z,gQ],JbX,mI! E1 (LW λhs os rs=>db/\H_ K H' v (kP hs os rs)/\Z/\JoW (Cg (Z Ar))),
JbY,Z -> Mp! Z RI! (Hb! Q3! fa JiV) (λr s'=>r=.ok (.ret (Au! GM))/\OldK M1! IP!/\s'.os=ER.os/\aq!) ER,
OR?,by have e:((FS Z).map jc!)=FS Z:=Li!,OS?,by show#[_,A!,v! (iB! (Bc! (W! #[_,Z]))),d,_,A!,A!,Z,EU!],
OT?,by have#[Z',H7,I7,n7]:=q7;show again I7 n7,JbZ,Z n u (.w #[E0!,sn,g,th,xx]),
Jbc,qk X Z (λx xs H Q=>G_ λd kvs=>x=GC!/\xs=[]/\Z/\∀p,Hf!->Ny! p (EG! p Z)),OU?,[n? z,A!,d0,c2,c3,k _ s1],
OV?,by show call_tuple_list Mn! (λh' kp=>?_) (by simp only[BG]<;>show hlen▸hz),
Jbf,(Af (Bh (Av O6 An! KB A!) (af! KB An!) Az)),Jbr,PT X (.Compare a [op] [b] bi) (Z Z),
OW?,by (·(have:=Z (H':=Z) λb' o' KR e'=>ia! (JhP jD KR) e');show H? Z;show this),
Jb3,Ax (Xc! (by have#[a,e,s]:=h9;show#[a,e,s.keep kt])) Z,
OX?,by show ZR (VH (ZR (DC hz A! (x:=SB TO) A! (ZR (DZ hz Ch λh₁ bZ ER=>ZR ?_))))),
OY?,by rw[AG (Ge! (¬AA! (Eg Id! [.n AX!])=V.FJ) JiA)],Jb4,LL.ME g s n' u Gs! Jd!,Jb5,LL.ME s g n' u DW! S,
Jb7,Ef m V V al al ys ys Z dd (gP i),Jb8,Ef m V W' al SZ ys EF Z dd (aq dv),
Jb9,(Af (Bh (TO! No Ay) (Yi! (i8! Aa! g.TW.cl Z (Z g) Z JqS)) Z)),
JcA,EI! (Bt Bs! rs).map (λr=>(#[D8!,g,r.1.1,h!,r.2]:LT)) .w,
JcB,EI! (Bt Z rs).map (λr=>(#[D8!,Z,r.1.1,h!,r.2]:LT)) .w,
JcC,∀base:FS!,(K W9!).In B3!->i2! base.Ns->FY l.prog w (K W9!) mg B3! Z Z fa fd Z Z,
JcD,(λ_ s2=>G_ λx H'=>DY! H' s2/\Jh!/\Z i H x H'/\Z/\Z),
JcE,(if(BM! (A1! BC! YJ!))<28 then BM! (A1! BC! YJ!) else 28),JcF,JAw->bindArgs (Z) Tv!=Jpm,
JcG,DG! (Wd!->Z->b∉ch->HK!->Bg!->Z),JcH,subscriptTail_builtinR (x:=w) Z Z (Z) hs,
JcI,λb o hb=>uG b o (BU (AU hb)) (ZT _ hb),
JcJ,λH3 s3=>#[_,A!,Hn (AJ! (let#[r,hr,e]:=TC!;e▸a7 r hr)),by rw[ZA,ZA];lia,Z],
JcK,#[?_,out.toList,c,Z a1,by simpa using ec],JcL,As Z (Az! y) (B9 G)=B9 Z,JcM,FM jd (T_ _ _ e n) (Al e p8),
JcN,k l _ hl (Aj hl) Ab,OZ?,by .rcases Ja3 hq with e|hq;(.rw[e];show hv);.show I5! q hq,
JcO,FR (h AB s σ H D (I.RP _) hw) (Z) Z,JcP,typeLookup (DE! T) "__getitem__"=Er! (re (Eu! id)),
Oa?,[_,A!,_,A!,p,pw,Z,Z,Z,m,n,Z,Z,Z,Z,Z,A!,Z,Z,Q!,Q!,Z,Z,λe H' s'=>Z,λnum l1 l2 t H' e sn s'=>Z],
JcQ,(As! Ea f (λi:Nat=>Z) R (NC H2 (Kj!)) XE.OC),
JcR,G_ λi j=>x=wE i/\y=wE j/\La! (!(Builtin.Str.occurrences j i 0 j.length 1).isEmpty),
JcS,σ=Z/\JoO/\Sj! ws Dp OT!/\Sj! hd Fx hl/\Z/\PD H' hl/\JK! sl FF!/\Z/\DQ Z H'/\JqY,
Ob?,by show RC? a2 b1 Ab (k3! c1.symm) Z Z,
Oc?,by show#[p,Z,[.n h],A!,A!,ND! (by rw[ZK ha];show#[HQ!,Q!]),#[dx,_,hp],JgV (JqQ Z Z)],
Od?,by show#[u,A!,JrB d (l3! x ru (Bc! (λys hy=>S! (Z hy hq) hx)))],
JcT,by show P?;show FV (Ns! hi s H I h) λiv s1 #[y,H1,I1,ry,q1]=>JjQ ho ?_;rintro u s2 ⟨x,H2,I2,rx,a,ov,ex,g,q2⟩;subst ex;show z?;show Z hu I2 g ry λs3 I3=>#[Z,H2,I3,A!,q2],
JcU,kI CP "put" (Hf) [] E0 (dX K (B0 1) Bo!) (Cm (ZT! Av!) (Cm (B0 2) (Cm (B0 0) (Cm (rD (Cm (B0 3) (Cm (B0 4) F3))) F3)))),
JcV,wI ha hb I h (yD! (ho AB s2 σ H2 x y v u Q I2 rx ry q)),
Oe?,by show GA! (checkCount "sorted" 1 1 _) (SN! (W.kdu_collect (xp lo (es:=es) (ep:=ep)) (HP! _ (I.ok.hd hc)) Z Z λh1 tk acc kp ha=>?_)),
Of?,[_,A!,A!,Hd!,_,_,A!,A!,Hd!,_,A!,_,_,A!,A!,Hd!,go Z _ _ (Z) Sr! Z hm],
JcW,JrJ Z (K6! Yw!) (EE! (W! ht)) (λt=>Jj8 hr) (Fh! (S! (ZK hl) JmY)) (Gz! (((Cf _ _ _).2.2 t h).elim (λe=>e▸hr) id)) Z (BW (AJ _)) (mW _) A! (Oc! l1) (λ_ c e=>hR _ _ _ _ _ Z c e),
Og?,by show#[RD? SD RJ,Ep _,Bp!,bH,_,A!,gn,Oe!,_,A!,_,A!,_,A!,_,A!,S3!,ND! ?_],
Oh?,by first|show Jfz _ Op Op|rfl,JcY,g l (by show AA Am! Am!) lo λi a b=>hi i Z b,JcZ,Ja0 M4.fn T M1 M2 Z,
Oi?,by show Z st Z (x:=u) (by simpa using hu) λh' OV sb=>?_,Oj?,[Z,b,_,A!,A!,Z,Jf!,_,A!,?_],
Jca,typeOf (Eu! id)=Er! (DE! "method_descriptor"),
Ok?,by rw[RQ! ((HO.dT ((Cb AE! tb).map Hk!))=By (Cb AE! tb))],Jcb,∀b∈BX (KQ (IS Z)),Tg!,
Jcc,λm' hm=>by have#[o',g7,g8,bD,r']:=hm;rw[ho] at bD;cases bD;show#[_,g7,g8,hL,r'],
Ol?,by have YB:CA! (X.env.scope.kind == .class || (X.env.scope.kind == .module&&X.env.locals != X.env.globals)):=Db! Qt!,
Jcd,∀(X:Cx K),X.prog=P->X.w=w->BY!->∀(i:Nat)(AB:Db)(s:Shared)(σ:St)(H:Hp)(E:KE),H!->(JpA)->tn i xz->Z,
Jce,λu s2 #[y,H2,I2,r2,q2] =>FV (ho AB s2 σ H2 x y v u _ I2 r1 r2 q2) Z,Jcf,Mq! ((IS! KM!).push (fc! C sK)),
Jcg,show IA (Rv! i++[q])=IA (Rv! i)++[BN!] by unfold IA;rw[ZF];rfl,
Om?,by have bc:¬Ac! (!its.toArray.isEmpty&&Builtin.List.listTooLong (its.toArray.size+RS.toArray.size)):=HO! (Jfy hsz) Bool.and_false AQ,
On?,by have nd:Zm! Z:=by have h1:=(pm.nodup_iff).mpr (Jtl m);show(KZ! h1).2.1,
Oo?,by have h2:=As! Sh t Z l qs (λj r ej=>Z),Op?,by have inr:∀i∈p,gc!:=λi hi=>Gq! (pp.mem_iff.mp hi),
Oq?,by have eR:∀k,k<m->Z:=M8! (by have#[#[q,G],eq]:=Nv! qs k Z;show#[q,G,eq,by unfold US;rw[eq];rfl,by unfold UI;rw[eq];rfl]),
Jch,[AP!,Jl0,F1! x,F1! y,Z,D! rv],
Or?,by have sub:∀b,GO!->b∉Bx p (gz! Z):=λb hb m=>by rcases ZI m with m|m;(.show hb lC!);.have#[z,hz,hm]:=DS.mp m;have hz:z∈Z:=hz;rcases PV hz with hz|rfl;(.show hb (Bu! (RW! #[z,hz,hm])));.show hb (Bu! (RW! #[HD!,ZP Uf,?_]));show hm.imp id λz=>Z b z,
Os?,by have G1:JiD f1 c9 sJ:=aV! x9 NR! T,Ot?,by have b1:=NP _ _ hb (S.tup_ne hb).1 (S.tup_ne hb).2,
Jci,∀{s:T!},(s.map UV).Pairwise LI->(∀y∈s,UV x≠UV y)->∃s':T!,s'.Perm (x::s)/\(s'.map UV).Pairwise LI,
Jck,P6 (l:=Z) (k:=λq=>O!) (f:=Z) Z,Ou?,by have GG:E6! fG dG A4! xN:=Jjw MG.fn T Tx,
Jcl,λX y=>y.next hi (EE! Z) (Z) (hd! (W! #[r,AY! h2 hr,A!,ht])) (S! h3 Df!),
Ov?,by have sm:=x.wl.sum t (CB! #[h,q,G,eq,o1]),Ow?,by have sn:Z:=λz=>by rw[ZF] at nd;show lg! s z s i7! A!,
Jcm,∀(x:Addr)(as:X!)(ts:E!)(H':Hp),db->Br! H' Jhu->a1!->Found (IA Z) ts->JM!,
Ox?,by have#[wg,st]:=Z Uf hb Fu! g0 g1 Z,Jcn,∀k∈ks,mL JU! (S k),Oy?,by rw[ZE,ZE,ZA,ZA,Fy] at this,
Oz?,by have#[q0,G0,h0,h]:=c.ho _ q' G hq,
Jco,λt h1=>#[(h.less t (ls.AL t h1)).1,(ls.holds t h1).trans (h.less t (ls.AL t h1)).2],
O0?,by have gJ:Wk H ut lr ts H4:=#[Ai wk.sm aB,P! aB wk.e,Z,Z],
Jcp,[AP!,Di!,TN!,u3,u4,JmA,LK! FB (Cg (r.2.2.map Ar))],
Jcq,(forIn ifs GM λc r=>if r=true then do let ok <-isTrue c Z Z;Er! (ForInStep.yield ok) else Er! (ForInStep.yield r)),
O1?,by (have mH:∀{H2:Hp},JpZ->K66F.HW H2 y.io Z->SU H2 m Z:=λfr at2=>Z),Jcr,S! Z (Jj5 (k:=Z) (f:=Z) (r:=Z) sn),
O2?,by subst e;show C?;show Ad?;show V?;rw[N5 A!],Jcs,Z z y 0 My! (z.length+1),Jct,Z it ty z t (ww),
Jcu,(W.kas_ask DC! w A κ Z),O3?,[L?,_,A!,_,_,A!,A!,Z,_,_,A!,A!,JmW,kk _],Jcv,(Gd x.lw (NV! HB! wf)),
Jcw,WI Z p Z D m F5! (d+1) A' B' Z ys,O4?,by .have#[o,es,ep,ho,r]:=hm;show#[o,es,ep,k _ o Z ho,r],
Jcx,Cq! (ax! (YN! Be Q4 hl CJ Aa!) Aa!),Jcy,f a _ e (no a _ e Z).1 (no a _ e Z).2,Jc1,a.keep b _ q hm (HU! hg),
Jc3,by rw[F8] at *;have:¬(a4!/\a.2=b.2):=λz=>h (RF! Ah! z.2);lia,
Jc4,by show AD?;have#[rfl,q]:=h;cases ry;show Z (B6 I q ?_);cases x<;>first | (show J?;rfl) | (show Y?;rfl),
O5?,by show#[o?,CI,dx,_,A!,Oo! Z Ab,q!,Z,Z,Z],JdA,EM 12 YT YU jm! (Rc K),
O6?,by .show AT?;(.show Z z hz);.have#[y,hy,rfl]:=ZN hz;have#[lF,lE]:=Dt! hy;have uO:=Xv! (Dt! lF).1;have im:=s.ir wT (BD! #[y,uO,A!]);show#[im.1.1,im.2,im,v! (iB! #[A!,by have:=BI lE;change 1<=y.2;show(BI lE),A!])],
JdB,(Ha!/\HS!/\ys=SZ! (Gy! Z).map Ar)->Z,JdC,B8! C Xg! "House.told" mj JC! Yz Zo,
JdD,((RG! a (RH! λ_=>(Ep!:BT!))).push (XL! IQ! Mz! 0)).push (XL! Eo! Ep! 0),JdE,(cP c z).2.2.1 x c e A!,
O7?,by show y! #[eq.trans c.qs,aK!,y',gh,e4,Z,Z,Z],JdF,RO K x st ps f fd,
O8?,by show ZR (GY go UC (ZR (DK go UC (ZR ?_)))),JdG,B8! CW Fd! "World.make" r9 HI! V1 Xc,
JdH,B8! CW Ic! "World.clean" Sj HI! Ld Lz,JdI,B8! CW Av! "World.ask" rN HI! Le L8,JdJ,GS m (a9!) lq! t,
O9?,by have#[YL,H1,I1,q1]:=q;show#[YL,H1,Io I1,q1],JdK,Pw I (l! e Wq!) hs he (Jqa Z hd Z dE),
PA?,(by .have#[_,_,_,_,e]:=ee j q G hj;show q?;rcases ht with ht|ht;(.show(rL ht).elim);.cases ht),
JdL,(p.map λi=>Ji4 i At)=(p.map jN!).map Ds!,
JdM,by rintro AB s σ H x y u v Q I rx ry ⟨i,j,rfl,rfl,q⟩;have#[t,rfl]:=(show UD! from rx);have#[t',rfl]:=(show ∃t',v=fU! j t' from ry);show Z (Ov! (He! Z)),
PB?,by (have hl:DM! (putK kvs k v).length:=by have:=Gz z! k v;lia),PC?,by .rw[AF hj,AF hj];show#[_,A!],
PD?,by have#[g0,g1,F,sF,fD,ht]:=JoD;show#[g0,g1,F,Z,Z,ht],
JdN,ix! ha s1 H1 I1 q (λus s2 #[vs,H2,I2,r,q2]=>#[I2.OX,?_]),JdO,ND H t n E0! s g tb Z,
JdP,Ac! (BM! Jhr==0&&Hm!==1&&(JkE)==items.size),JdQ,JiC gAl g.mAl.mg g.mAl.fn.kp g.mAl.bd (Yx! (JiP (Jhi Ag))),
PE?,by show(DI! b ob e).QE (λc w' hc q=>(hs.2 c ?_).trans q) (λ_ q=>q) WX!,
PF?,by rw[AF h1] at h;have e:Z:=ZO h;show#[A5! Z e,Q!,Z,Z],JdR,B8! CW Ba! "World.hold" r6 JhG K7 Lu,
JdS,B8! CW Gk! "World.drop" rp JhG La Lx,JdT,B8! CW Gl! "World.take" sC JhG K0 Ll,
PG?,by show S? JW (ED (Gd!:=f9! "__next__") ty JN (DB JN ty F.entry_dict_itemiterator_next (ZR (SN! ?_)) (F.args_dict_itemiterator_next_1 _))),
JdU,B8! CD "move" "Desk.move" wb Yr! Wb Xn,JdV,B8! CD "act" "Desk.act" wJ Yr! Wy Yb,
JdW,B8! CD "look" "Desk.look" rm Yr! Wf Xq,JdX,i8! bv q! M4.mt G4 M4.bd (Jhi KB),JdY,JiT v4 Fo! G1 WY D6! SF!,
PH?,by .have:=Mn AN! tb (R3 AN! tb+x);change 0+(Bm AN! tb (R3 AN! tb+x)).length+1<=X7! (1*2);lia,
JdZ,YY! bv q! M5.mt G5 hr M5.bd (Jhi KB),
PI?,by show Z p pw r V h A! S1 er #[pw,AZ!,V,A!,S1.wo,v! #[q,G,iw,q,G,hs,os,rs,A!,iw.at S1.wo,gd.h2,gd.o2,gd.r2,HP.pm,HP.pw,HP.MA,Fv!,HP.wr,λy H' s st=>#[hs,os,rs,s,st.rep,#[?_,Z],JoZ k]]],
Jdg,Wd (YM l)/\Gi! (YM l) ":"=JrD,PJ?,by show#[_,A!,p,dx,_,A!,hp,LI!,Qn Z Z Z Z],
Jdh,E4! H5 G.h BA! (Dx! (Xo! JlS) (tk HH!) kJ!),Jdi,E4! H4 Aj! BA! (Dx! (RO! Tj!) (tk HH!) (DN! a)),
Jdj,rO C (PK) [] E0 S4!,Jdk,other O h Z V! V! e,Jdl,Jtu D2! Z Z tb G G' l,
PK?,by have:y≠x:=λe=>hj (U2 hN e1 (e▸hi)),Jdm,(u i (j-1) V! (by show Nat.sub_lt Am! Op)),
PL?,(by show a?;have#[i,j,rfl,q]:=h;have#[u,w',rfl,#[t,rfl],#[t',rfl]]:=vals2 r;show Z (I.ok.hd hc) λh' tk k=>#[_,H,I.kept k,?_,q];by_cases hj:Z),
Jdn,#[HD hu,k,xs,Ku DI! eb,dd,FM h iv! ?_],Jdo,Ky! (gWk g) iY g.mWk.mg g.mWk.fn.kp g.mWk.bd (OH! No),
Jdu,by show P?;rw[eval_ListComp];show Z;rintro C D H' s1 s' H1 hC I1 I' hn ⟨m,hm⟩ q;subst hC;show#[m,hm,λh' lJ=>#[SB D,H',xm (s':=s') I1 I' hn lJ,A!,q]],
PM?,by show i4! x.of (a_.IS.mono (DO n)) kM! (v! #[q,jI!,ht]) (Aw! (I5! q jI!)) JoG (λt ht hk=>?_),
Jdv,JoQ Z c (BY Op (BY x1 (FG r0))) e_ (by have:=Mn AN! NE (JjC);change(Bm AN! NE _).length+_<=_;lia),
PN?,by show BO?;(cases x with | FJ=>show J?;show Z a t' | bl b=>show J?;show Z a t' b | int b=>show Ce? (Z a t' b t) | str b=>show Ce? (Z a t' b t) | _=>show Q8?),
PO?,[Z,v4,Rp!,Ep _,Bp!,Z,_,A!,Z,Oe!,_,A!,_,A!,Z,_],
Jdw,(if! Jc! au! (Z (C3 hu No xL)) ZD! jL! ZG! (Kz! (Es (Ff (Ux hu bv No)))) (pv 0)),
Jdx,(hR v L Z _ _ _ A! #[A!,by unfold nums;rw[XE.len];show XE.num,by change LD!=_;rw[XE.len,bG],A!] gz #[y,_,i1,i2,_,ey,A!,A!,A!,A!,Z]),
Jdy,FY P w K mg B3! Z,Jd0,∀x:Str,aJ!->mb x=bootBuiltins x,
Jd1,∀v u s2 x y H2,DY! H2 s2->Sm!->CW!->R x y H2->JhR (f v u) Q s2,
Jd2,[.ExceptHandler (re (FV! x np)) (re n) (oW::gA) d9],Jd4,∃od,Z/\∀name,W.lookIn Gd! od=D! (mA Gd!),
Jd5,∀{binds:TL!} {m:AC!},(∀v,(x,v)∉binds)->Z kindOf binds m x=m x,
Jd8,∀{P:Z!} {vs:d!} {i:Nat} {m:AC!},P.Nodup->P[i]?=D! x->vs[i]?=D! v->Z -> Z kindOf (P.zip vs) m x=D! v,
Jd9,UE (T:=KP!) (b:=GM) Z isSubtype_stop Z,
JeA,(λm=>by have:=Z c m;show EZ?;(.show Bh? this);.rw[this] at hc;cases hc),
PP?,by cases Z with | none=>simp[sliceBounds,HT.KG] | some i =>simp only[sliceBounds,HT.KG,Option.getD_none,show Hm! > 0 by decide,HX];by_cases h:i<0;(.simp only[h,HX]<;>lia);.simp only[h,GA]<;>lia,
JeB,λFH A outer s H vs Q E hr z=>(h vs H Q E z).2 FH A FX! s hr,JeC,∀c o,c≠z->c≠TO->c≠i1->c≠i2->JnD->Z,
JeD,∀h' o es ep,K2! Me! d->o.ExactDict->O2!->es.toList=JoK (Qn! knd)->JhZ d->Z,JeE,AJ! (k t _ _ _ (Aj ht) Ab),
PQ?,by have G5:E6! f5 vJ h7! xK:=Jjx M5.fn T,PR?,by have GL:E6! fL dL OJ! xQ:=Jjv ML.fn T,
PS?,by rw[Jaq (Jkq (i.at HB!).nd) (wG s.ok) fd] at S1,
PT?,by have e1:Cv t ((Bt Z rs).map (Iu cr))=Ah (Rm! λq=>! Z) t :=Yi cr t (WW.sublist (List.filter_sublist.map _)) (Ff! (s.nn r (Xv! (Dt! hr).1))),
PU?,by have st:JmZ Z Z:=JkD MB.less (λt ht=>ht) (λl hl nb=>by show Cj?;(.show h);.have#[y,_,rfl]:=Ja!;show lQ! nb) #[r,(Dt! hr).1,A!,ht],
PV?,by have sO:ir! m (λk=>UI t qs k)=UI t qs h:=yA hm λk nk=>by by_cases hk:k<m;(.have#[q',G',QQ,_,e4]:=eR k hk;rw[e4];show x.wl.iU (r:=(q',G')) QQ Z);.unfold UI;rw[DY (Z)];rfl,
PW?,by have#[q,eq,rfl]:=As! Qab H H d d hi,PX?,by have#[r,hr,er,_,_,e4]:=Sx pf (ae k hk),JeF,(wA X AB σ tg R),
JeG,(tM K Q2! xG (B0 0) (Cm (ZT! Z) F3)),
PY?,by show#[SB Dw!,Z,I1.laid (t':=s1.toks) (λb u e=>N8!) Bh! ?_,A!,q _ hf],
JeH,#[fk!,I.base.slot,λb ob e n hx=>Z,I.base.there,λb xs e=>?_,Z,λb ps e=>?_],
JeI,B8! CW Gm! "World.free" rq aa! K9 Lw,JeJ,B8! CW Ib! "World.send" r_ lL! K2 Ln,
JeK,B8! CW "deliver" "World.deliver" Mg OY! Lc Ly,
JeL,(by have#[dx,e']:=x.ob;show#[JpJ hb e',Th!];have#[kvs,e]:=x.LY m;rw[hb] at e;cases e),
PZ?,by obtain rfl:=Jjm tl.rep;show#[j,A!,Cy sj,by rw[ez] at kq;show kq _ Sr!],
JeM,EN P w H (h.push (h3! KO! .dict Ep!)) h.objs.size (Z []),JeN,B8! CD "say" "Desk.say" wL k1! R4 R8,
Pa?,by .show#[ft!,r,Z,?_];have e:=r.length;simp only[DR] at e;show e▸hz,
JeO,([(a,NameKind.local),(b,NameKind.local),(c,k1),(d,k2),(e,k3),(f,k4)]:iS!).lookup,
Pb?,by show Ai? Z tt Z te Z AM! [] (OM! (H2=OB! H p ys/\ys=EI! Z i Z)) ES! Z,
Pc?,[o?,dx,_,A!,hp,LB!,_,A!,p,h,W,A!,S,Z],JeP,k a p a1 V! h a3,JeQ,Z c o (I.bL x c e) hc k_ ho (I.KN x c e),
JeR,W.fnOf Gd! qual params body scope dV kV doc pm an FH ct,
JeS,YY! Aa! TP.cl M3.mt G3 hr M3.bd (Jhq KB Z (D0 (OH! Aa!))),
Pd?,by .subst ey;show Ck?;show Z Zz! hd dd.mapOf ?_;rw[<-(rel.val k).MT,<-l];show h _ iv!,
JeT,Inv (QR X sc cl C ig! s1 H1 fp jM) O_ Z H7 Z,
JeU,(Ao (pl:=_) Aa! TP.cl M3.mt G3 GZ M3.bd U! Bk (Jhq No Z (D0 (OH! Z)))),
JeV,Ci p W++(B7 l1++B7 (Z::l2))=(Ci p W++B7 l1)++((Z)++B7 l2),
Pe?,by .rw[Ap!,AF (show b=t from c.symm),AD Dl,c];change _+(Z)=_;lia,
Pf?,by .show Ej? #[xs,xs[i],q,by simp[JK]] (xs.length-v6);have#[e,y]:=y;subst e;show hs i x σ _ (y xs q) p,
Pg?,by show#[Dw!,yx!,_,Z d z! o,_,A!,I3,Z,Z,Hh!,hR o],JeW,#[A!,Dh! (1+v0 % 4),_,Db! (EQ! BN),Q!,Q!,Q!],
Ph?,by show Ja4 (lt:=Z) ho (l! cN UW) #[λi j k _ _ _=>rW,λi j hi hj UU e=>xg (Z) e] (λh2 h' kp Q hQ=>?_) (l! cN h),
Pi?,(by show Cb? (λi m σ H=>m=xs.length-i/\i<=xs.length/\Yp!) IU!;rintro i m σ H ⟨rfl,hi,p⟩;have q:=hl i σ H hi p;by_cases JK:i<xs.length),
Pj?,(by show Cb? (λi m σ H=>m=kvs.length-i/\i<=kvs.length/\Yp!) Wy!;rintro i m σ H ⟨rfl,hi,pv⟩;have fz:=hf i σ H hi pv;by_cases JK:i<kvs.length),
Pk?,by show S? JW (ED (Gd!:=f9! "__next__") hT WA (DB WA hT F.entry_zip_next ?_ (F.args_zip_next_1 _))),
JeX,Z hl AB s σ H R I,Pl?,by have gI:hU!:=λz=>nx _ _ S.hs gm.1 gm.2 KX!,
JeY,by show P?;show MC (Qq I hg hm hv ?_ hn cx);show Z (ix! ha s H I h (λus s1 #[vs,H1,I1,r1,q1]=>hc AB s1 σ H1 vs us Q I1 r1 q1)) he UK,
JeZ,#[BR!,[],S! AM gJ.e,S! AM gJ.nd,JjE,JjE,λb o hb _=>hb],
Jea,LL! (λa q=>Z/\G_ λka t=>f_ h1 a (EQ ka) (XV PP t)/\l0!) as L,
Jeb,(q _ #[_,_,Z,ET _ g (P_ (Z dat _)),Z _,Z,?_,Ok!,?_] is!),
Jec,(Gy! v6).filter b=(Gy! i).filter b++So! (b t=true) [t] [],
Jed,#[I.ok,I.os,IO!,JpN (λb o e n hb hx=>?_) Mg! Wf! Wg! I.base.QU,Z,Z,IN!,I.KN,EU!,tracked #[Z,Z,Z] hs,by simpa using I.len],
Jee,k x as sR uS ex ba v9 (Xp! (ik _ _ (YC _ _ Z h1 h2) h1 Z)),Jef,wQ (Og (VW jJ (B0 i) (ZT! c))) ta tb D σ H,
Jeg,SeqAt.eq_listAt (e:=λ_=>true) l1.isList l2.isList Z (AH K3! hu) (Z) Z,
Jev,∃fs:d!,W.KatTups h (BW! Ds!) fs/\fs.length=as.length/\∀v∈fs,G_ Z,Jew,Jbp Z (l:=Z) (ks:=HJ!) (R:=R) (Aw! Z),
Jex,∀q∈os,Dc! (JkJ G.AL.find?) O! WP/\G_ λa hl=>JkJ JTE=D! (O!,a,hl)/\hl.length<64/\q.2.2.Perm hl/\q.2.2.Pairwise LI,
Pm?,by show i4! x.of gR kM! ?_ I5! Zu! Xs!;show RG?,Pn?,by show#[Z ,p,Z,A!,A!,Jf!,?_,k _ Z],
Jey,(hv _ #[a,A!,#[xs,hl 0 σ H Tm! h0],Z Pv h0 hl hs hd]),
Jez,(Jn6 (A7 (gNx g) GZ Ks! g.mNx.mg g.mNx.fn.kp g.mNx.bd U! A8 Z) (Qf A! (JhY 2 U'.nd (JhY 3 U'.nd Mo)))),
Je0,WI Z Z Z (λ_=>False) m 0 0 0 0 [] [],Je1,(by rw[ZE,GO,Po (s.rk b (BK! hb) hf)];show Bv!),
Je2,w! Cd! g! wP/\BJ! g!/\g!≠X.env.locals/\g!∉X.fs/\∀v,p.2.data≠.cell v,Po?,[_,_,_,GM,A!,FB _,Jgb,GM,A!,Bs ?_],
Pp?,by show ZR (ED (Gd!:=f9! "__next__") hit.typeIs K_ (DB K_ hit.typeIs F.entry_tuple_iterator_next ?_ (F.args_tuple_iterator_next_1 _))),
Je3,Dk Z p pw m n (d+i) Z Z W' D' Z EF,Je4,(kI C m sp SE E ta Z),
Pq?,by .rw[AD c];show F? (x.rc i q G hi t (ht.imp (xA (G:=G) A! A!) λz=>((Cf _ _ _).2.2 t z).resolve_left c) ne);(.show N?);.show AT (h.mono jn!),
Pr?,by show Dz (K:=K) (a:=Z) (xs:=Z) (tt:=Hq!) (te:=Z) (AM!:=Z) (σ:=Z) Z Z Z ?_ ?_,
Ps?,by show CZ? Z (I.turned (Se! Z) f0 f1 f3 f4 f5),
Pt?,by (have:=Vw (f:=λS=>Z) (c:=60) (L:=RC! S) (jp (by have#[k,hk,e2]:=ZN hz;subst e2;show Z)));show Bl?;have:ks.length*60<=12*60:=EV 60 kz;lia,
Je5,Zq! #[ha,c2,i5! g.X2 2 (Z h ta tb G ha c2)],Je6,Z AB s σ H xs us Q I rs q,
Pu?,by .show Az?;show v! #[q,G,i,q,HM,_,A!,hq,Cu!,k],
JfA,by show AD?;have#[i,j,rfl,rfl,q]:=h;show Y?;show BO?;show rule i j t t' s _ _ Z,
Pv?,by show Z x hn hB hd el es p1 p2 p3 cs.1 cs.2 kk Z,
Pw?,by rw[AG (λz=>c (by injection z))];show Bs #[o0,Ok!];show Ea? hx;show k1 c x _ (W2.same s3) (jt.same s3) (λb o eb hb n1 n2 n3=>FK! (jf b o eb hb n1 n2 n3)) Z,
Px?,by show#[p,Z,_,W,A!,HB!,v! #[q,G,i,q,b,G,tb,A!,i.at HB!,eb,Z]],
Py?,by show#[l,A!,#[_,el],Aw! (Ja1 hq el z1 z2 λH2 s2 e2=>#[q,BC! EC,A!,e2,Cw! z1,U1 z2,kq H2 s2])],
JfB,by show P?;show MC (Jm I hg hm ?_ cx);show W.callWith_K (h₀:=Qr!) I.ok.mod.ae Z (ix! ha s H I h (λus s1 #[vs,H1,I1,r,q]=>#[I1.OX,?_])) he UK;show Z,
Pz?,by show Bq?;show(Z x hn hB i cs.1 ay! kk Z),
P0?,by have#[l,rfl,sq]:=Jfa tl.rep;show#[l,_,A!,sq,Cw! sL.1,sL.2,by rw[ez] at kq;show kq],
JfC,(Be Jgz Ks! g.T.uM N_ (HE! Z (Jjt (v:=.ty Q2!) Ks! g.TR.str CU A!))),
P1?,by show#[_,A!,p,LK,_,A!,IU,Dq _ ZV,_,A!,_,A!,p,Z,Z,Z,_,A!,W2,z1,z2,Z],
P2?,by .subst ey;show Co?;show Ed?;show Z (HD hu) mM! hd dd ?_;have q:=(rel.val k).MT;rw[Option.isSome_map] at q;rw[<-q,<-l];show h _ iv!,
JfD,(λH2 a' u Q' tR ha uX q=>by have#[o,g,eo]:=Ce! rV k JS! f ZN! (BK! (tR l (Fx hl) Z)) ha;show Eb? l o g;rw[eo];show O? q),
JfE,x.dr j2 q3 G3 e3 t h3 dt,JfF,λ_=>i3! (Sd.pass s LJ ib sh Z) (Mp Z okM) ?_,
JfG,["enumerate",IR!,Qz!,"dict_reverseitemiterator","odict_iterator","itertools.zip_longest","itertools.pairwise"].contains,
JfH,xI (us:=Z) (vs:=Z) F hr hb hd hx Z Z Z,
JfI,λA outer s H args us vs Q E hr he hb hv hs=>JO (F.run A FX! s H IX! us vs Q Z hr he hb hv hs) Z,
P3?,by have#[s0,eQ,F,hm,sF,ft,hu]:=x.dr j2 q2 G2 ui t2 lI vg,P4?,by show hb wh AB s1 σ H1 Q I1 q1,
P5?,[L?,p,dx,_,A!,hp,Cu!,_,A!,_,A!,p,a,b,Z,Z,Z,A!,Z,Z,Z,?_],
P6?,by .show Ah?;cases ea:as[i]? with | none=>show Bs? ea | some a =>rw[ea] at hx;have hx:LM!=x:=ZO hx;subst hx;have#[t,et]:=iW! ts (by have:=BP! ea;show lt▸this);have ha:=Bf th i a t ea et;have#[bs,e0,sm,IU,WB]:=id pv;show v_ hp hz ht pv et (AC sm ha) n,
P7?,by have#[oi,i1,i2,i3]:=id hit;have#[ob,g1,g2,g3]:=id hm;have tI:=hit.typeIs;unfold pyNext;show S? JW (ED (Gd!:=f9! "__next__") tI JT (DB JT tI F.entry_dict_keyiterator_next ?_ (F.args_dict_keyiterator_next_1 _)));show S? ZS (ZR (ZR ?_)),
P8?,by subst e;show C?;show Ad?;show V?;rw[Fv ZV];show i?;rw[N5 A!];show RT? (Fo W _ ZV),
JfJ,h h' OZ _ a1 a0 (Bz! hS (AV lS)) a2 a4,P9?,by show y! #[h1,_,A!,p,Cc? dx hp Cu! _ A! p b G tb S hb],
QA?,by show W.kat_kind (s:=Bn!) (T:=Z) f1 Z (λv hv=>?_) A! (hQ _ Z),
QB?,[Z,_,A!,p,dx,_,A!,hp,LB!,_,A!,p,Z,W,A!,S,Z],
JfK,by show AS?;have#[s,p,q]:=sorts UV OJ.2;have#[s',p',q']:=Ox UV x q λy hy e=>ZC! OJ.1 #[y,p.mem_iff.mp hy,BB!];show#[s',p'.trans (p.cons x),q'],
QC?,by show UG _ (λrest _ s'=>G_ λh' j=>s'=Bn!/\rest=List.range' j (SA.size-j)/\j<=SA.size/\h'.DictOfH knd d (Ek xs (more.take j))/\JhZ d) _ ?_ ?_ _ _ #[xz,0,A!,Sc,AL!,hd,Heap.SameBut.refl _ _],
JfL,Jf (te:=Jc!) (i:=4) (AM!:=Z) Z A! A! A! A! Z A! ZV A! ZV A! ZD! jL! ZG! ZV Z jz!,
QD?,by first|show K66.bd1 λ_ _ _ _ _ _ _=>rfl|show K66.bd2 λ_ _ _ _ _ _ _ _=>rfl|show K66.bd3 λ_ _ _ _ _ _ _ _ _=>rfl|show K66.bd4 λ_ _ _ _ _ _ _ _ _ _=>rfl|show K66.bd5 λ_ _ _ _ _ _ _ _ _ _ _=>rfl|show K66.bd0 λ_ _ _ _ _ _=>rfl|show K66.bd6 λ_ _ _ _ _ _ _ _ _ _ _ _=>rfl,
QE?,by have lt:Z:=by show EC?;rw[ZE,ZE,ZA,ZA,Fy,ZE] at this;have e:[(Z:Z)].length=1:=rfl;show AA Tq! (e▸(BQ this)),
QF?,[L?,p,Z,Z,_,_,A!,Z,q!,Z,Z,CB! (iB! Z),Z,_,A!,A!,Z,λv hv=>?_],
JfM,(Ac ie! (Cq! (D9 bv q! MG.mt GG hr MG.bd U! A8))),
QG?,by .show(DI! b u e).QE (λc v hc q=>k c v ?_ q) (λ_ q=>q) WX!;show m? hc;(.rw[z];show ko b u e);.show ko c _ z,
QH?,[L?,Od! e2,_,A!,_,_,A!,A!,Z,_,_,A!,A!,Z,l,_,_,A!,A!,e2,Bu (Jk!),?_],JfN,[48,49,50,51,52,53,54,55,56,57],
JfO,[AP!,PD!,Di!,mE!,k5!,k4!,ld!,JnF,F1! wy,D! cv,none],
QI?,by show x? (Z mP! A! A! hc i [] s5 _ H5 Jhh I5 (XW ak) eW Z),
QJ?,by show Ag? (if! Z Z Z Z (λy h=>Z) Z Y3! (Ao (pl:=_) Z TP.cl M3.mt G3 hr M3.bd U! A8 Z)),
QK?,by show#[LO!,_,I.laid (t':=Es!) (o:=Z (fw xs lo hi)) (λb ob q=>F6! q) Bh! ?_,A!,q _ (Qu! (ZG _))],
QL?,by show JP hp (FV (Z X A! A! hc i AB s3 aX H3 X.xe I3 (XW UM) jG Z) ?_),
QM?,by have#[aX,H3,I3,n3]:=q3;have#[m',hm,w3]:=hN aX H3 n3;show#[m',hm,aX,H3,I3,w3],
QN?,(by rintro i x σ Hd hx ⟨⟨u5,rfl⟩,ap⟩;rw[ZH,ZH] at hx;have#[z,hz,rfl]:=Tw!;have#[u,hu,rfl]:=lK!;have#[xs,b,ws,sq,fl,ib,ew,zl,kf,kt]:=ap.step hu tP Z V! (Mi! ((∃u4,FN=Z)/\WO H4 lr ts Z v6 H')) Z λH' a=>#[BR!,a];show#[AG?,lr,xs,A!,W! sq,A!,fl,_,A!,?_];change Wm! (Ac! (! MZ (AA! (Ar u)) xs)) _ _;rw[ib];cases b with | false=>show B3 #[A0? (Od! ew),A!,lr,_,_,A!,A!,ew,zl,kf A!] | true=>show Bs (kt A!)),
QO?,[_,A!,Z,_,A!,p,CW,Z,_,_,A!,Z,v4,Rp!,Ep _,Bp!,Z,_,A!,Z,Oe!,_,A!,_,A!,t,_,_,_,A!,A!,Bt! Z],
QP?,by show Us K h hk u f Z Z G V! Z V! Z Z g,JfP,WR FH A FX! s H vs Q E hr WX,
QQ?,by show Z x hn hB el es p1 p2 p3 cs.1 cs.2 kk Z,
QR?,by have pm:(Z++wv (Ca CU! n Z).map++wv (Z).map).Perm (rg m):=by show List.Perm.trans ?_ Z;rw[A,Z,Bo];simp only[ZF,AO,EZ];generalize Z=P9;generalize wv (Ca a n Z).map=Q;generalize wv (Ca b n Z).map=R;generalize Z=T;(have h1:(P9++(Q++R)++(T++[s])).Perm (s::(P9++(Q++R)++T)):=AY! AY (JH (l₂:=[s])));(have h2:(P9++(Q++s::R)++T).Perm (s::(P9++(Q++R)++T)):=by (have:(P9++(Q++s::R)).Perm (s::(P9++(Q++R))):=by rw[<-AY,<-AY];show List.perm_middle);show this.append_right T);show h1.trans h2.symm,
JfQ,by show x? (Ns! ha s H I h);show At?;show x? (JhM hb);rintro u s2 ⟨y,H2,I2,r2,q2⟩;show hf v u s2 x y H2 I2 r1 r2 q2,
QS?,by show I.step (g':=s.gens) (d':=s.drawn) (ch:=Z) (K6! ?_) (λb o _ _ hc e _=>Z) (λb o _ _ hc e _=>#[o.slots,Z]) (λ_ _ _ _ n=>n) (λb o hc e=>#[o,Z]) (fm!) (λ_ _ _ e=>e) (λb ps e=>#[Ep!,JmS]) (λm hm=>?_) (jl!) IO!,
QT?,[G,n,Z,Z,Z,A!,i.at S,ok,zn,ck,cj,pm,pw,Z,Z,a_,λx as H1 nx ex bk S1 NP=>?_],
JfR,by have h':=KR! h;by_cases e:LI (UV x) (UV y);(.show#[x::y::s,.refl _,DI.mpr #[K5!,h]];rcases ZM hz with rfl|hz;(.show e);.show xB e (h'.1 z hz));.have#[s',p,q]:=Ox UV x h'.2 (jp (ne z iw!));show#[y::s',Lj! p.cons y (List.Perm.swap x y s),DI.mpr #[K5!,q]];have#[u,hu,rfl]:=ZN hz;rcases ZM (p.mem_iff.mp hu) with rfl|hu;(.show xh (ne y HL!) e);.show h'.1 _ (BK hu),
QU?,by have st:=Tl (ls:=ls) (G':=Z) (l:=Z) hi hb A! A! A!;show ER? (Z hi hb hf g0 g1 Z) (EE! (W! ht)) (jP! x.rc.next (λj t _ p=>p.mono jn!) ?_);change 1<=Z\/_;rw[Da];show B? (t=b),
QV?,by show#[o?,C,dx,_,_,A!,hp,q!,G6!,De G,BG!,A!,Ss! (W! S.dr),_,A!,_,Z,?_],
JfS,Z (tt:=Hq!) (te:=Oh (Ex) [] E0 S4!) (AM!:=[]) (OM! (Ha!/\HS!/\lk! Gy! Ar)) #[Aj hp,Ab,A!] (λi ys H2 _ h=>#[Z,h.2.1]) (λi x ys H2 N hx h hN=>B3 (step p hp i x ys H2 N hx h hN)) (λys H2 h=>AD! p ys H2 h),
QW?,[p,x,Z,_,as,_,A!,W1,ex,W1.YI ex gI,bk,zb,zl,λy L H2 W2 b2 QN gH gG ey=>?_],
QX?,by have ne':Z:=λz=>ne (HO! Z YB! Z);have fr:=qR PY;(have hX:S2! { W with c:=W.c,ls:=RV!++[],GV:=Kj!,IB:=W.IB }:=S! AM W2);have#[wi,tG]:=JrK [] D Z N4! x.wg (λ_ h=>h) U! Z A! (jp (R8! hz)) (λ_ _ _=>rfl) km! (λ_ _ _ hz=>R8! hz) (λ_ _ _ h n=>DF! h n) Z (λe he=>W! he) (CB z5) Z;show k _ _ D _ _ H2 ?_ ?_ wi tG A!;(.show hR v [] { W with c:=W.c,ls:=RV!++[],GV:=Kj!,IB:=W.IB } _ _ _ A! (Nv.zero (AM _) A! A!) gz #[y,_,i1,i2,[],ey,A!,A!,A!,A!,Z]);.show rZ ey A! A!,
JfT,#[_,A!,q,HM,_,A!,hq,Cu!,_,A!,_,A!,q,b,G,tb,wt,A!,i.at S,e3,Z,dn],
QY?,[h,_,A!,p,dx,_,A!,hp,Cu!,_,A!,p,a,G,ta,A!,S,ha,Z],
JfU,(Jp (dd:=Z) g x1 hn hB hd cs ok (λv dv W' D' al' EF H2 tl ef wi fr fp eh=>?_) bad b eb),
JfV,λy L W' H' q G hs os rs hi tl nw e ey=>JoY #[l1,l2,t,a,_,b,el,es,ll,nw.toNv,A!,nw.fi,Z,Z,Z,Z,Z,Z,Z,Z,A!],
JfW,h h' #[ge,gT,_,a0,Z,Z,Z,k1,k2,k3,h4.set,by simp[z1],Z,k5,k6,k7,k8] #[λb o q m n=>k9 b o (Zl! n ge) m Z,λb o q m=>uK b o Z Z],
QZ?,by show#[_,A!,_,A!,p,CW,dx,_,_,A!,hp,v4,G7!,Dy W,DS!,_,A!,JmU,_,_,A!,A!,_,A!,?_],
JfX,x.got i (ls:=Z) es p1 p3 W2 (Ie! Jn1) (K6! Yw!) Jhc N4! Jha (EE! (W! (O3 mem t ht))) wg st Z Z Z Z mu (EE! (Jgj ht (x.ma.lt _ hl))) (λl h=>Z) (Nat.le_of_ble_eq_true A!) Z (λOV=>x.mF Uf OV (xC es) λt ht _=>ht) cA cB k _ λ_ c e=>hR _ _ _ _ q G _ _ hi (CB! (Bc! Z)) c e ey,
JfY,Jyf m W W' a b SZ ys EF H' s g Z u DW! S,
Qa?,by have lt:=JmD;show Z (K:=K) (a:=l) (p:=p) (xs:=LG! BW!) (AM!:=AM!) (OM! (lx! i ys H2)) (LG.start hp) (λi ys H2 _ pv=>?_) (λi x ys H2 N hx pv n=>?_) λys H2 pv=>?_,
JfZ,#[1500-v6,Q!,ww,W',D',SZ,EF,x3,y3,_,A!,A!,Q!,T3.same s',j2,(mv.trans jP).post (Ai s3 s'),Z],
Qb?,by show#[Af? iy,_,A!,iZ,Ce _ ZV,p,KQ Z,n,rs,A!,bN,a_.KQ,zn,ck,Aw! (cj q jI!),pm,pw,λx as sR hx ex ba v9 ik=>?_],
Jfm,∀vs H Q E,ZE! sp->Bd P w K mg B3! Z Z N ps qual st f k vs H Q E,
Jfv,(h _ #[ge,oe,vs,a0,T,_,_,(CC _ _ t3).trans Z,h2,h3,h4,t1,t2,t3,ET _ t4 (KD (FF t5 _)),FF t5 _,by simp[hsz]] Z),
Jfx,(C8 (tt:=Z) (te:=Jc!) (AM!:=Z) A! Z A! ZV A! ZV A! ZD! (λy h=>FX.QX BR! h) ZG! ZV Z jz!),
JgA,k v Z D Z ys H1 (hr Z #[#[A!,nu,ec,A!],A!] A!) (w_ Uf nw) (x.VE (SZ:=Z) Uf W1 wf nw tk md mk ou (l! e wg) JnB Z Z (Dt Z (As! Ea f LL.w R (NC H1 W.GV) lw)) ?_ ?_ Z hc K5!) (mO wf) A!,
Qc?,by rintro i rest b s' ⟨h',j,rfl,hr,hj,VX,sb⟩;(have lt:j<SA.size:=by show B? (j<SA.size);(.show c);.show c? (TM (IV! c));cases hr);(have er:i=j/\rest=List.range' (j+1) (SA.size-(j+1)):=by rw[SV! (SA.size-j=(SA.size-(j+1))+1),RA] at hr;show List.cons.inj hr);have#[rfl,er]:=er;have go':w! Me! o oo:=(sb.2 o ne.symm).trans go;have#[x,hx]:=Jmj DO!;show ZR (DK (s:=Bn!) go' UC ?_);rw[entry_at bX i,hx];have kx:=knd.keeps (YZ x (ZP hx)) gd YD sb;(have zl:DM! (Ek xs (more.take i)).length:=by have h1:=Nq (more.take i) xs;(have h2:A1! more.take i<=more.length:=S! CO (MV _ _));lia);show S? EO (Tz (s:=Bn!) room kx VX zl λh2 hd2 kX=>?_);have go2:w! h2.get? o oo:=(kX.2 o ne.symm).trans go';show ZR (GY (s:=JPa) go2 UC ?_);show AU?;show ZS #[h2,ww,A!,er,lt,S! (Rk xs DO! hx) hd2,sb.trans kX],
Qd?,by show Yf (ow:=Z) (bd:=Z) hc hi OF LX LC LF LJ has QW ?_ ht he I h AD! hs,
JgB,yG λnm q N bs bm hdct sn sub=>sX λab col dd k0 k1 k2 k3=>G_ λk5 mN=>ZO! C (excClassObj nm q C N bs bm hdct sn sw ab col dd k0 k1 k2 k3 k5 "ValueError.__new__")/\h.Ns N mN/\B7! mN fy!/\OwnTail h j5 bm,
JgF,Gl (Z) w K mg C CW CP CI CD HE NH QS SF MI NW NL NR FA ao R5 Qz bF Wp V9 Ww W0 Zj Y9 Wv V4 Yz Zf Y1 Y7 Zb Zl Zg Zk Wo Wq V3 Y6 Y8 Y0 Zc Zd Za V1 K9 K2 Ld Lc K1 K4 Yy Kz K3 K8 K7 La K0 Ze Y5 Wx R6 Zi Zh Wn Wm Wj Le Lg Lf K5 Lh K6 V2 Y4 Q1 R4 Wb Wy Wf Wr V6 Y3 Y2 Vy Yx Wh Wi V5 We Wc Vz V8 Ws V7 Wa Wz Wu YT bK Xl R7 bJ Xz Xk X9 Yd Z8 Zy X8 Xf Zo Z4 Zq Zw Z0 cU Z5 Z9 Xy X0 Xe Zv Zx Zp Z1 Z2 Zz Xc Lw Ln Lz Ly Lm Lp Zn Lk Lo Lv Lu Lx Ll Z3 Zu Ya Xx Z7 Z6 Xw Xv Xu L8 Ma L9 Lq Mb Lr Xd Zt R9 R8 Xn Yb Xq X5 Xh Zs Zr Xa Zm Xr Xt Xg Xp Xo Xb Xj X6 Xi Xm Yc X7 YU,
JgG,wH P w K mg B3! C CW CP CI CD HE NH QS SF MI NW NL NR FA ao R5 Qz bF Wp V9 Ww W0 Zj Y9 Wv V4 Yz Zf Y1 Y7 Zb Zl Zg Zk Wo Wq V3 Y6 Y8 Y0 Zc Zd Za V1 K9 K2 Ld Lc K1 K4 Yy Kz K3 K8 K7 La K0 Ze Y5 Wx R6 Zi Zh Wn Wm Wj Le Lg Lf K5 Lh K6 V2 Y4 Q1 R4 Wb Wy Wf Wr V6 Y3 Y2 Vy Yx Wh Wi V5 We Wc Vz V8 Ws V7 Wa Wz Wu YT bK Xl R7 bJ Xz Xk X9 Yd Z8 Zy X8 Xf Zo Z4 Zq Zw Z0 cU Z5 Z9 Xy X0 Xe Zv Zx Zp Z1 Z2 Zz Xc Lw Ln Lz Ly Lm Lp Zn Lk Lo Lv Lu Lx Ll Z3 Zu Ya Xx Z7 Z6 Xw Xv Xu L8 Ma L9 Lq Mb Lr Xd Zt R9 R8 Xn Yb Xq X5 Xh Zs Zr Xa Zm Xr Xt Xg Xp Xo Xb Xj X6 Xi Xm Yc X7 YU]
def ZV{p:B!}(h:p:=by show Bt?):p:=h
open PySem PySem.Spec PyProof.Rows in abbrev ZR:=@wpAny_bind
open PySem PySem.Spec PyProof.Rows in abbrev ZS:=@wpAny_pure
open PySem PySem.Spec PyProof.Rows in abbrev ZT:=@Heap.get?_push_of_some
open PySem PySem.Spec PyProof.Rows in abbrev ZU:=@Heap.get?_push_size
open T ODooJLWWmuk BcZORHhLEDvx ydOuVALAzrj BEHeCQhkKoka BaDBavAGaURO CDFopEEmNXsp BsTtWpzZQnWQ pDKtVulHSYm CItLGXyyEnmw ScnckKurMpU OGsuImjPOhv BygnbRoIiYCK BPuUBQUJObyD BJktATxtHVER CGpQHgDYZxnw BaVTgaiCzdPs VddjStJXinr CMSAtSBtEmpV BRafcyPUEYg mtOGxCrMvcK CWuUemFNqGgD PeblKRTAyiP bGvkpZwncjG BzTfaCbzqKUO cFFxSqagoqD CMksLNUMyZsS CKOXsWsdtpLv BsEeWFlgmVUH HzxDyMgCWxb RkTXrzUevj BSbFAGSefeOx BusVZyBqhLNR BPtLXuBlWZVR kMoxtLnJrJd uHqkQEmhdGE wrzOtJeLrmk CUpSCadiScFk BgHbhLFcBxiw BZrwQbTNVwPs RBihGZPAyoH fhlyCDVUtfP VkwKJIqHfIl BMstnBGqlfYG braYOJoVrij thofRlJZjrJ WUSWiGTOtVS takgVMbireE BYZtMvOYdaHu iNxcWcRBsQF BUazhEUjTmOk BQSvbNmWPFfl BcYyhPqKpajE xTIuNdIejph BFjolNxFfnrK BPUmvTAJJKw uuNxExvFUSC CBBMIbXlDSxy CEyFRSHAEUim BeEMkCAtgPYA BwToGKdhNjCs FDyUoRwwUkk BraAyKcQjYVv BrLDPDejNzuh ycTAUMqAtnL BEZVJPFSLAMt PlRBkFkHwMS XUGDoQReuEj BwdFCeKiIBDG iYMTFfPdglS BJZyIFAgPMAV COgrZHnktP CCdcEEUtMCKy BHfEkQKXfxkI DiNCCpCnIgf FszLFUcPpTB anTQqQmzwPa CEmVpPwefMCF skNMlnXPzIh CGOKUKrlmpmm BpeshaJFTlad BrujOOLveKlC YsALrrLpSpC BXjjHjjkiWYb CEsYsMCSwrhi BTKbcuLXyGlM BEZMyeADoUwH BXUvhMnRTdze BzRLMtVDEFBG WtxjXqAkGPz BSiQZywxzgdG BFEEMcOXJLsi BlSmPMsxATXd BDtTceqPHbsT FFZlWCVVmos lndxBCSJmQ IbOTMrTjjzu CKOhYwZocFwJ BFWNpLlBnwtW GqxHOwqulxe BwUIrixJmUPL CSqlZFYxGCWE BYbiWGEgYmOn CApABoDgPoFd BmGopBOWosvu BXKBUAtupkAv fhnecTcjFiJ vEtVAmKGTXb gqPVloEGRYf BUEdOqjUbnTR CRHPdYjFjbpG BfJoNbrblgKr cTSEonXExxr YvdSaSNNYkb BvQOdznbkTUc CHVyyxhHWAXu CBFzEfCAIuhJ qnYgDHPRmjk CLsENsyQITxN CRAbrDMdQKRc xVuwPQjSadG yZlwxykRpPV BDHwLZqKjMGb CfbdLoREyHf BrXgaeSVdFdS BkREPRRcRHft sDAUFoggJEq pLqZICrBNrg JmfYnoBjICn FiWOMNETNFU BgFYcOILfPor BcgfSVrhtMnR BVtFUkqMVKer BMMVkjGobbYL BmYgBpYvTcVo BjZAEiBGYtvX TveArXqLzAt WWNCVcodAfo BDgIoFPLjxOk CHCHmfJYXgTU TtRMAGcLqDc BZUkJEZeavHb ByeatSzmtTge pBVhzMDWqXB CHYCeDBdsvJo WTOQEDovMpE CKWViuMjcyEd BfVIamEwdtQG oQABaWuBAWc BdjGBDSTYhqV BYZQKprWcgrb BptkGWEVgMfN BhupOHGUIYXN BeCrPZuCichy CUwfXHUSLVKw jBJPhNpCuLF QkKcSqoEZhw EJwKeRVnLNy nZfKGQCigKC hWGwKTvrILZ BDoUirlquWAR BAxoaufcoGXM vfMtgknLaPf CFMvNBLfjEAF CNzYTAslkXae BeupfTMeQFMH BrVDcHDIInlZ BzfWxdHkFLYS BAPQaHqAxrqm nnwwNhxvPDl BaSYuGcarSnb BbqfPWKtUYER BZtRmYVzWrcb CUbBNZaBIYcW BsjUbpNyLVmT BRiLiuQgsSdE BMBKGrnJhSOk JDvcjJZjhtz iHHuEBjsiZY BDGRwvKOrtEY CJRzsFmtfmmO sSIVeNlUMmY CBlSgQdTXUKX BRdmXGPyTErk BCToApWrAbSl BsqfRKOFCqjD BGvIKOjUBKip EIWbOYkVysQ wGLHNWGtZie BqQMpagjRrBV CRynARCCGQCF YZzJEupIuXd zmcoGIVfYzV RXEYKttxLrw BgJgVLKWCHOC BhrADQOHIpNU BCTtuISmLhuw sCMKiIlrIYX BUbIjzhQzdVN IbCWKOjrByQ MKjvmFqPJwW FounPPVvpGu CCQtxEdFxOqy BEvFOYJxfVkO nBAvaseRDbK BNheuGeTnoEs sRNlBRiVSYt BJjToukKqAQZ BOPHJXKlrbHF HtbHnEtspMJ BLEHKpjGVQvQ BZIVUxNMxjuQ BytEDPrmlQNr BXAnutsxTcux UZGZUnwSWey aMYxekztNER BgabWVtIDSjd BHGEfQFxZWeU EicDIyvcCwU PLYihzBAVxS gSAGpqrkjkH BTmQebjsMJOJ BBnYudeuGuwu ByBPjzlGFvgr CFwdjgKIskVh CKwZzlZZMlEB BjmkwHTWqMub gVrjRumIWnL CBNIjqFANEfB BhDvIvkUzeye ywtbxEFAfzE CMrbWcCAIvjA QHJjtVyiheF LAknZouDMco CMLYrGduCrup JpwiQtzfoGZ BdXHkLRUhVBF jiwEqNxMXxQ CFsNDvlROAeA BCmSHHdlxlMW ulGRwOQkqJL BVapXDBZFXIc BdNoRuqAmxlY BiYGRYVbvCIW BJUVslTAVHc CDiqfDRtHBZQ BVVpRoQNbtzF XzqfPeJdtfw BkQHvgCYVIhq CFpbQlunnLsn uKRFzAprHIR BUqDAIOOZnWl BGPVEudjqipO fCkmUVJfQJe CUJdQVUeJlUH vMfLiHHwyAX RsjMKxtSXHK CBGAdHrMgyTt CAFOJwGikOva SwVcsWibnuy QdvXnOBITZl BAhpCTBxlKvm KRfqAuHIsNo LliGGEeLVgy CEgrshnDcWuy NPFNejOFsfu MCOlpAUwTWh CXJOucQHcpJR dnJnqwyeQWX ZzNKntPDahL CULkcsmesYHR BTSKuuwZqejL bLgvGzYYyeT CHWwRwAPUIeV yAtgoTZWklX BTUlSlStsPbl CFkOmICCBRwj MlkLXZMntQg BVxVPVfUVPDi BSxDbRkEgzNs XisPKPTknOf BcgWnAyFNniT BlxhvVmFTcXV nMGmTjKuwWy HZjxKPplXld qrhsiuxPaqd BrsnfrOiXxRu gZeBkFIMTsT BwIloYemHCGl BSQXGKAProku VHfMLMANqzF BshIwYOgwXdr CUrunZIKWdkf BZfzPltmQsFC BnLmpDZWfcxz CHNlXNaNCVex BYvdpduFQnvB CMZRZzmRlyKe wMvDvIdnqOh RGiVtpiQTbK VyWJptJkJYI zRAmeIuUenK QxXtNGMLLne ifXdWFDlstc zMMPpanbyJe VxcIHmmWmIy BkwztGZdWxqu CFkslEMRMIor ByGfbOFkjCBU BhYvmVPiCaEU BvOkSZBcnkdU CJnqkqAFHqWc BzhrfjrttOGB OYjZmzdOitk BJkfYbLIQDAs CHSQvAyPPOdZ EyYqOlRaeAo iKATwXBjXKS kHTVCVRntyA BwEAnUKeESdS BrkPIcBecqGr NfKFohMNxIu fIGuFHgCxtj BuFMLZRWcLMU BauXhlIHRPMu BmnBblBZTNXL BsccGVSKuCNE BNqTwOEVhpqt iitQMlBONpb COgSWIrKUUZG CGNtrFbklOPF BbOPgnXWPTzh fQBooacAaiK BltcFQjoHbkR CQjQIwZTtkJU BgmIrVcZLQcB BhrRCvDNZuFI UwlmIPysVZs zTgMtxrHFkk BXfenPSmvWKj EfoSQNezxGX gCLiWzyYZCx tvEqSdqPJrn BlVQZMvyNmDX dZXwOUTiBQA pmiIpNtxmya CUxULYEYJPrL BjHLkkBvPksJ CSeAWwvfSqGJ sjeEBCHrKhR BqEtpkXyaabz BjTmZlKjdCXx BlRoOwHoxxIm BTSJaTlNhzmG BqVCXfhFmgC BkNrwxkCOHXT BKfUHgozzlZc BYnoDkhtrVgM BgHKfzzeWVNG BPHNCAdbfcmk CAqfasPyGfUN CPSrOsmJPesE BUTcckHCtHfu CMrRyOhPkXKP NPCofjYlapk raNAeNaqTwN BhylMtxrYUSH COCeppZOeWDd CAfdtvEiqLqs CNMjQruQlKvf SOcNccWFmXW BYPpLcWcXlzw BiUHMYsFJVPO CXGqvCoBCrwZ CFsOYLbJqYUK BlmqOYrUbxDA FWYYsXofQxF CWwSFFhyWtjY CTiXxuCtSGgv BlZipWzaXhsG MqaAiYRnRVO BsZySABpWnnO BIAzNLDCbHIi CJkkXQLFsbNK CnZOkCjLMEP BUslYWyMMTOm BFSRRTDfkJGJ BLzjgswcbmvz BhtlbnArfmLM BFIWIysVCXhZ BDsMsSbWqfRa BeiMSQVQagbP BLWdkffMGUtL RHuJWACitWZ wOsbegzzdbU ByGjchHdAhBE QGkQeYjYltQ TBesEHnrTkT CTQqrUDhHGZe BtXaJaBVpzir BtGHTMEBvXhK CMCCJVaBZYFE BihzAVWeQSED CJeXALomRmGG BHriAyqUwLqq QXsipwKULXE spCxJAgTZhE CTwpmwPyNKxE BpRMepXyVXPc mPKimZBddMY OSwMiOscZPK NDaRnfzXojc BrjLcWWbcpCX gpNatoAugXn GOhqwhBVbud CWnQzNQXRLIT BDwHIbiUIRjU tSsjIyWPOin CAqYiqYTKUwY CWxgsACKHPoZ xvJxdmWgKVa BUSLANHmVBGN nLgARyZaWla UwKitvKuBDa oYrzyWheAK BGEefetEHESf BZMmWcabdvfe aSreSrHjXrL VbvBuVtdxQo BDSmeIzRaYAk RkVlEqDGNfw BHnhgnfWrdma BaBecbznytaX BFgZdyfaacGQ VnLByvjuaat BpPuaRXeMXJJ lsNJWwLEMiI CLRnowTTsXYf BswwKjamTFK QYNTZGfZZtz kERWmQUAYfg BBMzEnJtahZz inaOonsbGIx BrYfVVitzQow BMpCWXGqNNxy BTCivWzrSSRJ CFDZLcQcVTdW TmxGVAcxiEl CsPJWoZHxvO BSLxRQmMbgYg CJySijtAChTO BXxRUrBaJsaM CBWuQmYpJTbm BmgtNLGCkmji mArpXcgCvtk BRnFtXuCPLKB BLJtyGDDYNRj XKzHGntRVcQ BfzrrJdRnokf CQKApukRhHIT ltJqGPIBqXk CVtMJKLnDEUv tfdojhxTTgy KAndsUzHfUH OrhHglxxJIk BLUHiPxfBWuF QwmaTXMbbYP cfYWoEoFWno xlmZyueEMbF CQwLMhgShoyf BjRuErzOwlvw SvfIZekhaeK BOPrmiMesvju BgtZKDiglzUB BpVkMIdLIWmD uhCWByviuMO BXmkvGKCXZwH BvdmOBtLAORP BdJnflAuKTsA LcoZsAkYAXJ CMWLECLUsLCX
def ZA {α β : CI!} {as : T!} (f : eZ!) : js! f = as.length := List.length_map f
def ZB {α : CI!} {a : α} {as : T!} (bs : T!) (h : a ∈ as) : a ∈ WQ! := List.mem_append_left bs h
def ZC {α : CI!} {b : α} {bs : T!} (as : T!) (h : b ∈ bs) : b ∈ WQ! := List.mem_append_right as h
def ZD {α : CI!} (y : α) {a : α} {l : T!} (h : WR!) : a ∈ y :: l := List.mem_cons_of_mem y h
def ZE {α : CI!} {as bs : T!} : FG! WQ! = as.length + bs.length := List.length_append
def ZF {α β : CI!} {f : eZ!} {as bs : T!} : (WQ!).map f = BW! f ++ Qm! f := List.map_append
def ZG (n : Nat) : n <= n := Nat.le_refl n
def ZH {α β : CI!} {f : eZ!} {as : T!} {i : Nat} : (BW! f)[i]? = as[i]?.map f := List.getElem?_map
def ZI {α : CI!} {a : α} {s t : T!} : a ∈ s ++ t -> a ∈ s \/ a ∈ t := NY.mp
def ZJ {α : CI!} {l : T!} {i : Nat} {a : α} : l[i]? = D! a -> ∃ h : i < l.length, l[i] = a := List.getElem?_eq_some_iff.mp
def ZK {α : CI!} {a b : α} : a ∈ [b] -> a = b := DM.mp
def ZL {α : CI!} {a : α} {l : T!} : a ∈ a :: l := List.mem_cons_self
def ZM {α : CI!} {a b : α} {l : T!} : a ∈ b :: l -> a = b \/ WR! := BO.mp
def ZN {α β : CI!} {b : β} {f : eZ!} {l : T!} : b ∈ FS f -> ∃ a, WR! /\ f a = b := AN.mp
def ZO {α : CI!} {a b : α} : D! a = D! b -> a = b := Option.some.inj
def ZP {α : CI!} {l : T!} {i : Nat} {a : α} : l[i]? = D! a -> WR! := List.mem_of_getElem?
set_option autoImplicit true
set_option Elab.async false
set_option maxRecDepth 100000
set_option maxHeartbeats 4000000
inductive G_{α β:IN}(p:Ek!):B!
 | mk (a:α) (b:β) (h:p a b):G_ p
inductive LW{α β γ:IN}(p:α->Ay! β γ):B!
 | mk (a:α) (b:β) (c:γ) (h:p a b c):LW p
inductive V_{α β γ δ:IN}(p:α->β->Ay! γ δ):B!
 | mk (a:α) (b:β) (c:γ) (d:δ) (h:p a b c d):V_ p
inductive bO{α β γ δ ε:IN}(p:α->β->γ->Ay! δ ε):B!
 | mk (a:α) (b:β) (c:γ) (d:δ) (e:ε) (h:p a b c d e):bO p
inductive yH{α β γ δ ε ζ:IN}(p:α->β->γ->δ->Ay! ε ζ):B!
 | mk (a:α) (b:β) (c:γ) (d:δ) (e:ε) (f:ζ) (h:p a b c d e f):yH p
inductive sX{α β γ δ ε ζ η:IN}(p:α->β->γ->δ->ε->Ay! ζ η):B!
 | mk (a:α) (b:β) (c:γ) (d:δ) (e:ε) (f:ζ) (g:η) (h:p a b c d e f g):sX p
inductive yG{α β γ δ ε ζ η θ:IN}(p:α->β->γ->δ->ε->ζ->Ay! η θ):B!
 | mk (a:α) (b:β) (c:γ) (d:δ) (e:ε) (f:ζ) (g:η) (h:θ) (h:p a b c d e f g h):yG p
set_option linter.all false
open N Lake.L2
open PySem PySem.Spec PyProof.Rows
@[reducible]abbrev Key:=Sum GE Str
abbrev kJ:Key->IJ!->A8!
 | .inl k,v=>Value.isInt k v
 | .inr x,v=>Value.isStrOf x v
abbrev Jxe(w:World):Key->GE
 | .inl k=>hashInt k
 | .inr x=>hashStr w x
def Cw:∀{k:Key} {v:Value},kJ k v=true->(G_ λi t=>k=SD! i/\v=fU! i t)\/(G_ λx t=>k=En! x/\v=WS! x t)
 | .inl i,v,h=>JOm Value.isInt_shape k i (W! #[i,t,A!,e])
 | .inr x,v,h=>JOm Value.isStrOf_shape x x (v! #[x,t,A!,e])
def Jlv(i:Int)(t:Tok):kJ (y! i) UB!=true:=by simp[kJ,Value.isInt]
def Jlu(x:Str)(t:Tok):kJ (AT x) (FB x t)=true:=by simp[kJ,Value.isStrOf]
def Jvn(a b:Int):JpT Bm! Bm!=(a==b):=L0!
def Jvk(a b:Str):JpT En! En!=Go (a=b):=L0!
def Jvm(a:Int)(b:Str):JsK Bm! En!:=JOf
def Jvl(a:Str)(b:Int):JsK En! Bm!:=JOf
abbrev Bp(prog:Program)(w:World):PySem.KeyKind DC! w Key where
 is:=kJ
 hash:=Jxe w
 inj:=λv a b ha hb=>by
  show Dw? (Cw ha)
  .show Jh?
   .show Em?;rw[e1]
   .show fV!
  .show Jh?
   .show fV!
   .show Em?;rw[e1]
 byValue:=λk v h=>by
  rcases Cw h with⟨i,t,rfl,rfl⟩|⟨x,t,rfl,rfl⟩<;>rfl
 pyHash:=λhv h=>by
  show Dw? (Cw hv)
  .show wpAny_pyHash_int h
  .show wpAny_pyHash_str h
 eqBool:=λhu hv h=>by
  show Dw? (Cw hu)
  .show RX?
   .rw[Jvn] at h;show fW! h
   .rw[Jvm] at h;show wZ! i t y u _ _ _ _ h
  .show RX?
   .rw[Jvl] at h;show wa! x t j u _ _ _ _ h
   .rw[Jvk] at h;show wpAny_eqBool_str h
 «strs»:=λk x t v h=>by
  rcases Cw h with⟨i,u,rfl,e⟩|⟨y,u,rfl,e⟩
  .show fV!
  .show Em?
   subst e1
   cases v<;>rfl
def Jf7(prog:Program)(w:World)(i:Int)(t:Tok):JSW y! i UB!:=Jlv i t
def Rj(prog:Program)(w:World)(x:Str)(t:Tok):JSW AT x (FB x t):=Jlu x t
set_option genInjectivity true in
inductive V where
 | FJ|bl (b:Bool)|int (i:Int)|str (x:Str)|XN (b:Array UInt8)|fW (b:UInt64)|ref (a:Addr)|ty (n:String)
 deriving DecidableEq
abbrev RelV:JIA
 | .FJ,u=>fX!
 | .bl b,u=>JDl
 | .int i,u=>UD!
 | .str x,u=>eQ!
 | .XN b,u=>JIX
 | .fW b,u=>JIY
 | .ref a,u=>JhA
 | .ty n,u=>JsN
@[reducible]abbrev Vals:Ay! C! d!:=Lp! RelV
def Vals.length(r:Hp!):xs.length=us.length:=ol!
def Vals.get{xs:C!}{us:d!}{i:Nat}{x:V}(p:Hp!):Sa!->∃u,us[i]?=D! u/\Jh!:=by induction p generalizing i with | nil=>intro e;simp at e | cons r _ ih =>intro e;cases i with | zero=>cases e;show O? r | succ i=>show ih e
def Vals.append{xs ys:C!}{us ws:d!}(p:Hp!)(q:DD! ys ws):DD! (xs++ys) (us++ws):=JZC
def Vals.take{xs:C!}{us:d!}(n:Nat)(p:Hp!):DD! (xs.take n) (WT! n):=by induction p generalizing n with | nil=>cases n<;>show U! | cons r _ ih =>cases n with | zero=>show U! | succ n=>show am r (ih n)
def Vals.drop:∀{xs:C!} {us:d!} (n:Nat),Hp!->DD! (xs.drop n) (us.drop n)
 | _,_,0,r=>r
 | _,_,_+1,.nil=>U!
 | _,_,n+1,.cons _ t=>Vals.drop n t
abbrev RT:Ay! Lg! Kw!
 | some v,some u=>CF!
 | none,none=>True
 | _,_=>False
abbrev KV{κ:IN}:Ay! A7! bw!:=Lp! (λ(p:κ×V)(q:κ×Value)=>g!=O!/\ED! wP PP)
abbrev kV:Key->V
 | .inl i=>K9!
 | .inr x=>wE x
set_option genInjectivity true in
inductive HO where
 | BM (xs:List V)
 | BV (xs:List V)
 | dK (kvs:List (Key×V))|dT (kvs:List (List Key×V))
 | set (S:Int->Bool) (n:Nat)
 | ins (C dx:Addr) (fs:List (Str×V))
 | own (x:Addr)
 | xd (fs:List (Str×V))
 | met (f x:Addr)
 | ph (lo hi:Int)
 | IC (o:Obj) (u:HO)
 | cX (ps:Array Value)
 | ext (φ:Heap->Prop)
@[reducible]abbrev Hp:=G!->oL!
abbrev upd(H:Hp)(a:Addr)(o:HO):Hp:=λb=>Te! (b=a) o (H b)
def Ab{H:Hp}{a:Addr}{o:HO}:IR H a o a=D! o:=by unfold upd;rw[AF A!]
def Ad(h:b≠a):IR H a o b=H b:=by unfold upd;rw[AD h]
def Iw:IR J5! a u=IR H a u:=by funext b;unfold upd;split<;>rfl
def Ri{H:Hp}{a b:Addr}{o u:HO}(h:U0!)(h':LF!)(d:o≠u):a≠b:=by intro e;subst e;rw[h] at h';show d (ZO h')
def Al{H:Hp}{a b:Addr}{o:HO}(h:U0!)(h':Bg!):a≠b:=by intro e;subst e;rw[h] at h';cases h'
open S
variable (P:Program)(w:World)
abbrev EN(H:Hp)(h:Heap)(a:Addr):Kv! HO
 | .BM xs=>JRh (av!/\JR! { cls:=EC! Eo!,data:=IL! CJ! n })
 | .BV xs=>IK!/\∃its:d!,av!/\IsTup h a CJ!
 | .dK kvs=>s0!
 | .dT kvs=>kU! Zb! (∃xs:IH!,
  LL! (λ(p:List Key×V)(q:List Key×Addr×Value)=>JaI) z! xs /\
  LW λo es ep=>lN!/\o.ExactDict/\O2!/\es.toList=Cb! (Qn! (WV! Y8!))/\EH! Cb!)
 | .set S n=>h.SetOf (intKind P w) a S n
 | .ins C dx fs=>JIl/\JsU/\dx≠a/\JR! s4! /\
  ∃mA,u8!/\(v9!)/\JaP
 | .own _=>JsX
 | .xd fs=>∃mA,h.Ns1 a mA/\v9!
 | .ph lo hi=>LW λt u v=>JR! (h3! WW! Mc! (#[ZZZ,TB! lo,XV hi u,XV 1 v]))
 | .IC o u=>lN!/\EN H h a u
 | .cX ps=>JR! tV!
 | .met f x=>JR! (Hb! W.methodObj f J0!)
 | .ext φ=>φ h/\(JsX)/\∀h1 h2:FS!,φ h1->(∀o,JD! Md! o->JD! h2.get? o)->φ h2
abbrev OK(H:Hp)(h:Heap):B!:=∀a o,U0!->qm!
open E
open S
variable {P:Program}{w:World}{H H':Hp}{h h':Heap}{a:Addr}{o:HO}
def EN.lt(x:qm!):wu!:=by cases o with | BM xs=>have#[_,_,_,_,e]:=x;show Bk! | BV xs=>have#[_,_,_,p]:=x;show p.lt | dK kvs=>show Hm? | dT kvs=>show Hm? | set S n=>have#[o,_,_,_,e,_]:=x;show Bk! | ins C dx fs=>have#[_,_,_,e,_]:=x;show Bk! | own y=>have#[_,e]:=x;show Bk! | xd fs=>show G7?;show Bk! | ph lo hi=>have#[_,_,_,e]:=x;show Bk! | IC ob u=>have#[e,_]:=x;show Bk! | cX ps=>show Kk? | met f y=>show Kk? | ext φ=>have#[_,#[_,e],_]:=x;show Bk!
def Jw1{R:Ek!}{S:Ay! γ δ}{f:α->γ}{g:β->δ}(h:d1! (S (f a) (g b))){xs:T!}{ys:CE!}(p:ID!):JXn (Cb! f):=JMX
def Jtn{R:Ek!}{S:iT! δ}{g:β->δ}(h:d1! (S a (g b))){xs:T!}{ys:CE!}(p:ID!):JXn xs:=JMX
def wm{R:Ek!}{f:α->γ}{g:β->γ}(h:d1! (g b=f a)){xs:T!}{ys:CE!}(p:ID!):FT! g=Cb! f:=by induction p with | nil=>rfl | cons r _ ih=>rw[AO,AO,ih,P! h r]
def q8{R:Ek!}{as cs:T!}{bs ds:CE!}(p:ez!)(q:JRI):JTn:=JZC
def Ju5{R:Ek!}{xs:T!}{ys:CE!}(p:ID!):∀j,JZO:=by induction p with | nil=>show λ_=>U! | cons r t ih =>intro j;cases j with | zero=>show t | succ j=>show am r (ih j)
def Qa7{F G:Ek!}{VB:T!}{l₂:CE!}(p:Be! F VB l₂)(f:∀a b,F a b->G a b):Be! G VB l₂:=by induction p with | nil=>show U! | cons r _ ih=>show am (AC f r) ih
def EN.QE(x:qm!)(k:JnA (b=a\/JIk) (SC! KH!))(ho:∀b,JIk->Nn! H' (IM! a))(ht:vB!):qG! H' o:=by induction o with | BM xs=>have#[z,its,n,r,e]:=x;show#[z,At!,n,r,Ej!] | BV xs=>have#[z,its,r,ob,e,c]:=x;show#[z,At!,r,ob,Ej!,c] | dK kvs=>have#[z,y,vs,r,ob,es,ep,e,c]:=x;show#[z,y,vs,r,ob,es,ep,Ej!,c] | dT kvs =>have#[z,y,xs,r,ob,es,ep,e,c]:=x;show#[z,y,xs,Qa7 r λp q z=>JaK,ob,es,ep,Ej!,c] | set S n=>have#[ob,es,ep,t,e,c]:=x;show#[ob,es,ep,t,Ej!,c] | ins C dx fs =>have#[d,z,ne,e,mA,#[od,es,ep,e2,c],r]:=x;show#[ho _ d,z,ne,Ej!,mA,#[od,es,ep,Pu! d e2,c],r] | own y=>have#[ob,e]:=x;show#[ob,Ej!] | xd fs=>have#[mA,#[od,es,ep,e,c],r]:=x;show#[mA,#[od,es,ep,Ej!,c],r] | ph lo hi=>have#[t,u,v,e]:=x;show#[t,u,v,Ej!] | IC ob u ih=>have#[e,q]:=x;show#[Ej!,ih q] | cX ps =>show Mo? tV! tV! | met f y =>show Mo? JLM JLM | ext φ=>have#[p,#[o,e],st]:=x;show#[FM st p (λo q=>JAQ q),#[o,Ej!],st]
def OK.lt(x:C8!)(e:U0!):wu!:=(x a o e).lt
def OK.fresh(x:C8!)(e:fd!):L9!:=by cases q:H a with | none=>rfl | some u=>show I? (CK (x.lt q) e) H3!
def OK.kept(x:C8!)(k:dy!):OK P w H h':=λa o e =>(x a o e).QE (λb u _ q=>dx!) (λ_ q=>q) WX!
def OK.laid(x:C8!)(k:dy!)(hp:fd!)(new:qG! J5! o):ru! J5!:=λb u e=>by have hn:=x.fresh hp;show Bu?;(.show DY? new);.rw[EZ!] at e;show(x b u e).QE (λc v _ q=>k c v q) (λc q=>eN!) λc xs q=>eN!
open E
abbrev Rd(H:Hp)(a:Addr)(u:HO):B!:=EM! u\/∃o,EM! ZW!
def Rd.ok(r:Rd H a u)(x:C8!):JDe:=by
 rcases r with r|⟨o,r⟩;.show x a u r
 .have#[_,q]:=x a _ r;show q
abbrev mP:Kv! oL!
 | some (.BM _)=>True
 | some (.dK _)=>True
 | some (.dT _)=>True
 | some (.set _ _)=>True
 | some (.ins _ _ _)=>True
 | some (.ext _)=>True
 | _=>False
open S
variable {P:Program}{w:World}{H:Hp}{h h':Heap}{x e:Addr}{o':HO}
def OK.write(ok:C8!)(mu:uF!)(he:tT!)(k:JLq)(ja:tU!)(new:EN P w (EG! x o') h' x o'):ru! (EG! x o'):=λb u q=>by (have n5:∀c y,Cn! c IM! y->c≠x:=λc y r z=>JMf);(have yi:∀c xs,LE! c xs->c≠x:=λc xs r z=>JMf);by_cases hb:b=x;(.subst hb;rw[Ab] at q;cases q;show new);.rw[EZ!] at q;by_cases gw:b=e;(·(have q':Cn! b IM! x:=by show m? he;(.show HV! gw.trans z hb);.rw[gw];show z);rw[q] at q';cases q';have#[v,hv]:=ja;show#[v,S! gw hv]);·(show(ok b u q).QE (λc v hc r=>k c v ?_ r) (λc r=>yu! (n5 c b r)) λc xs r=>yu! (yi c xs r));show EZ?;(.show gw);.rintro rfl;show m? he;(.show n5 c b hc z);.rw[hc] at z;cases z;show hb A!
open E
structure Un(fs ex:X!)(H H':Hp)(h h':Heap):B! where
 keep:JZt (b∉fs) ZJ!
 slot:JZt (b∈fs) ec!
 free:DG! (Hj!->Bg!->b∉ex->JX!)
 there:zs! (b∉ex) JNZ
 QT:vB!
 OO:JV4
 QU:JZu
open S
variable {fs cQ ex ex':List Addr}{H H1 H2:Hp}{h h1 h2 h':Heap}{a x e:Addr}{o:HO}
def Un.any(u:Un fs ex H H1 h h1)(q:Zj! KH!)(n:Bg!)(hx:b∉ex):∃sl,Nn! Md! { ob with slots:=sl }:=by
 by_cases hb:b∈fs;.show u.slot b ob q n hb hx
 .show#[ob.slots,WY! b ob q n hb hx]
def Un.kept(k:dy!):sU! H :=#[xF! rT!,xF! #[ob.slots,rT!],λ_ _ _ n _=>n,λb ob q _=>#[ob,rT!],WX!,λ_ _ _ q=>q,λ_ ps q=>#[Ep!,JmT]]
def Un.refl:Un fs ex H H h h:=WZ! WX!
def Un.laid(k:dy!)(hp:fd!)(hn:L9!):sU! J5! where
 keep:=λb u q _ _ _=>dx!
 slot:=λb u q _ _ _=>#[u.slots,dx!]
 free:=λb u q n _=>S! (Ad (BU (Sn! q hp))) n
 there:=λb u q _=>#[u,dx!]
 QT:=λb xs q=>eN!
 OO:=λb u xs q=>eN!
 QU:=JNa (Ad (Al q hn))
def Un.write(mu:uF!)(he:tT!)(k:JLq)(ja:tU!):sU! pt!:=by
 have hx:pR! (b≠x):=λb n z=>by subst z;rw[n] at mu;show mu
 have hb:pR! Qp!:=λb n z=>by subst z;rcases he with r|r;(.show hx b n r);.rw[n] at r;cases r
 have hm:∀b u,LF!->¬mP (re u)->b≠x:=λb u q nm z=>by subst z;rw[q] at mu;show nm mu
 show#[λb u q n _ _=>JMV,λb u q n _ _=>#[u.slots,JMV],λb u q n _=>yt! (hx b n),λb u q _=>?_,λb xs q=>JQZ,λb u xs q=>JQZ,JNa (Ad (hm b _ q Wa!))];by_cases gw:b=e;.subst gw;show ja
 .show#[u,k b u gw q]
open E
abbrev pR(h:Heap)(H:Hp):X!:=(List.range h.objs.size).filter λa=>(H a).isSome
abbrev dQ(h:Heap)(H:Hp):FS!:=W.hideAll h (pR h H)
def Jl1(h:Heap)(H:Hp):(dQ h H).objs.size=h.objs.size:=W.hideAll_size _ _
def Jpn(e:Hj!)(n:Bg!):yg! :=W.hideAll_get _ e λhm=>by have q:(H b).isSome=true:=(Dt! hm).2;rw[n] at q;simp at q
def Jsa(e:yg!):Hj!/\Bg!:=by have e':Hj!:=W.of_hideAll (pR h H) e;show#[e',?_];cases q:H b with | none=>rfl | some x =>have hm:b∈pR h H:=Ll! (Du! (AU e')) (by simp[q]);have z:E8! (dQ h H).get?:=W.hideAll_none (pR h H) hm;rw[z] at e;cases e
abbrev Js8(g h:Heap)(L:Addr):Db:=JYm ((g.get? a).isSome=true)
abbrev rest(g h:Heap)(L d:Addr):Db:=(Js8 g h L).filter λp=>Go (g!≠d)
structure Mod(K:W.Frag)(mg:AC!)(base:Heap):B! where
 ae:K.In B3!
 glob:i2! base.Ns
 blt:∃mb,base.Ns builtinsNs mb/\Jd0
 nolimit:base.NoLimit
structure Cx(K:W.Frag) where
 prog:Program
 w:World
 mg:AC!
 base:FS!
 A:Around
 N:Z!
 IV:Qq!
 SV:Hp
 env:Env
 outer:Cz!
 stack:Cz!
 ex:X!
 fn:Str->A8!
 calm:A8!
 pn:Db
 xe:KE
abbrev RE(l:Cz!):X!:=l.filterMap (·.frame)
@[reducible]abbrev Cx.fs(X:F!):X!:=RE Wb!
abbrev vy(sc:Scope)(x:Str):B!:=PI!\/JnS\/Br! sc.names.lookup Eq!
abbrev Loc(sc:Scope)(x:Str):B!:=JNQ
abbrev Look(env:Env)(h:Heap)(m:AC!)(x:Str)(u:Value):B! :=
 (iN! fe!/\Br! m u)\/((Br! fe! .cell\/Br! fe! Eq!)/\∃c,Br! env.cells.lookup c/\h.IsCell c (re u))
structure Cx.Ok(X:F!):B! where
 mod:JYI
 kind:X.env.scope.kind=.function
 glob:X.env.globals=mainGlobals
 blt:X.env.builtins=builtinsNs
 above:X.IV.heap.objs.size<=X.env.locals
 inj:∀x y c,iX!->w! ff! y c->x=y
 has:JV7 fg! fg! iX!
 dF:∀x c,BQ! X.fn x->iX!->X.IV.heap.objs.size<=c
 hd:BY!->X.A.handled=none
 frames:JtA Cc!
 eT:X.stack=X.outer\/(JtB/\JNe)
 aN:∀b∈X.ex,Wd!/\Jkr
 bs:dq! (oB!/\E8! X.SV)
 aQ:X.base.objs.size<=X.IV.heap.objs.size
 VA:dq! (b∉X.ex)
 VD:∀b∈X.ex,We!
 ON:JGT Wb!
 bE:∀b∈X.fs,E8! X.SV
structure Inv(X:F!)(AB:Db)(σ:JLZ)(H:Hp)(s:Shared):B! where
 ok:X.Ok
 os:s.os=X.IV.os
 bare:JCr
 base:Un X.fs X.ex X.SV H X.IV.heap xz
 loc:∃m,JKx/\∀(i:Nat)(x:Str)(v:V),J3!->JH4->rR!->∃u,CF!/\Look SL xz m x u
 cell:Sp! (∃v,JKj)
 free:BJ! fi!
 KN:Sp! (BJ! c)
 pin:TU! Je2
 EE:JQG xz
 len:σ.length=X.N.length
open S
variable {X:Cx Kx}{AB:List (Addr×Obj)}{σ:List (Option V)}{H H':Hp}{s:Shared}{h':Heap}
def Cx.Ok.yk(ok:X.Ok){b:Addr}{o:Obj}(e:Fx! X.base.get?):We!:=λhb=>by have:=(ok.ON.mem hb).1;show H? e;cases this
def Inv.bs(I:H!):dq! JJw:=λb o e =>#[fk! b o JGa JNY (I.ok.yk e) JAb,Mg! b o JGa JNY JAb]
def Inv.bk(I:H!):dq! HK!:=B4! (I.bs b o e).1
def Inv.mod{X:F!}(I:H!):JYI:=I.ok.mod
def Inv.OX{X:F!}(I:H!):Kx.In xz:=I.ok.mod.ae.keeps I.bk
def Inv.lt(I:H!):X.env.locals<s.heap.objs.size:=let#[_,hn,_]:=I.loc;hn.lt
def Inv.sz(I:H!):X.IV.heap.objs.size<=s.heap.objs.size:=AA I.ok.above (AV I.lt)
def Inv.yj(I:H!)(h:Qs!):a∉X.fs:=λhb=>by show Jk?;show OF! (Sn! ho (AA I.sz h)) H3!
def Inv.bL(I:H!):Sp! (c≠X.env.locals):=λx c e z=>by show Rb?;have#[m,#[o',es,ep,bD,VX,_],_]:=I.loc;rw[z,bD] at ho;cases ho;rw[VX] at hd;cases hd
def Inv.ON(I:H!):r2! Wb!:=by
 have all:∀(l:Cz!),(∀b∈RE l,b∈X.fs)->JGT l->r2! l:=by intro l;induction l with | nil=>intro _ _;trivial | cons env r ih =>intro hs hl;have#[hk,#[L,o,hf,hn,ho,hd],hr]:=hl;have hL:L∈X.fs:=hs L (JZH ZL);have#[sl,e]:=I.base.slot L o ho (I.ok.bE L hL) hL λz=>I.ok.VD L z hL;show#[hk,#[L,_,hf,hn,e,hd],ih (UF (hs b (JZH (ZD _ hb)))) hr]
 show all Wb! (λ_ hb=>hb) I.ok.ON
def Inv.stack(I:H!):r2! Cc!:=by
 show Rc?;.rw[e];show I.ON
 .rw[e];have#[m,hn,_]:=I.loc;show am (by rw[Qt!];decide) hf hn ?_ I.ON;show xj! (AA I.ok.aQ I.ok.above)
def Inv.VJ(I:H!):∀b∈RE Cc!,b∈X.env.locals::X.fs:=UF (by show Rc?;(.rw[e] at hb;show ZD _ hb);.rw[e] at hb;unfold RE at hb;rw[II,hf] at hb;show hb)
def Inv.SJ(I:H!):∀b∈RE Cc!,Bg!:=UF (by rcases ZM (I.VJ b hb) with e|hb;(.rw[e];show IN!);.show Jk?;show Mg! b o ho (I.ok.bE b hb) λz=>I.ok.VD b z hb)
def Inv.step{g':Array GenState}{t':Nat}{d':Drawn}{ch:X!}(I:H!)(cP:v3!)(keep:JcG We! ZJ!)(slot:JcG (b∈X.fs) ec!)(free:DG! (b∉ch->HK!->Bg!->JX!))(there:zt! (b∉ch) JNZ)(QT:vB!)(OO:JV4)(QU:JZu)(ns:∀m,JKx->h'.Ns fi! m)(EE:tI!)(hg:AllBare g') : JBY:=by
 have neL:j4! fj! Wd!:=B4! JNC;have p_:DG! (oB!->b∉X.ex->b∉ch):=λb o e hx hb=>by rcases bF! cP with z|z;(.show hx z);.show I? (Sn! e z) H3!
 have cellK:Sp! (∀v,JKj->h'.IsCell c v):=λx c e v #[o,ho,hd]=>by have k_:c∉ch:=λz=>JdE;by_cases hc:c∈X.fs;(.have#[sl,q]:=JeQ slot;show#[_,q,hd]);.show#[o,JeQ keep,hd]
 show#[Gh? hg (JpN (λb o e n hb hx=>?_) (λb o e n hx=>?_) (λb xs e=>QT b xs (Wf! b xs e)) (λb o xs e=>OO b o xs (Wg! b o xs e)) (λb ps e=>?_)) ?_ (Wh! ?_) ?_ (Wh! ?_) EE];.show keep b o (HU! neL) hb fH! (fk! b o e n hb hx) JM0
 .show RF?;have#[tS,e2]:=slot b _ (HU! neL) hb fH! e1 JM0;show#[tS,e2]
 show Hb? (free b o' fH! e1 (Mg! b o e n hx))
 show Hb? (there b o' fH! e1)
 .have#[m1,e1]:=I.base.QU b ps e;have#[m2,e2]:=QU b _ e1;show#[m1++m2,A5! e2 Array.append_assoc]
 .have#[m,hn,hl]:=I.loc;show#[m,ns m hn,λi x v e1 e2 e3=>?_];have#[u,r,l]:=hl i x v e1 e2 e3;show#[u,r,?_];rcases l with l|⟨k,c,e,z⟩;(.show E? l);.show G? #[k,c,e,cellK x c e _ z]
 .have#[v,z]:=lt!;show#[v,cellK x c e v z]
 .have#[m,#[o,_,_,ho,_],_]:=I.loc;show free _ o (JsC cP) ho IN!
 .show Rb?;show free c o (λz=>JdE) ho (I.KN x c e)
 .show Cr?;have k_:g!∉ch:=λz=>(cP g! z).2.2.2 p hp A!;show#[keep g! wP ne nf k_ e n,free g! wP k_ e n,ne,nf,d]
def Inv.un(I:H!)(u:Un X.fs [] H H' xz h')(EE:tI!):DY! H' xs!:=JW8 Ch (I.step (g':=s.gens) (d':=s.drawn) (ch:=[]) (λ_ z=>nomatch z) (JNG WY!) (JNG u.slot) (λb o _ e n=>u.free b o e n Ch) (fl! (pK! Ch)) u.QT u.OO u.QU (Jcc) EE IO!)
def Inv.call(I:H!)(u:JoX Cc! ch h')(EE:tI!)(hg:AllBare g')(cP:v3!) : JBY:=JW8 (λz=>(cP _ z).2.1 A!) (I.step (ch:=ch) cP (λb o hL hb hc e n=>WY! b o e n (λz=>(ZM (I.VJ b z)).elim hL hb) hc) (λb o _ _ hc e n=>u.any e n hc) (λb o hc e n=>u.free b o e n hc) (λb o hc e=>pK! hc) u.QT u.OO u.QU (Jcc) EE hg)
def Inv.turned{t':Nat}{it:Addr}(I:H!)(k:JnN)(hn:BJ! it)(hL:it≠X.env.locals)(h1:it∈X.ex\/X.IV.heap.objs.size<=it)(h2:Sp! (c≠it))(h3:TU! (g!≠it)):oC!:=by
 have ko:∀b u,LF!->b≠it:=λb u e z=>by rw[z,hn] at e;cases e
 show QS? [it] uT! uT! uT!;show L4? (b=it) h1 hL h2 h3
 show O4? (JE! hL)
 show QG?
def Inv.tok(I:H!)(t:Nat):DY! H { s with toks:=t }:=Ce! I.un h' xz t' t Un.refl DI!
def Inv.kept(I:H!)(k:JE0):oC!:=I.un (WZ! k) (I.EE.kept k)
def Inv.laid{a:Addr}{o:HO}{t':Nat}(I:H!)(k:JE0)(hp:Qs!)(new:JG2 J5! o) : yb! J5!:=I.un (Un.laid k hp (Qu! hp)) (I.EE.laid k hp new)
def Inv.write{x e:Addr}{o:HO}{t':Nat}(I:H!)(mu:uF!)(he:tT!)(k:JnA Qp! (SC! Cd!))(ja:tU!)(new:EN FU! X.w pt! h' x o):yb! pt!:=I.un (Un.write mu he k ja) (I.EE.write mu he k ja new)
def Inv.ZY(I:H!)(h:∀p∈O_,Je2):Inv X O_ σ H s :=Jiv I.ok (Dv! ((ZI hp).elim (λz=>Sy! or!) (h p)))
def U2{N:Z!}(hN:N.Nodup){i j:Nat}{x:Str}(a:N[i]?=D! x)(b:N[j]?=D! x):i=j:=by have#[h1,e1]:=ZJ a;have#[h2,e2]:=ZJ b;show(MW hN).mp (e1.trans e2.symm)
def Jan{M:Model}{A:Around}{E:KE}{i:Nat}{x:Str}{v:V}{u:Value}{Q:Do!}(I:H!)(hN:X.N.Nodup)(hi:J3!)(hx:du!)(r:CF!)(h:∀s',Inv X AB fP! H s'->(∃a,Heap.SameBut a xz IP!/\(a=X.env.locals\/Br! ff! a))->Q () s')(hf:ea!:=by show Dp?):JYA:=by
 have#[m,hn,hl]:=id I.loc;show Ol?
 show Jl?
 have bL:=I.bL;have tracked:∀{a:Addr} {h':Heap},(∃o,k7! o/\L9!)->JCQ->JQG h':=λ{a h'} ha hs b ob e=>by have#[_,_,RF]:=ha;show PE?;rintro rfl;show EZ?;(.show Bh? RF);.rw[RF] at hc;cases hc
 rcases hx with hk|hk;.show wpAny_storeName_local hk hn (λh' uh hs=>?_) YB;have#[oL,_,_,hoL,_]:=id hn;show h _ (Jed JPK ml! oL hoL IN!) #[_,hs,H4!];(.show Kc? lh!);show LT? lh!;show LS? lh!;(.by_cases hj:j=i;(.subst hj;show X? hi;cases e1;rw[JC d_] at e2;cases e2;show#[u,r,HY! hk Sc]);.show Fw?;show Ge?;show#[u',r',?_];show Rd?;(.show C8? k;show PK?;simp[this,e]);.show G? #[k,c,e,e3!]);(.have#[w',z]:=KI! y c e;show#[w',e3!]);.show Cr?;show#[JXz,n,ne,nf,d]
 ·(have uo:BQ! X.fn x:=by show m? hf;(.show z);.rw[z] at hk;cases hk);have#[c,hc]:=LX! I.ok.has x hk;have#[w',z]:=KI! x c hc;show wpAny_storeName_cell Qt! hk hc z (λh' jb hs=>?_);have#[oc,jX,zI]:=id z;show h Bn! (Jed #[m,hn.sameBut hs (Mh! (bL x c hc)),λj y v' e1 e2 e3=>?_] (λy c' e=>?_) oc jX (I.KN x c hc)) #[c,hs,v! hc];(.show Kc? v7!);show LT? v7!;show LS? v7!;(.by_cases hj:j=i;(.subst hj;show X? hi;cases e1;rw[JC d_] at e2;cases e2;show#[u,r,v! #[W! hk,c,hc,jb]]);.show Fw?;show Ge?;show#[u',r',?_];rcases q with q|⟨k,c',e,z'⟩;(.show E? q);.show R? #[k,c',e,z'.sameBut hs ?_];rintro rfl;show hj (U2 hN e1 (I.ok.inj _ _ _ e hc▸hi)));(.by_cases hcc:c'=c;(.subst hcc;show#[_,jb]);.have#[w2,z2]:=KI! y c' e;show#[w2,z2.sameBut hs hcc]);.show Cr?;show#[(hs.2 g! ?_).trans e,n,ne,nf,d];intro q;rw[q,jX] at e;have q':oc=wP:=ZO e;show d w' (Bz! q' zI)
def Tn{M:Model}{A:Around}{E:KE}{i:Nat}{x:Str}{v:V}{u:Value}{Q:Do!}(I:H!)(hN:X.N.Nodup)(hi:J3!)(hx:du!)(r:CF!)(h:JI3 fP!)(hf:ea!:=by show Dp?):JYA :=Jan I hN hi hx r (λs' I' _=>h s' I') hf
def Inv.ZQ{s':Shared}{ch:X!}(I:H!)(ho:fo!)(u:JoX Cc! ch IP!)(EE:OK FU! X.w H' IP!)(hg:aq!)(cP:v3!):Ld!:=by have#[h',g',d',t',o']:=s';have e:o'=s.os:=ho;subst e;show I.call (g':=g') (t':=t') (d':=d') u EE hg cP
open E
@[reducible]abbrev XK:=IJ!->Nq! J1!
@[reducible]abbrev St:=JLZ
@[reducible]abbrev VK:=Nq! V
@[reducible]abbrev TE:=St->h8! VK
@[reducible]abbrev TT:=eF! GN!
@[reducible]abbrev TA:=eF! HN!
structure Ends where
 nx:Bi!
 rt:VK
 bk:Bi!:=Qw!
 ct:Bi!:=Qw!
@[reducible]abbrev TS:=Ends->Bi!
inductive EP(X:F!)(AB:Db)(σ:St)(Q:VK)(u:Value)(s':Shared):B!
 | mk v H' (_:Ld!) (_:CF!) (_:Lh!)
inductive TP(X:F!)(AB:Db)(σ:St)(Q:GN!)(b:Bool)(s':Shared):B!
 | mk H' (_:Ld!) (_:Q b H')
inductive AP(X:F!)(AB:Db)(σ:St)(Q:HN!)(us:d!)(s':Shared):B!
 | mk vs H' (_:Ld!) (_:MF!) (_:Q vs H')
abbrev SP(X:F!)(AB:Db)(D:Ends)(f:Flow)(s':Shared):B! :=
 match f with
 | .next=>rt! D.nx
 | .brk=>rt! D.bk
 | .cont=>rt! D.ct
 | .ret u=>LW λv FN H'=>Ze!/\CF!/\D.rt v H'
abbrev PE(X:F!)(e:Expr)(t:TE):B! :=
 JtF (Jm3 (Jj! r7!))
abbrev PT(X:F!)(e:Expr)(t:TT):B! :=
 JtG GN! (JTO r7!)
abbrev PW(X:F!)(e:Expr)(t:TT):B! :=
 ∀(whole:Sem IJ!)(AB:Db)(s:Shared)(σ:St)(H:Hp)(Q:GN!),JTO whole
def fj(h:PW X e t):PT X e t:=h _
abbrev PA(X:F!)(es:Jp!)(t:TA):B! :=
 ∀(pos:Pos)(AB:Db)(s:Shared)(σ:St)(H:Hp)(Q:HN!),Jm3 (Jg3 (spliced (JCC es)) (AP X AB σ Q))
abbrev PS(X:F!)(st:Stmt)(t:TS):B! :=
 JZw exec
abbrev RL(X:F!)(st:bm!)(t:TS):B! :=
 JZw execs
def FV(h:S7! t)(hQ:∀a s,Q a s->Q' a s):No! M A t Q' E:=FR h hQ Wi!
open S
variable {X:Cx Kx}
def bin{a b:Expr}{ta tb:TE}(ha:C6!)(hb:Gb!){AB:Db}{s:Shared}{σ:St}{H:Hp}{R:JDE}(I:H!)(h:JLr){α:IN}{Q:HF! α}{f:IJ!->IJ!->Sem α}(hf:Jd1) : JM5:=JfQ
inductive Jx5(i:Nat)(σ:St)(H:Hp)(Q:VK):B!
 | mk (v) (e0:JH4) (e1:Q v H)
abbrev B0(i:Nat):TE:=Wj! (Jx5 i σ H Q)
abbrev tC(v:V):TE:=iP! v
def Ju6(hN:J3!)(hv:rR!)(hd:DA!:=by decide)(TZ:JBZ:=by decide):JTS:=by
 show P?;have#[v,e,h]:=h;have#[m,hn,hl]:=I.loc;have#[u,r,l]:=hl i x v hN e hv;have fin:Z2! u s:=uV!;rcases l with⟨hk,hm⟩|⟨hk,c,hc,LX⟩;.show fq! (wpAny_loadName_local Qt! hk hn hm AD!) hd
 .rcases hk with hk|hk;(.show fq! (wpAny_loadName_cell Qt! hk hc LX AD!) hd);.show fq! (wpAny_loadName_free Qt! hk hc LX AD! TZ) hd
def Ag:uI! Ui! (tC (XV i)):=JS2 wpAny_Constant_int K9!
def Nd:uI! (Au! b) (tC (AG! b)):=JHq Constant_bool (AG! b)
def Kl:PE X (fr! At j bi) (tC wS):=JHq x6! wS
def Ay:uI! (FB x) (ZT! x):=JS2 Calls.Constant_str (wE x)
abbrev Gl(X:F!)(x:Str):B!:=Br! fg! .globalImplicit
def Jm{E:KE}{AB:Db}{s:Shared}{σ:St}{H:Hp}{x:Str}{u:Value}{pos:Pos}{Q:KE}(I:H!)(hg:El!)(hm:JFU)(h:Q u s)(hd:DA!:=by decide):JGO :=JZr (Calls.loadGlobal_global JUm hm h)
def Qq(I:H!)(hg:El!)(hm:dl!)(hv:JKa)(h:Q u s)(hn:aJ!:=by decide)(hd:DA!:=by decide):JGO:=by have#[mb,h1,h2]:=I.mod.blt;show JZr (Calls.loadGlobal_builtin JUm hm (aS! I.ok.blt h1.keeps I.bk) ((h2 x hn).trans hv) h)
def Jrr{x:Str}{v:V}{u:Value}{pos:Pos}(hg:El!)(hm:JFU)(r:CF!)(hd:DA!:=by decide):JTT :=λ_ _ _ H _ I h=>Jm I hg hm uV! hd
def Jjt{x:Str}{v:V}{u:Value}{pos:Pos}(hg:El!)(hm:dl!)(hv:JKa)(r:CF!)(hn:aJ!:=by decide)(hd:DA!:=by decide):JTT :=λ_ _ _ H _ I h=>Qq I hg hm hv uV! hn hd
abbrev t2I(ta tb:TE)(k:GE->Nq! GE):Bi!:=λσ H=>F0! ta (λx H1=>ER! tb (λy H2=>G_ λi j=>Lv!/\UL!/\k i j H2))
variable {a b:Expr}{ta tb:TE}{pos:Pos}
abbrev PC(X:F!)(op:CmpOp)(a b:Expr)(t:TE):B! :=
 JtF (bD! (Zw! ->
  j2! (eval a SL) (λv ER=>lX! (eval b SL) (λu MM=>JB9 (compareOp op v u) MM) ER)))
def Jfz(b:Expr)(h:op≠.In)(h2:op≠Qx!):Qd!:=by
 show K9?
 show LH?
 show Jf?
abbrev iE(p:ql!)(ta tb:TE):TE:=Wj! (t2I ta tb (λi j H2=>qV! (p i j)) σ H)
@[reducible]abbrev tLt:Qe!:=V1! (i<j)
@[reducible]abbrev tLe:Qe!:=V1! (i<=j)
@[reducible]abbrev tGt:Qe!:=V1! (j<i)
@[reducible]abbrev tGe:Qe!:=V1! (j<=i)
@[reducible]abbrev Jym:Qe!:=V1! (i=j)
@[reducible]abbrev J0e:Qe!:=iE λi j=>! Go (i=j)
def Ju9{op:CmpOp}{p:ql!}(ha:C6!)(hb:Gb!)(rule:∀(i j:Int) (t u:Tok) (Q:KE) (s:Shared),Q (Au! (p i j)) s->Jg3 (compareOp op UB! (XV j u)) Q):PC X op a b (iE p ta tb):=by show P?;show bin ha hb I h (yD! ?_);have#[i,j,rfl,rfl,q]:=q;show Y?;show BO?;show rule i j t t' _ s2 #[AG! _,H2,I2,A!,q]
def Jva(ha:C6!)(hb:Gb!):PC X .Eq a b (Jym ta tb):=Ju9 ha hb λ_ _ _ _ _ _ h=>Ud! eq_int Bool.beq_eq_decide_eq h
abbrev Jyl(ta:TE):TE:=Lk! (Q (AG! (MZ! (x=wS))) H1)
def RelV.b_(r:Sm!):(v==Value.none)=Go (x=wS):=by grind [V,RelV]
def Ju8(ha:C6!):PC X .Is a (fr! At j pos') (Jyl ta):=by show P?;show x? (Ns! ha s H I h);show At?;show x6! (is_none_gen #[AG! _,H1,I1,Db! r1.b_,q1])
inductive ItB  (x:V) (H1:Hp) (Q:GN!):B!
 | mk (c) (e0:x=AG! c) (e1:Q c H1)
abbrev tB(t:TE):TT:=JBB (ItB  x H1 Q)
def Ju7(h:JLu)(h1:Qd!:=by show Oh?):JUw t:=λAB s σ H Q I hw=>yF! (jM! h Q hw) h1
def Ff(h:JLu)(h1:Qd!:=by show Oh?):Jbr tB t:=by show Dx?;show yG! (zU! (λv s1 h1=>FV h1 λu s2 h2=>FV h2 λc s3 #[x,H1,I1,r1,q1]=>?_)) h1;have#[d,rfl,q]:=q1;cases r1;show KJ #[H1,I1,q]
def Hh(h:cv!)(he:JZx (isTrue e SL whole) e.pos:=by intro _;rfl):PT X e (tB t):=by
 show Dx?
 show isTrue_plain (zU! (λv s1 #[x,H1,I1,r1,q1]=>?_)) (he _)
 have#[d,rfl,q]:=q1
 cases r1
 show KJ #[H1,I1,q]
variable {tA pT:TT}{rest:List Expr}
abbrev Jyp(t u:TT):TT:=JIf u (Q Os H1)
abbrev eS(t u:TT):TT:=JnC (kq! (Q GM H1) (ER! u Q))
abbrev Jyj(t:TT):TT:=JnC (Q (!c) H1)
def xo(ha:Vy!):JYV .And:=by show CK?;show isTrue_and (FV (JSm) λc s1 e=>?_);cases c with | true=>show isTrue_and_nil e | false=>show e
def Uo(ha:Vy!):JYV .Or:=by show CK?;show isTrue_or (FV (JSm) λc s1 e=>?_);cases c with | false=>show isTrue_or_nil e | true=>show e
def xF(ha:Vy!)(hb:JIu (b::rest) pT):JIu mp! (Jyp tA pT):=by show CK?;show B1? isTrue_and;show HU?;cases c with | true=>show P4? | false=>show#[H1,I1,q1]
def Uq(ha:Vy!)(hb:JIv (b::rest) pT):JIv mp! (eS tA pT):=by show CK?;show B1? isTrue_or;show HU?;cases c with | true=>show#[H1,I1,q1] | false=>show P4?
def ri(ha:Vy!):PT X (.UnaryOp .Not a bi) (Jyj tA):=z4! isTrue_not (FV (jM! ha (λc H1=>Q (!c) H1) h) λc s1 #[H1,I1,q1]=>#[H1,I1,q1])
abbrev Jwo(ta tb:TE):TE:=Lk! (∃c,x=AG! c/\kq! (ER! tb Q) (Q (AG! Os) H1))
def Jod(h:A0! a t):A0! (.BoolOp op [a] bi) t:=JNi BoolOp_one
def Jok(ha:C6!)(hb:A0! (.BoolOp .And (b::rest) bi) tb):A0! (.BoolOp .And (mp!) bi) (Jwo ta tb):=by show P?;show B1? BoolOp_and;show At?;have#[c,rfl,q1]:=q1;cases r1;show KJ ?_;cases c with | true=>show I6? | false=>show#[q9!,H1,I1,A!,q1]
abbrev tIf(t:TT)(ta tb:TE):TE:=JIf ta (ER! tb Q)
def Uu(hc:PT X c tA)(ha:C6!)(hb:Gb!):A0! (.IfExp c a b bi) (tIf tA ta tb):=by show P?;show ES? wpAny_IfExp hc;show HV?;cases d with | true=>show Eh? ha Q | false=>show I6?
open E
abbrev DT(K:W.Frag)(H:Hp)(a:Addr)(xs:C!):B! :=
 Rd H a (Ai! xs) \/
  zz! (JIJ/\mq! Eo!/\fs!/\JJ0/\yK!/\JD1)
abbrev FD(K:W.Frag)(H:Hp)(a:Addr)(xs:C!):B! :=
 Rd H a (ii xs) \/
  zz! (JIJ/\UM!/\JJ0/\yK!/\JD1)
abbrev Jz6:IJ!->Lg!
 | .none=>D! wS
 | .bool b=>LK! AG! b
 | .int i _=>F1! i
 | .str x _=>LK! FB x
 | .bytes b _=>LK! .XN b
 | .float b _=>LK! .fW b
 | .ref a=>Hg!
 | .type n=>LK! .ty n
 | _=>none
def RelV.abs(r:Jh!):w! Jz6 u x:=by cases x with | FJ=>show BC? | bl _=>show BC? | int _=>show BB? | str _=>show BB? | XN _=>show BB? | fW _=>show BB? | ref _=>show BC? | ty _=>show BC?
def RelV.inj(r:Jh!)(q:CW!):x=y:=ZO (r.abs.symm.trans q.abs)
def Vals.inj{xs:C!}{us:d!}(p:Hp!):∀{ys:C!},Yc! ys->xs=ys:=by induction p with | nil=>intro ys q;cases q;rfl | cons r t ih=>intro ys q;cases q with|cons r' t'=>rw[r.inj r',ih t']
open S
variable {X:Cx Kx}{AB:List (Addr×Obj)}{σ:St}{H:Hp}{s:Shared}{a:Addr}{xs ys:List V}
def DT.of{K:W.Frag}(h:JPx):Ei!:=JBa
def FD.of{K:W.Frag}(h:q4!):Dq!:=JBa
def Inv.list{X:F!}(I:H!)(h:rp!):JUC (cy! PlainL CJ!):=by
 rcases h with h|⟨o,its,n,hk,hc,hd,hs,hz,r⟩;.have#[z,its,n,r,e]:=h.ok DI!;show#[At!,r,#[_,n,e,A!,A!,A!],z]
 show Pa? #[o,n,DJ! a o hk,hc,hd,xu!]
def Inv.tuple{X:F!}(I:H!)(h:rq!):JUC (cy! IsTup CJ!):=by
 rcases h with h|⟨o,its,n,hk,hc,hs,hz,r⟩;.have#[z,its,r,p]:=h.ok DI!;show#[At!,r,p,z]
 show Pa? #[o,DJ! a o hk,hc,n,xu!]
def Inv.WT{X:F!}(I:H!)(h:rp!)(h':DT Kx H a ys):xs=ys:=by
 have#[its,r,#[o,n,e,_,_,d],_]:=DK! h;have#[its',r',#[o',n',e',_,_,d'],_]:=DK! h';show j?;cases e';rw[d] at d';injection d' with d1 _;show Na?
 subst this;show r.inj r'
def Inv.UP{X:F!}(I:H!)(h:rq!)(h':FD Kx H a ys):xs=ys:=by
 have#[its,r,#[o,e,_,n,d],_]:=Gc! h;have#[its',r',#[o',e',_,n',d'],_]:=Gc! h';show j?;cases e';rw[d] at d';injection d' with d1 _;show Na?
 subst this;show r.inj r'
open E
@[reducible]abbrev Cx.RP(X:F!)(E:KE):F!:={ X with xe:=E }
@[reducible]abbrev Cx.fB(X:F!):F!:=X.RP Qw!
def Cx.Ok.RP{X:F!}(ok:X.Ok)(E:KE):(X.RP E).Ok :=eX!
def Cx.Ok.NF{X:F!}{E:KE}(ok:(X.RP E).Ok):X.Ok :=eX!
open S
variable {X:Cx Kx}{AB:List (Addr×Obj)}{σ:St}{H:Hp}{s:Shared}{E:Value->Shared->Prop}
def Inv.RP(I:H!)(E:KE):JJW:=Jiv (I.ok.RP E) I.pin
def Inv.NF(I:JJW):H!:=JE7 I.ok.NF
def SP.NF(h:SP (X.RP E) AB D f s'):SP X AB D f s':=by cases f with | next=>show Gp? | brk=>show Gp? | cont=>show Gp? | ret u=>have#[v,FN,H',I,r,q]:=h;show#[v,FN,H',I.NF,r,q]
def RL.fB{st:bm!}{t:TS}(h:RL X.fB st t):RL X st t:=λAB s σ H D I hw =>JcO (λ_ _ q=>q.NF) (λ_ _ z=>False.elim z)
open E
open S
variable {X:Cx Kx}{st:Stmt}{rest:List Stmt}{t u:TS}{e:Expr}{te:TE}{pos:Pos}
abbrev Ra:TS:=KJ! (JQ! H)
abbrev Jwi(t u:TS):TS:=KJ! (t JNk σ H)
def Az:RL X [] Ra:=λ_ _ σ H _ I h=>PN #[σ,H,I,h]
def Ac(h1:t8!)(h2:RL X rest u):RL X (st::rest) (Jwi t u):=by show Z?;show yQ! (FV (JLC JNk) mr!);cases f with | next =>have#[FN,H',I',q]:=q;show h2 AB s1 FN H' D I' q | ret v=>show q | brk=>show q | cont=>show q
def Af(h1:t8!):RL X [st] t:=by show Z?;show yQ! (FV (JLC D) mr!);cases f with | next=>show PN q | ret v=>show q | brk=>show q | cont=>show q
def Inv.quiet(I:H!):A9! (interactive SL):=by simp[interactive,I.ok.kind]
abbrev Jwm(te:TE):TS:=JFD (λ_ H1=>JQ! H1)
def Bc(he:MH!)(hs:JJZ Rs:=by rfl):PS X (.Expr e bi) (Jwm te):=by show Z?;show wpAny_Expr_any (JFf #[σ,H1,I1,q1]) I.quiet hs
abbrev Jyi(te:TE):TS:=JFD D.rt
def Aq(he:MH!):PS X (.Return (re e) bi) (Jyi te):=by show Z?;show wpAny_Return_some (JFf #[x,σ,H1,I1,r1,q1])
abbrev wQ(c:TT)(t u:TS):TS:=KJ! (F0! c (λb H1=>Yl! (t D σ H1) (u D σ H1)))
def Bh(hc:PT X c tc)(ha:RL X a t)(hb:RL X b u):PS X (.If c a b bi) (wQ tc t u):=by show Z?;show ES? wpAny_If hc;show HV?;cases d with | true=>show Eh? ha D | false=>show Eh? hb D
abbrev Jt4:TS:=Wl!
def Ii:RL X IA Jt4:=λ_ _ _ _ _ _ h=>h.elim
open E
@[reducible]abbrev TG:=V->St->JC1
@[reducible]abbrev fg:=C!->St->JC1
abbrev PG(X:F!)(target:Expr)(t:TG):B! :=
 ∀(AB:Db)(s:Shared)(σ:St)(H:Hp)(v:V)(u:Value)(Q:Bi!),ih! CF! (t v σ H Q ->
  JRr (Mj! target SL u))
abbrev qj(X:F!)(ts:Jp!)(t:fg):B! :=
 ∀(AB:Db)(s:Shared)(σ:St)(H:Hp)(vs:C!)(us:d!)(Q:Bi!),ih! MF! (t vs σ H Q ->
  JRr (assignInOrder ((Mk! ts SL).map CK!) us))
@[reducible]abbrev J0g:=V->V->V->h8! (H6!)
@[reducible]abbrev TIp:=VS!
open S
variable {X:Cx Kx}{pos:Pos}
abbrev Jtq(i:Nat):TG:=λv σ H Q=>Q fP! H
def Bv{i:Nat}{x:Str}(hN:X.N.Nodup)(hi:J3!)(hx:du!)(hf:ea!:=by show Dp?):PG X (FV! x bi) (Jtq i):=by intro AB s σ H v u Q I r h;show yW! (Tn I hN hi hx r (λs' I'=>#[_,H,I',h]) hf)
abbrev Jzz:fg:=λvs σ H Q=>vs=[]/\Q σ H
inductive Jv8(t:TG)(u:fg)(vs:C!)(σ:St)(H:Hp)(Q:Bi!):B!
 | mk (v r) (e0:vs=v::r) (e1:t v σ H (Mi! (u r FN H' Q)))
abbrev Jxp(t:TG)(u:fg):fg:=λvs σ H Q=>Jv8 t u vs σ H Q
def Mo:qj X [] Jzz:=by show HW?;have#[e,h]:=h;subst e;cases r;show assignInOrder_nil #[σ,H,I,h]
def C7(h1:PG X e t)(h2:qj X es u)(hs:(Mk! (Ml!) SL).map CK!=Mj! e SL::(Mk! es SL).map CK!:=by rfl):qj X (Ml!) (Jxp t u):=by show HW?;have#[v,vr,e1,h]:=h;subst e1;cases r with | cons r rr =>rw[hs];show assignInOrder_cons (FV (h1 AB s σ H _ _ _ I r h) ?_);rintro _ s1 ⟨YL,H1,I1,q1⟩;show h2 AB s1 YL H1 _ _ Q I1 rr q1
inductive Jye(K:W.Frag)(n:Nat)(t:fg)(v:V)(σ:St)(H:Hp)(Q:Bi!):B!
 | mk (a xs) (e0:Ls!) (e1:Dq!) (e2:xs.length=n) (e3:t xs σ H Q)
abbrev Jzy(K:W.Frag)(n:Nat)(t:fg):TG:=λv σ H Q=>Jye K n t v σ H Q
def Qf{X:F!}{es:Jp!}{k:Nat}{t:fg}{n:Nat}(hc:BY!)(h:qj X es t)(hn:(Mk! es SL).length=n:=by rfl)(gk:wv (Mk! es SL).findIdx?=none:=by rfl):PG X (.Tuple es k bi) (Jzy Kx n t):=by intro AB s σ H v u Q I r hw;have#[a,xs,e1,hq,hl,hw]:=hw;subst e1;cases r;have#[its,rv,ht,hz]:=Gc! hq;show assign_Tuple_tuple (I.ok.hd hc) ht (by simp[hn,<-hl,rv.length]) gk λh' hx=>?_;show CZ? Bn! (I.kept (t':=Es!) (B4! (hx b o (BU (AU e)) e)));show h AB _ σ H xs _ Q I1 (by simpa using rv) hw
abbrev Jwn(te:TE)(g:TG):TS:=JtK te (g x σ H1 D.nx)
def Jn6(he:MH!)(hg:PG X tg g)(hs:swapsWithSole [tg] e pos.line SL=Er! Os:=by rfl)(hw:swappedStores [tg] e SL=Er! Rs:=by rfl)(h1:(Mk! [tg] SL).map CK!=[Mj! tg SL]:=by rfl):PS X (.Assign [tg] e bi) (Jwn te g):=by show Z?;show wpAny_Assign_stores ka! hs hw;show At?;rw[h1];show FV (hg AB s1 σ H1 x v _ I1 r1 q1) λ_ s2 q=>q
def Au{i:Nat}{x:Str}{e:Expr}{te:TE}{pos':Pos}(hN:X.N.Nodup)(hi:J3!)(hx:du!)(he:MH!)(hs:JJZ (re (FV! x pos')):=by rfl)(hf:ea!:=by show Dp?) : PS X (.Assign [FV! x pos'] e bi) (Jwn te (Jtq i)):=by show Z?;show wpAny_Assign_Name ka! hs;rintro v s1 ⟨y,H1,I1,r1,q1⟩;show Tn I1 hN hi hx r1 (λs2 I2=>#[_,H1,I2,q1]) hf
inductive Jt2(c:TT)(tb:TS)(D:Ends)(σ:L2.St)(H:Hp):B!
 | mk (W:cH!) (_:(∃m,W m σ H)) (_:∀m σ H,W m σ H->F0! c (λb H1=>Yl! (∃N:Bi!,(jO! N (∃m',m'<m/\W m' FN H'))/\tb { D with nx:=N,ct:=N,bk:=D.nx } σ H1) (JQ! H1)))
def Ur(hp:JbI)(hc:PT X c tc)(hb:RL X body tb):PS X (.While c body [] bi) (Jt2 tc tb):=by show Z?;have#[W,#[m0,w0],turn]:=h;show wpAny_While (codeAny_whileLoop (λn s'=>G_ (Mi! (Ze!/\W n FN H'))) ?_ m0 #[σ,H,I,w0]);rintro n s1 ⟨YL,H1,I1,w1⟩;show JP hp (FV (hc AB s1 YL H1 _ I1 (Et! n YL H1 w1)) ?_);rintro b s2 ⟨H2,I2,q2⟩;cases b with | true =>have#[N,hN,q2]:=q2;rw[AF A!];show JP hp (FV (hb AB s2 YL H2 _ I2 q2) λf s3 q3=>?_);(cases f with | next =>show QM? | cont =>show QM? | brk=>show q3 | ret v=>show q3) | false =>rw[AD AQ];show PN #[YL,H2,I2,q2]
open E
structure It where
 go:y6!
 TX:sB->Hp->Nq! V
 stop:y6!
abbrev P5(X:F!)(AB:Db)(H:Hp)(b:Addr):B! :=
 Bg!/\Wd!/\We!/\(b∈X.ex\/X.IV.heap.objs.size<=b)/\(Jkr)/\TU! (g!≠b)
def Inv.UB(I:H!)(hb:s.heap.objs.size<=b)(hn:JX!):kR! H':=by
 show#[hn,EY (CK I.lt hb),I.yj hb,v! (AA I.sz hb),λx c e z=>?_,λp hp z=>?_];.have#[v,q]:=lt!;show OF! (CK q.lt JGs) H3!
 show Ao? (Sn! JGI JGs) H3!
structure Turn(P:Program)(w:World)(K:W.Frag)(tg:Expr)(J:It)(fp:X!)(it:Addr)(tn:JDv):B! where
 mem:it∈fp
 obj:∀i h,tn i h->JNl Hj!
 keep:∀i h h',tn i h->(Mm! (∀o,Hj!->ZJ!))->tn i h'
 item:Jcd (J.go i H ->
  JbH (∃u,r=D! u /\
   Qv! U2! X.A uz! (JcD J.TX (tn (ww) s2.heap) Ji2) E s1))
 done:Jcd (J.stop i H ->
  JbH (r=none/\DY! H s1))
 self:∀(A:Around)(i:Nat)(s:Shared)(Q:KE)(E:KE),tn i xz->Ny! it s->No! (model P w) A (K4! pyIter it) Q E
@[reducible]abbrev TI:=eF! b5!
inductive wA(X:F!)(AB:Db)(σ:St)(tg:Expr)(R:b5!)(uL:Value)(s2:Shared):B!
 | mk (it:Addr) (fp:X!) (tn:JDv) (J:It) (H':Hp) (_:uL=SB it) (_:DY! H' s2) (_:Turn FU! X.w Kx tg J fp it tn) (_:tn 0 s2.heap) (_:(JGc)) (_:R J H')
abbrev PI(X:F!)(tg iter:Expr)(wi:TI):B! :=
 ∀(AB:Db)(s:Shared)(σ:St)(H:Hp)(R:b5!),bD! (F0! wi R ->
  j2! Jkj (λv s1=>JhR (pyIter v) JeF s1))
def j_{M:Model}{A:Around}{E:KE}{s:Shared}{tg:Expr}{it:Addr}{u:Value}{o:Obj}{n:String}{vs:BT!}{Q:Do!}(ho:K2! Cd! it)(hc:mq! n)(hd:JsT)(hn:A9! (JfG n))(hQ:Q () s):S7! uz!:=by unfold letOwnedTupleGo;cases tg<;>first | show ZS hQ | (cases u<;>first | show ZS hQ | (show AX? wpAny_load ho;rw[hc,hd];change No! M A (Wm! (Ac! (JfG n&&vs[0]?==D! (KK! _))) _ _) Q E;rw[AD (by intro h;rw[hn,yd!] at h;cases h)];show ZS hQ))
abbrev XR(K:W.Frag)(a:Addr):It :=
 JbN Ei! Ei! Ei!
abbrev XQ(K:W.Frag)(a:Addr):It :=
 JbN Dq! Dq! Dq!
abbrev cV(lo:Int)(n:Nat):It:=JR9 (i<n) (x=He! (lo+i)) (n<=i)
def Jai{P:Program}{w:World}{K:W.Frag}{tg:Expr}(a it:Addr):JSU (XR K a) h.IsListIter where
 mem:=Sc
 obj:=KL! (by
  show BH?
  subst e
  show Dy?
  show LU?)
 keep:=JWB
 item:=by
  show w?
  show g?
  have#[xs,x,hq,hx]:=hg
  show Re?
  show Fx?
  show t?
  show Oi? wpAny_pyNext_list_item Wn!
  show K1?
  show Eo?
  show Od? I.WT
 done:=by
  show w?
  show g?
  have#[xs,hq,hx]:=hg
  show Re?
  show t?
  show Dz?
  show NT? wpAny_pyNext_list_end Wn!
 self:=Vu! wpAny_pyIter_listiter
def Tg{P:Program}{w:World}{K:W.Frag}{tg:Expr}(a it:Addr):JSU (XQ K a) yh! where
 mem:=Sc
 obj:=KL! (by
  show BH?
  subst e
  show Dy?
  show LU?)
 keep:=JWB
 item:=by
  show w?
  show g?
  have#[xs,x,hq,hx]:=hg
  show Rf?
  show Fx?
  show t?
  show Oi? wpAny_pyNext_tuple_item JSz
  show K1?
  show Eo?
  show Od? I.UP
 done:=by
  show w?
  show g?
  have#[xs,hq,hx]:=hg
  show Rf?
  show t?
  show Dz?
  show NT? wpAny_pyNext_tuple_end JSz
 self:=Vu! wpAny_pyIter_tupleiter
def Jg8{P:Program}{w:World}{K:W.Frag}{tg:Expr}(it:Addr)(lo:Int)(n:Nat):JkO (cV lo n) (IsRangeIter h it (lo+(i:sB)*1) (GD!-(i:sB)) 1) where
 mem:=Sc
 obj:=KL! (by
  show BH?
  subst e
  show#[_,st,λv z=>by
   have z':Data.fields _=Data.cell v:=z
   cases z'])
 keep:=λi h h' st k=>k it Ch _ st
 item:=by
  show w?
  show g?
  show t?
  have W:=Walks.range (DC!:=FU!) (w:=X.w) IG! it lo 1 n
  show W.item i s _ _ hg st λv h' tk hv OV kk=>?_
  have#[t,rfl]:=hv
  show Ps? yn! (kk b o (by simpa using hb) e)
  show O? (j_ (s:=yn!) (n:="range_iterator") OV A! A! Op (l3! (He! (lo+i)) #[t,?_] ES!))
  rw[Int.mul_one]
 done:=by
  show w?
  show g?
  show t?
  show wpAny_pyNext_range_end IG! st (by have:n<=i:=hg;lia) mJ!
 self:=Vu! wpAny_pyIter_rangeiter
open S
variable {X:Cx Kx}{tg:Expr}
abbrev wU(K:W.Frag)(tl:TE):TI:=JY0 (Vq! H1) JF3
abbrev wF(K:W.Frag)(tl:TE):TI:=JY0 (ak! H1) JF2
def C6{X:F!}{l:Expr}{tl:TE}(hl:Vp!):uW! wU:=by
 show AC?;show BI?;show At?;have#[a,e,#[xs,hq],q]:=q1;subst e;cases r1;show IJ?;show fu! Wn! ?_;show LE? Jai;show DF?
 show H3?
def Jg{X:F!}{l:Expr}{tl:TE}(hl:Vp!):uW! wF:=by
 show AC?;show BI?;show At?;have#[a,e,#[xs,hq],q]:=q1;subst e;cases r1;show IK?;show fv! (JNm) ?_;show LE? Tg;show DF?
 show H3?
def Jfg{AB:Db}{σ:St}{H:Hp}{s:Shared}{R:b5!}{E:KE}{lo hi:Int}{t u v:Tok}{tk:Nat}(I:H!)(h1:Vm!<=lo)(h2:lo<TF!)(h3:Vm!<=hi)(h4:hi<TF!)(q:R (cV lo JmP) H):JBb (K4! pyIter sK) JeF JWE:=by
 show wpAny_pyIter_range (IsRange.new ..) (small_one h1 h2 h3 h4) ?_;show CZ? JWE (I.kept ZB!);show#[vC!,[vC!],_,_,H,A!,I1.kept (t':=tk) ZB!,Jg8 _ lo JmP,?_,Hh!,q];·(have e1:JJ5=lo:=Sc);(have e2:JWD=Builtin.Range.rangeSize lo hi 1:=ye! rangeSize_one);change IsRangeIter _ _ (JJ5) (JWD) 1;rw[e1,e2];show EP!
 ·(have e:b=vC!:=by simpa using hb);subst e;show I1.UB (ZG _) lf!
abbrev Jxk(ta:TA):TI:=vE! (∃j:Int,vs=[Ix j]/\Vm!<=j/\j<TF!/\R (cV 0 j.toNat) H1)
abbrev Jxj(ta:TA):TI:=vE! (G_ λ(i:Int)(j:Int)=>vs=[K9!,Ix j]/\(Vm!<=i/\i<TF!/\Vm!<=j/\j<TF!)/\R (cV i (Dh! (j-i))) H1)
def Fg{a:Expr}{ta:TA}{p pos:Pos}(hg:Gl X WW!)(hm:JET)(ha:PA X [a] ta)(hs:JnZ [a] a:=by rfl):JX8 [a] Jxk:=by show AC?;show JM? (JM (ix! ha s H I h (λus s1 #[vs,H1,I1,r1,q1]=>?_)) hs A!);have#[j,e,q1,q2,q]:=q1;subst e;cases r1 with | cons r rr =>cases rr;have#[t,rfl]:=r;show call_range_1 (Jfg I1 V! V! q1 q2 (by simpa using q))
def Jld(hg:Gl X WW!)(hm:JET)(ha:JLU)(hs:JYT:=by rfl)(cK:JTU:=by rfl) : JX8 IT! Jxj:=by show AC?;show JM? JbA;have#[i,j,e,#[q1,q2,q3,q4],q]:=q1;subst e;cases r1 with | cons r rr =>cases rr with | cons r' rr =>cases rr;have#[t,rfl]:=r;have#[t',rfl]:=r';show call_range_2 (Jfg I1 q1 q2 q3 q4 q)
abbrev Jwl(wi:TI)(g:TG)(tb:TS):TS:=KJ! (F0! wi (λJ H1=>JhC Bi! σ H1 (∀i m σ H,W i m σ H ->
 Qh! J.stop J.go Bi! J.TX)))
abbrev Ut(fp:X!)(h:Heap):Db:=fp.filterMap λb=>EI! KH! b (λo=>(b,o))
def Jk(hb:b∈fp)(e:Hj!):(b,o)∈Ut fp h:=LA.mpr #[b,hb,k9!]
def Jln(hp:p∈Ut fp h):g!∈fp/\ZO! g! wP:=by have#[b,hb,e]:=LA.mp hp;cases q:KH! b with | none=>show FP? | some o =>rw[q] at e;have e':(b,o)=p:=ZO e;subst e';show#[hb,q]
def Inv.pinned(I:H!)(hf:JpA)(ho:JNl HK!):Inv X (AB++Ut fp xz) σ H s :=I.ZY (Dv! (Vo! (ZI hp).elim (Sy! (Bu! z)) (by have#[hb,e]:=Jln z;have#[f0,f1,f2,_]:=hf g! hb;have#[o,e',d]:=ho g! hb;show j?;cases e';show#[e,f0,f1,f2,d])))
def Inv.OG(I:Inv X (AB++pl) σ H s):H!:=I.ZY (Dv! (Sy! (Bu! (F3! hp))))
def D8(hp:JbI)(hc:BY!)(hi:JQv)(hg:PG X tg g)(hb:RL X body tb)(hs:∀x,foldedSetIterable iter SL x=Er! x:=by intro _;rfl):PS X (.For tg iter body [] bi) (Jwl wi g tb):=by
 show Z?;show wpAny_For JPl hs;have#[it,fp,tn,J,H2,e,I2,T,gN,f2,W,#[m0,w0],turn]:=h2;subst e;show L6? JGc #[Dm! hn,(f2 b hb).2];show codeAny_forLoop_any (λn s'=>JPe Ze! (tn i IP!) (W i n FN H')) ?_ m0 #[0,σ,H2,I2,gN,UF (f2 b hb).1,w0];rintro n s3 ⟨i,aX,H3,I3,jG,UM,w3⟩;rcases Et! i n aX H3 w3 with⟨stop,qn⟩|⟨go,N,hN,step⟩;.show QL? T.done stop;rintro r s4 ⟨hr,I4⟩;subst hr;show PN #[aX,H3,I4,qn]
 .show QL? T.item go;rintro r s4 ⟨u,hr,h4⟩;subst hr;show JP hp (FV h4 ?_);rintro _ s5 ⟨x,H5,I5,r5,y5,eW,ak⟩;have I5':=I5.pinned (XW ak) (AC T.obj eW);show JP hp (FV (hg _ s5 aX H5 x u _ I5' r5 (step x H5 y5)) ?_);rintro _ s6 ⟨zx,H6,I6,q6⟩;show JP hp (FV (hb _ s6 zx H6 _ I6 q6) λf s7 q7=>?_);(have again:∀{Z':St} {H7:Hp},Inv X (AB++Ut fp s5.heap) Z' H7 s7->N Z' H7->∃m,m<n/\JPe (Y5! H' s7) (tn i s7.heap) (W i m FN H'):=λ{Z' H7} I7 n7=>by have#[m',hm,w7]:=hN Z' H7 n7;show#[m',hm,ww,Z',H7,I7.OG,JX7 eW I7.pin,Hh!,w7];show Nb? eW;show JPM I7.pin);cases f with | next=>show OT? | cont=>show OT? | brk=>have#[Z',H7,I7,q7]:=q7;show#[Z',H7,I7.OG,q7] | ret v=>have#[x7,Z',H7,I7,r7,q7]:=q7;show#[x7,Z',H7,I7.OG,r7,q7]
open E
def Kw{K:W.Frag}{a:Addr}{xs:C!}{g:TG}{tb:TS}{D:Ends}{σ:St}{H:Hp}(Pv:cH!)(h0:Pv!)(hl:di! Ei!)(hs:vF!)(hd:rs!) : V2! Bi! (UG! (Qh! (XR K a).stop (XR K a).go Bi! (XR K a).TX)):=by
 show Pi?;show Pf?
 show K7?
def Sv{K:W.Frag}{a:Addr}{xs:C!}{g:TG}{tb:TS}{D:Ends}{σ:St}{H:Hp}(Pv:cH!)(h0:Pv!)(hl:di! Dq!)(hs:vF!)(hd:rs!) : V2! Bi! (UG! (Qh! (XQ K a).stop (XQ K a).go Bi! (XQ K a).TX)):=by
 show Pi?;show Pf?
 show K7?
def Ge{lo:Int}{n:Nat}{g:TG}{tb:TS}{D:Ends}{σ:St}{H:Hp}(Pv:cH!)(h0:Pv!)(hs:∀i σ H,i<n->Yp!->kk! (Az! (lo+i)))(hd:∀σ H,Pv n σ H->JQ! H) : V2! Bi! (UG! (Qh! (cV lo n).stop (cV lo n).go Bi! (cV lo n).TX)):=by
 show Cb? (λi m σ H=>m=n-i/\i<=n/\Yp!) n;rintro i m σ H ⟨rfl,hi,p⟩;by_cases JK:i<n;.show Ej? JK (n-v6);have#[e,y]:=y;subst e y;show hs i σ _ JK p
 show I2? (F0! hd p)
@[reducible]abbrev R2:=VS!
abbrev PZ(X:F!)(f:V0!)(r:R2):B! :=
 ∀(AB:Db)(s:Shared)(σ:St)(H:Hp)(x y:V)(v u:Value)(Q:VK),JIw (eU! y ->
  Jj! (f v u))
abbrev vz(X:F!)(f:JDj)(r:qe!):B! :=
 ∀(AB:Db)(s:Shared)(σ:St)(H:Hp)(x:V)(v:Value)(Q:VK),JB1 (r x H Q ->
  Jj! (f v))
abbrev HQ(X:F!)(f:Value)(r:JNO):B! :=
 ∀(AB:Db)(s:Shared)(σ:St)(H:Hp)(xs:C!)(us:d!)(Q:VK),ih! Hp! (Vr! r ->
  Jj! (call f us))
abbrev Jz7(X:F!)(r:V->h8! (GN!)):B! :=
 ∀(AB:Db)(s:Shared)(σ:St)(H:Hp)(x:V)(v:Value)(Q:GN!),JB1 (r x H Q ->
  JmV (truthy v))
abbrev VW(r:R2)(ta tb:TE):TE:=JRM Q
abbrev tUn(r:qe!)(ta:TE):TE:=Lk! (r x H1 Q)
inductive IrI(C:ts!)(g:da!)(x:V)(y:V)(H:Hp)(Q:VK):B!
 | mk (i j) (e0:Lv!) (e1:UL!) (e2:C i j) (e3:Q S5! H)
abbrev rI(C:ts!)(g:da!):R2:=Q0! (IrI C g x y H Q)
inductive J0a(g:da!)(x:V)(y:V)(H:Hp)(Q:VK):B!
 | mk (i j) (e0:Lv!) (e1:UL!) (e2:Q S5! H)
abbrev cG(g:da!):R2:=Q0! (J0a g x y H Q)
inductive IrU(g:GE->V)(x:V)(H:Hp)(Q:VK):B!
 | mk (i) (e0:Lv!) (e1:Q (g i) H)
abbrev rU(g:GE->V):qe!:=λx H Q=>IrU g x H Q
open S
variable {X:Cx Kx}{a b c:Expr}{ta tb tc:TE}{pos:Pos}
def wI(ha:C6!)(hb:Gb!){AB:Db}{s:Shared}{σ:St}{H:Hp}{R:JDE}(I:H!)(h:JLr){Q:KE}{f:V0!}(hf:Jd1) : JM5:=JfQ
def A3{op:Operator}{r:R2}(ho:PZ X (binaryOp op) r)(ha:C6!)(hb:Gb!):A0! (.BinOp a op b bi) es!:=JDs wpAny_BinOp JcV
def Jw3(ho:vz X (unaryOp op) r)(ha:C6!):A0! (.UnaryOp op a bi) (tUn r ta):=z4! UnaryOp_ (JY1 ho)
def pq{f:V0!}{C:ts!}{g:JDb}(rule:∀(i j:Int) (t u:Tok) (s:Shared) (Q:KE) (E:KE),C i j->JYr->JkK (f UB! (XV j u))) : PZ X f (rI C JtI):=by show AD?;have#[i,j,rfl,rfl,hc,q]:=h;show Y?;show BO?;show rule i j t t' s _ _ hc JDA
def Jw8{f:V0!}{g:JDb}(rule:JL7 JYr) : PZ X f (cG JtI):=JfA JDA
def qz{f:V0!}{g:ql!}(rule:JL7 (Q (Au! S5!) s)) : PZ X f (cG λi j=>AG! S5!):=JfA (Vb! (AG! S5!))
abbrev J0d(i j:Int):B!:=0<j/\j<1073741824
abbrev J0c(i j:Int):B!:=0<=j/\j<=1000000/\i.natAbs<VE!
abbrev i8(i j:Int):B!:=(-(VE!)<i/\i<VE!)\/(-(VE!)<j/\j<VE!)
def i8.ok(h:i8 i j):IntMulOk i j:=by
 rcases h with⟨h1,h2⟩|⟨h1,h2⟩;.show .of_left JWm
 .show .of_right JWm
def E6:JYK .Add (i+j):=JGD add_int
def sN:JYK .Sub (i-j):=JGD sub_int
def Fj:uU! .Mult i8 (i*j):=JHh (mul_int q hc.ok)
def Gx:uU! .FloorDiv J0d (i / j):=JHi (by have h1:R7!<j:=hc.1;have h2:j<1073741824:=hc.2;show floordiv_int (RV h1) (JW3 Int.fdiv_eq_ediv_of_nonneg h1) (K8! PyProof.noPylong_small V!))
def Dc:PZ X (binaryOp .Mod) (rI (λ_ j=>0<j) λi j=>He! (i % j)):=JHi (by have h1:R7!<j:=hc;show mod_int' (RV hc) (JW3 Int.fmod_eq_emod_of_nonneg hc))
def Jom:uU! .Pow J0c (i ^ j.toNat):=JHh (pow_int_small hc.1 hc.2.1 hc.2.2 q)
def unI{f:JDj}{g:GE->GE}(rule:∀(i:Int) (t:Tok) (s:Shared) (Q:KE) (E:KE),JlZ (XV (g i) Es!)->JkK (f UB!)) : vz X f (rU λi=>XV (g i)):=by show HZ?;have#[i,rfl,q]:=h;show Y?;show rule i t s _ _ (Ov! (XV (g i)))
def Jt0:vz X (unaryOp .USub) (rU λi=>He! (-i)):=unI λ_ _ _ _ _ q=>neg_int q
open E
abbrev Jwr:V->V->A8!
 | .FJ,.FJ=>true|.FJ,.int _=>true|.int _,.FJ=>true|.FJ,.bl _=>true|.bl _,.FJ=>true|.FJ,.str _=>true|.str _,.FJ=>true
 | .int _,.int _=>true|.bl _,.bl _=>true|.str _,.str _=>true|.XN _,.XN _=>true
 | .int _,.str _=>true|.str _,.int _=>true|.bl _,.str _=>true|.str _,.bl _=>true
 | _,_=>false
abbrev jJ:R2:=JZy (cW! (x=y))
abbrev rNe:R2:=JZy (JG8 (x=y))
def Pu:Jhv i j=(i==j):=pm!
def Jqd:Go (V.bl i=V.bl j)=(i==j):=pm!
def Jkl:Go (AA! i=AA! j)=(i==j):=pm!
def Jkm:Go (V.XN i=V.XN j)=(i.toList==j.toList):=by rw[NZ];cases i;cases j;simp
open S
variable {X:Cx Kx}{a b c:Expr}{ta tb tc:TE}{pos:Pos}
def B6(I:H!)(q:La! k)(e:k=k'):Z2! (Au! k') s:=by subst e;show#[AG! k,H,I,A!,q]
def Cj:JCN jJ:=by show AD?;have#[hs,q]:=h;cases x with | FJ =>show J?;(cases y with | FJ=>show s? PySem.EqNone.eq_none_none | bl j=>show s? PySem.EqNone.eq_none_bool | int j=>show AA? PySem.EqNone.eq_none_int | str j=>show AA? PySem.EqNone.eq_none_str | _=>show AB?) | bl i =>show J?;(cases y with | FJ=>show s? PySem.EqNone.eq_bool_none | bl j=>cases ry;show eq_bool (B6 I q Jqd) | str j=>show AA? PySem.EqMixed.eq_bool_str | _=>show AB?) | int i =>show Y?;(cases y with | FJ=>show s? PySem.EqNone.eq_int_none | int j=>show EV? eq_int Pu | str j=>show AA? PySem.EqMixed.eq_int_str | _=>show AB?) | str i =>show Y?;(cases y with | FJ=>show s? PySem.EqNone.eq_str_none | bl j=>show s? PySem.EqMixed.eq_str_bool | int j=>show AA? PySem.EqMixed.eq_str_int | str j=>show EV? eq_str Jkl | _=>show AB?) | XN i =>show Y?;(cases y with | XN j=>show EV? W.eq_bytes Jkm | _=>show AB?) | _=>show K8?
def kC:ip! .NotEq rNe:=by show AD?;have#[hs,q]:=h;cases x with | FJ =>show J?;(cases y with | FJ=>show s? PySem.EqNone.ne_none_none | bl j=>show s? PySem.EqNone.ne_none_bool | int j=>show AA? PySem.EqNone.ne_none_int | str j=>show AA? PySem.EqNone.ne_none_str | _=>show AB?) | bl i =>show J?;(cases y with | FJ=>show s? PySem.EqNone.ne_bool_none | bl j=>cases ry;show ne_bool (B6 I q (FW! not Jqd)) | str j=>show AA? PySem.EqMixed.ne_bool_str | _=>show AB?) | int i =>show Y?;(cases y with | FJ=>show s? PySem.EqNone.ne_int_none | int j=>show FV? ne_int Pu | str j=>show AA? PySem.EqMixed.ne_int_str | _=>show AB?) | str i =>show Y?;(cases y with | FJ=>show s? PySem.EqNone.ne_str_none | bl j=>show s? PySem.EqMixed.ne_str_bool | int j=>show AA? PySem.EqMixed.ne_str_int | str j=>show FV? ne_str Jkl | _=>show AB?) | XN i =>show Y?;(cases y with | XN j=>show FV? W.ne_bytes Jkm | _=>show AB?) | _=>show K8?
def Jw:e7! .Lt (i<j):=eB! lt_int
def Jtp:e7! .LtE (i<=j):=eB! le_int
def mY:e7! .Gt (j<i):=eB! gt_int
def Jw7:e7! .GtE (j<=i):=eB! ge_int
def Jlf:ip! .In (Q0! JcR):=by show AD?;have#[i,j,rfl,rfl,q]:=h;show Y?;show BO?;show in_str (B6 I q A!)
def xD:JUe .Is (cW! (x=wS)):=Jc4 is_none_gen
def Jju:JUe .IsNot (JG8 (x=wS)):=Jc4 isnot_none_gen
def A6(b:Expr)(h:op≠.In:=by decide)(h2:op≠Qx!:=by decide):Qd!:=by
 show K9?
 show LH?
 show Jf?
def Jh{op:CmpOp}{r:R2}(ho:uH!)(ha:C6!)(hb:Gb!)(hm:Qd!):JUw es!:=by show P?;show yF! (JcV) hm
inductive Jv4  (x:V) (H':Hp) (Q:GN!):B!
 | mk (k) (e0:x=AG! k) (e1:Q k H')
abbrev Og(t:TE):TT:=Jhd (λx H'=>Jv4  x H' Q)
def Av(ho:uH!)(ha:C6!)(hb:Gb!)(hm:Qd!):Jbr Og es!:=by show P?;show yG! (Jnv (JjQ hb (Jce (λc s3 #[z,H3,I3,r3,k,e,q3]=>?_)))) hm;subst e;cases r3;show KJ #[H3,I3,q3]
abbrev Juf(r r':R2)(ta tb tc:TE):TE:=JRM (λz H3=>∃k,z=AG! k /\
 So! (k=true) (tc σ H3 λw' H4=>r' y w' H4 Q) (Q (AG! Os) H3))
def Joj(ho:uH!)(bD:ip! op' r')(ha:C6!)(hb:Gb!)(hc:A0! c tc)(hm:A9! (lastMarks [op,op'] [b,c]):=by with_unfolding_all rfl):A0! (.Compare a [op,op'] [b,c] bi) (Juf r r' ta tb tc):=by show P?;show Compare_chain (Jnv (chain_link (FV (JhM hb) (Jce (λd s3 #[z,H3,I3,r3,k,e,q3]=>?_))))) hm;subst e;cases r3;show KJ ?_;cases k with | false=>show ite_ff #[q9!,H3,I3,A!,q3] | true=>show ite_tt (chain_last (FV (Ns! hc s3 H3 I3 q3) λw' s4 #[z',H4,I4,r4,q4]=>bD AB s4 σ H4 y z' u w' Q I4 r2 r4 q4))
abbrev Jxz(K:W.Frag)(x:V)(H:Hp)(k:Bool):B! :=
 match x with
 | .FJ=>k=false
 | .bl b=>k=b
 | .int i=>k=(i != 0)
 | .str y=>zi!/\k=(oJ fw! != 0)
 | .XN y=>zj!/\k=(oJ y.size != 0)
 | .ref p=>JXi dt! rl!
 | _=>False
def Jij(r:Dk!):(!vs.isEmpty)=!kvs.isEmpty:=by cases r<;>rfl
def Vo(r:av!):(!its.toArray.isEmpty)=!xs.isEmpty:=by cases r<;>simp
def Qo:(sizeLine:sB)<2 ^ 63:=by rw[CQ];decide
def Jt1{X:F!}:Jz7 X (λx H Q=>∃k,Jxz Kx x H k/\Q k H):=by show HZ?;have#[k,e,q]:=h;have hl:=Qo;have hs:JhJ:=CQ;cases x with | FJ =>show JR? (k=false) truthy_none | bl b =>show JR? (k=b) KJ | int i =>show Y?;have e':k=(i != 0):=e;subst e';show PySem.P.truthy_int #[H,I,q] | str y =>show OH? zi! fw! PySem.P.truthy_str V! | XN y =>show OH? zj! y.size W.truthy_bytes (AA (hs▸hy) Op) | ref p =>show J?;have e':JXi (DT Kx H p xs) (FD Kx H p xs):=e;rcases e' with⟨xs,hx,e'⟩|⟨xs,hx,e'⟩|⟨kvs,hx,e'⟩;(.subst e';show CL? (DK! hx);show D0?;show JUB wpAny_truthy_list Mn!);(.subst e';show CL? (Gc! hx);show D0?;show JUB truthy_tuple pl);.subst e';obtain⟨hz,hS,vs,r,m⟩:kU! (CA! (p==sysModules)) (∃vs,Dk!/\s.heap.DictOf TR! p vs):=SL! p hx;have hlen:fx!:=ol!;show wpAny_truthy_dict hS m V! #[H,I.tok _,S! (Jij r) q] | _=>show(show False from e).elim
def Jfi{X:F!}(ha:C6!)(he:JZx (isTrue a SL whole) a.pos) :
 PT X a (h4! ta (λx H'=>∃k,Jxz Kx x H' k/\Q k H')):=by
 show P?
 show isTrue_plain (JY1 Jt1) (he _)
def Bb:JEf (Q0! (G_ λi j=>x=wE i/\y=wE j/\DM! (i.length+j.length)/\ck! (i++j))):=by show AD?;have#[i,j,rfl,rfl,hz,q]:=h;show Y?;show BO?;show add_str (λt' tk=>Ov! (FB (i++j))) hz
def vals1(r:Yc! [x]):JS1:=by cases r with | cons r1 r2=>show Ch? r2 r1
def vals2(r:JAh):G_ λu w'=>us=[u,w']/\Jh!/\ED! y w':=by cases r with | cons r1 r2 =>cases r2 with | cons r3 r4=>show FN? r4 r1 r3
inductive Jiz(xs:C!)(H:Hp)(Q:VK):B!
 | mk i j (_:JtP) (_:JG7 (j > i))
def Jmf(hc:BY!):jB! "max" Jiz:=by
 show PL? max_two_ints (j > i);show PC?
 show N1?
inductive Jiy(xs:C!)(H:Hp)(Q:VK):B!
 | mk i j (_:JtP) (_:JG7 (j<i))
def Jme(hc:BY!):jB! "min" Jiy:=by
 show PL? min_two_ints (j<i);show PC?
 show N1?
def Jmh:JEj (λxs H Q=>(∃i,xs=[K9!]/\Oh! i)\/∃k,xs=[AG! k]/\lc! JNs):=by
 show a?;rcases h with⟨i,rfl,q⟩|⟨k,rfl,q⟩;.show Bv?;show call_int_int #[K9!,H,I,BR!,q]
 .have#[u,rfl,r1]:=vals1 r;cases r1;show call_int_bool (Ov! (He! JNs))
inductive Fn(xs:C!)(H:Hp)(Q:VK):B!
 | mk i (_:xs=[K9!]) (_:JtQ) (_:Q (FB (Wo! i)) H)
def EU:JEk Fn:=by show a?;have#[i,rfl,hz,q]:=h;show Bv?;show PySem.P.str_of_int hz (Ov! (FB _))
open E
structure YE(h:Heap)(x dx C:Addr)(mA:AC!):B! where
 obj:Br! KH! s4!
 ns:u8!
 ne:dx≠x
def Jlt{h:Heap}{dx:Addr}{mA:AC!}(n:u8!):Jd4 (ZO! dx od):=by
 have#[o,es,ep,ho,hd,hk,_,hm]:=n;show#[o,ho,λname=>?_];have e:=hm Gd!;unfold nsFind findBy at e;rw[<-Array.find?_toList] at e;unfold W.lookIn;rw[hd];show AE?;split;.rename_i y q;rw[q] at e;show FW! re e
 .rename_i q;rw[q] at e;(have a:A9! (zw! (·.refKey)):=by rw[zx!];intro y hy;have#[z,t,aU]:=hk y (Array.mem_toList_iff.mp hy);simp[DictEntry.refKey,aU]);(have a':¬BQ! zw! (·.refKey):=S! a AQ);rw[AD a'];show FW! re e
def YE.look(I:YE h x dx C mA):Jd4 (W.InstAt h x s4! C (re od)) :=let#[od,ho,hl]:=Jlt I.ns;#[od,#[I.obj,A!,A!,ho],hl]
open S
variable {prog:Program}{w:World}{A:Around}{E:Value->Shared->Prop}{s:Shared}{K:W.Frag}{x dx C f:Addr}{mA:Str->Option Value}{name:Str}{v:Value}
def Jsq{expr:Bool}{Q:KE}(X:IC!)(I:tK!)(hg:JHY)(hh:dR!)(ha:Hw! Gd!)(hv:w! mA Gd! v)(hv':zn! v)(h:Q v Zg!) : t4! getAttr expr:=x4! (W.get_value X J JO2 (W.findObj_own hh ha A! (GJ! hl hv)) hv' h)
def Jpu{pl:pu!}{Q:HF! (Value×d!)}(X:IC!)(I:tK!)(hg:JHY)(hf:mA! Gd!)(ht:d6!)(hv:B7! mA Gd!)(h:Q (SB f,[Tl!]) s) : t4! getMethod pl:=x4! (W.method_fn X J JO2 (W.plainGet_of hg).2 hf (MO.mp ht) (by change w! (W.lookIn Gd! od).map (·.isSome) Os;rw[hl,hv];rfl) h)
def Jq9{ns:Z!}{Q:Do!}(X:IC!)(I:tK!)(hs:ud!)(hp:qX!)(ht:JXA Gd!)(hh:dR!)(hw:PySem.Within mA ns)(hsz:z0!)(h:∀h',YE h' x dx C (λy=>Te! (y=name) v (mA y))->JhZ dx->Q () { s with heap:=h',toks:=s.toks+2 }) : t4! setAttr v:=by have#[od,J,hl]:=I.look;show W.set_plain X J hs (W.osa_open (s:=Zg!) (r:=Rs) X J hp ht λb=>?_);have#[cd,hc,VX]:=W.any_some hh;have hx:Br! Cd! #[LN!,D! dx,.plain,Ep!]:=I.obj;show S? ZS (ZR (ZR (z1! hx (ZR (W.Looks.here (s:=Zg!) (W.looks_clsIn X hc) ?_)))));rw[VX];show ZS (a:=D! dx) (ZR (SN! ?_));show wpAny_nsSet1 (s:=Zg!) I.ns λh' fK cK=>?_;have#[oD,esD,epD,hoD,hdD,hcD]:=fK.count (PySem.Within.cons Gd! v hw);show ZR (wpAny_lookBehind hoD (l! hdD (pastItsLine_dict (AA hcD (l! A_ (ic! hsz))))) ?_);show ZS (h _ #[(cK.2 _ (JE! I.ne)).trans I.obj,fK,I.ne] cK)
def Jo9{R:b7!}{vs:d!}{kw:TL!}(X:IC!)(hm:qY!)(hi:JHX)(hf:W.typeIn K ZP!=D! (DE! "function"))(h:Mp! K1! (JqR #[LN!::vs,kw]) (Hb! Q3! f #[JCE::vs,kw]) (W.InitBack (JJ!) R) Jcf) : fC! (Hb! Q3! C #[vs,kw]):=by have#[hh,g,d,t,os]:=s;show W.make_core (W.makes_of X hm) (W.looks_findIn X hi) (λself=>W.bind_fn X self hf) HW! h
open E
abbrev As(f:Str)(v:V):EX!->EX!
 | []=>Eb! f
 | (g,x)::r=>if g=f then(g,v)::r else(g,x)::As f v r
def Bj(f g:Str)(v:V):my! ((As f v fs).lookup g=Te! (g=f) v (fs.lookup g))
 | []=>by change List.lookup g (Eb! f)=_;by_cases h:g=f;(.have hb:Ac! (g==f):=MO.mpr h;simp only[List.lookup,hb,Ed!]);.show IE? (CA! (g==f)) FO!
 | (k,x)::r=>by have ih:=Bj f g v r;show Gm?;by_cases hk:k=f;(.rw[AF hk];by_cases h:g=k;(.show JN? (AF (h.trans hk)));.show IE? (CA! (g==k)) (AD (λe:g=f=>h (e.trans hk.symm))));.rw[AD hk];by_cases h:g=k;(.show JN? (AD (λe:g=f=>hk (h.symm.trans e))));.have hb:CA! (g==k):=Wp! h;simp only[List.lookup,hb];show ih
def Qr(f:Str)(v:V):my! (f∈JAU/\∀g,g∈wv Qo!->g∈JAU)
 | []=>#[by simp[As],λg h=>B1!]
 | (k,x)::r=>by have#[i1,i2]:=Qr f v r;show Gm?;by_cases hk:k=f;(.rw[AF hk];subst hk;show#[Sc,λg h=>OK!]);.rw[AD hk];show#[?_,λg h=>?_];(.rw[AO];show ZD _ i1);.rw[AO] at h ⊢;rcases ZM h with e|e;(.show Q4! (y! e));.show ZD _ (i2 g e)
def Ba(f:Str)(v:V):my! ((As f v fs).length<=fs.length+1)
 | []=>by simp[As]
 | (k,x)::r=>by have ih:=Ba f v r;show Gm?;by_cases hk:k=f;(.rw[AF hk,A_,A_];show Uw!);.rw[AD hk,A_,A_];show FL ih
def qi{v:V}{o:Kw!}(r:RT (re v) o):∃u,o=D! u/\CF!:=by cases o with | none=>show BK? | some u=>show#[u,A!,r]
def Qac(r:RT Rs o):o=none:=by cases o with | none=>rfl | some u=>show BK?
def Jl5(r:CF!):zn! u:=by cases v with | FJ=>show DT? fX! | bl b=>show DT? JDl | int i=>show DV? UD! | str x=>show DV? eQ! | XN b=>show DV? JIX | fW b=>show DV? JIY | ref a=>show DT? JhA | ty n=>show DT? JsN
open S
def Ss(EE:C8!)(e:U1!):∃mA,YE h a dx C mA/\(v9!)/\JaP/\JsU/\JIl:=by have#[d,z,ne,ob,mA,n,r,q]:=JKi Sh! EE;show#[mA,#[ob,n,ne],r,q,z,d]
open E
structure WK(K:W.Frag)(C:Addr):B! where
 pg:JHZ
 hd:dR!
 po:qX!
 sa:ud!
def WK.get{K:W.Frag}{C:Addr}(c:ao!)(f:Str):W.plainGet K C f=true:=c.pg
abbrev F_(K:W.Frag)(C:Addr)(f:Str):B!:=JCg
def F_.oq{K:W.Frag}{C:Addr}{f:Str}(n:Hx! f):JXA f:=by unfold W.takerIn;rw[show JCg from n];rfl
structure jx(K:W.Frag)(C:Addr)(m:Str)(f:Addr):B! where
 at_:mA! m
 fn:d6!
 kp:JFl
open S
def Vq{X:F!}(I:H!)(e:U1!)(c:Qc!)(n:F_ Kx C f)(l:ut!)(h:∀u s',jr!->CF!->Q u s'):Y0! (getAttr Bw! f b):=by show Rg?;have#[u,hu,ru]:=As! qi v v o (mA f) (Bz! l (r f));show Jsq DJ! O (c.get f) c.hd n hu (Jl5 ru) (h u _ iv! ru)
def Nx{X:F!}(I:H!)(e:U1!)(c:Qc!)(k:jx Kx C m g)(l:qt!)(h:Q (SB g,EV!) s):JBv getMethod m pl:=by show Rg?;have hn:TX! mA:=SH! Qac l (r m);show Jpu DJ! O (c.get m) k.at_ k.fn hn h
def Tw{X:F!}(I:H!)(e:U1!)(c:Qc!)(n:F_ Kx C f)(hl:JtU)(ry:CW!)(h:∀s',JEV JAl s'->Q () s'):Y0! (setAttr Bw! f u):=by
 have#[mA,O,r,wi,_,ho]:=SI! Ss;have hz:DM! (Qo! be).length:=JPr CQ hl
 show Jq9 DJ! O c.sa c.po n.oq c.hd wi hz λh' O' sb=>h _ ?_;have hd:∃o,o8! dx:=let#[o,_,_,e',_]:=O'.ns;#[o,e'];show I.write (x:=a) (e:=dx) (l! e Wq!) (CB! ho) (λb q hb z=>(sb.2 b hb).trans z) hd ?_;show#[WF O.ne ho,?_,O.ne,O'.obj,_,O'.ns,λg=>?_,λg hg=>?_];.have:=Ba f y fs;lia
 .change RT ((As f y fs).lookup g) JXu;rw[Bj];by_cases q:g=f;(.rw[AF q,AF q];show ry);.rw[AD q,AD q];show r g
 .by_cases q:g=f;(.rw[q];show(Qr f y fs).1);.show(Qr f y fs).2 g (wi g λz=>hg ?_);change JXu=none;rw[AD q];show z
def Inv.BB(I:H!):DY! (tr! sK PO! PO! (LH! sK [])) Jcf:=by
 have e1:w! (IS! KM!).get? sK KM!:=ZU xz A!;have e2:im! ((IS! KM!).push (fc! C sK)).get?=D! (fc! C sK):=by have:=ZU (IS! KM!) (o:=fc! C sK) A!;show BP? KW
 have e3:(IS! KM!).Ns sK (Q5!):=#[KM!,Ep!,_,e1,A!,(λe he=>OF! he Ch),KN!];have I1:=I.laid (a:=sK) (o:=im! IM!) (h':=IS! KM!) (t':=Es!) (JsY) Bh! #[_,e1];show ZX! I1.laid JJ! (.ins C sK []) Es! (JsY) (BQ (Ab! KW)) ?_;have ne:s.heap.objs.size≠JJ!:=BU (Q_ _);show#[A5! (Ad ne) Ab,AL!,ne,e2,Q5!,(Heap.Ns1.of_empty e3).at λo q=>F6! q,λ_=>True.intro,IW! (lQ! hy)]
def Js5(hb:JAJ e f env (eval e env)=eval e env)(h:JGH (eval e env) (Vh! (getAttr o f GM) ER)):JPn Mr! e f :=Attribute_any_ h (GJ! arm_eval_Attribute hb)
open E
inductive Jx8(K:W.Frag)(f:Str)(x:V)(H1:Hp)(Q:VK):B!
 | mk (a C dx fs v) (e0:Bx!) (e1:ep!) (e2:ao!) (e3:Hx! f) (e4:ut!) (e5:dW!)
abbrev dX(K:W.Frag)(ta:TE)(f:Str):TE:=Lk! (Jx8 K f x H1 Q)
abbrev Jy8(K:W.Frag)(ta tv:TE)(f:Str):TS:=JFE (λy H1=>ER! ta (λx H2=>V_ λa C dx fs=>JXN (JD! H2 Sh!) (JtU /\
 JQ! (IR H2 a JAl))))
abbrev qt(X:F!)(op:Operator)(rd:VS!):B! :=
 ∀(AB:Db)(s:Shared)(σ:St)(H:Hp)(x y:V)(u v:Value)(Q:VK),H!->Jh!->ED! y v->rd x y H Q->Jj! (inplaceOp op u v)
abbrev Jrh(K:W.Frag)(ta tv:TE)(rd:VS!)(f:Str):TS:=KJ! (F0! ta (λx H1=>bO λa C dx fs v=>JXN ep! (ut! /\
 ER! tv (λy H2=>rd v y H2 λz H3=>G_ λvf cQ=>JD! H3 (LH! vf cQ)/\cQ.length<1000/\JQ! (IR H3 a (LH! vf (As f z cQ)))))))
open S
def An{X:F!}(he:A0! e ta)(hb:JAJ e f SL r7!=YU! e):A0! (Mr! e f bi) (dX Kx ta f):=by show P?;show Js5 hb ka!;rintro u s1 ⟨x,H1,I1,rx,a,C,dx,fs,v,ex,ea,c,n,l,q⟩;subst ex;show z?;show Vq I1 ea c n l λu' s2 I2 ru=>#[v,H1,I2,ru,q]
def Dj{X:F!}(ha:VH!)(hv:el!)(hs:JY8 Mr! f):JZW Mr! f (Jy8 Kx ta tv f):=by show Z?;show plainObj_wpAny_Assign_Attribute (h6! hv ?_) hs;rintro u s1 ⟨y,H1,I1,ry,q⟩;show x? (Ns! ha s1 H1 I1 q);rintro ov s2 ⟨x,H2,I2,rx,a,C,dx,fs,ex,ea,c,n,l,q2⟩;subst ex;show Jm?;show Tw I2 ea c n l ry λs3 I3=>#[σ,_,I3,q2]
def Cr{X:F!}(ha:VH!)(hv:el!)(ue:qt X op rd):JZQ (Mr! o f yI) (Jrh Kx ta tv rd f):=by show Z?;show B1? wpAny_AugAssign_AttributeAny;rintro ov s1 ⟨x,H1,I1,rx,a,C,dx,fs,v,ex,ea,c,n,l,q⟩;subst ex;show Jm?;show Vq I1 ea c n l λu s2 I2 ru=>FV (Ns! hv s2 H1 I2 q) ?_;rintro w3 s3 ⟨y,H2,I3,ry,q3⟩;show x? (ue AB s3 σ H2 v y u w3 _ I3 ru ry q3);rintro w4 s4 ⟨z,H3,I4,rz,vf,cQ,hG,l',q4⟩;show Tw I4 hG c n l' rz λs5 I5=>#[σ,_,I5,q4]
inductive Jzj(x:V)(y:V)(H:Hp)(Q:VK):B!
 | mk i j (_:Lv!) (_:UL!) (_:lc! (i+j))
inductive Jy9(x:V)(y:V)(H:Hp)(Q:VK):B!
 | mk i j (_:Lv!) (_:UL!) (_:lc! (i-j))
def Ec:qt X .Add Jzj:=JdM PyProof.Rows.iadd_int (i+j)
def Jpk:qt X .Sub Jy9:=JdM PyProof.Rows.isub_int (i-j)
open E
open S
inductive Q5(K:W.Frag)(H:Hp):JIA where
 | FJ:jD! wS "NoneType"
 | bl (x:Bool):qc! AG! "bool"
 | int (i:Int):jD! Ui! Mo!
 | str (x:Str):qc! FB Q2!
 | fW (x:UInt64):qc! .fW "float"
 | BM {a:Addr} {xs:C!} (e:JPx):JHB
 | IC {a:Addr} {o:Obj} {xs:C!} (e:EM! uE!):JHB
 | BV {a:Addr} {xs:C!} (e:q4!):jD! Bw! IQ!
 | dK {a:Addr} {kvs:BU!} (e:ML!):JHC
 | dT {a:Addr} {kvs:Ag!} (e:P9!):JHC
 | ins {a C dx:Addr} {fs:EX!} (e:U1!) (cl:ao!) (ha:JSG)
  (hn:vw!) (htk:vy!)
  (hm:JF1):Q5 K H Bw! Sx!
def Jlx{X:F!}(I:H!)(rx:Jh!)(ty:Q5 Kx H x t)(e:Wr! Kx t c=D! b)(h:∀tk,Q (Au! b) { s with toks:=tk }) : JjT "isinstance" [u,c]:=by cases ty with | FJ=>show KR? fX! W.kitx_none | bl y=>show KR? (u=fY! y) W.kitx_bool | int i=>show GV? UD! W.kitx_int | str y=>show GV? (∃t,u=WS! y t) W.kitx_str | fW y=>show GV? (∃t,u=Value.float y t) W.kitx_float | @BM a xs ea =>show BJ?;have#[_,_,n,_,h1]:=WK! (Ai! xs);show Oi! W.kitx_list (Dg! h1) | @IC a ob xs ea =>show BJ?;have#[_,_,_,n,_,h1]:=WK! (Zn! Ai! xs);show Oi! W.kitx_list (Dg! h1) | @BV a xs ea =>show BJ?;have#[_,_,_,p]:=WK! (ii xs);have#[o,h1,h2,_]:=p;show Oi! W.kitx_tuple #[o,h1,h2] | @dK a kvs ea =>show BJ?;have#[_,_,vs,_,p]:=WK! Vf!;have#[o,es,ep,h1,h2,_]:=p;show Oi! W.kitx_dict #[o,h1,h2.1] | @dT a kvs ea =>show BJ?;have#[_,_,xs,_,o,es,ep,h1,h2,_]:=WK! dV!;show Oi! W.kitx_dict #[o,h1,h2.1] | @ins a C dx fs ea cl ha hn htk hm =>show BJ?;have#[mA,O,_]:=Ss DI! ea;have#[od,J,_]:=O.look;show Oi! (W.kitx_own (cl.get _) cl.hd ha hn htk hm) J
open E
structure DW(k:Nat)(A:Around):B! where
 hd:Gf!
 dp:A.depth+3*k+5<recursionLimit
 un:A.units+16*k+200<cLine
def DW.mono(r:P6!)(h:j<=k):DW j A:=#[r.hd,by have:=r.dp;lia,zp!]
def DW.deeper(r:DW (k+1) A)(env:Env):l1! env :=#[r.hd,by have:=r.dp;change A.depth+1+3*k+5<_;lia,by have:=r.un;change A.units+3+16*k+200<_;lia]
def Jib{A:Around}{C:Addr}{us:d!}{kw:TL!}:(A.under (.builtin "type.__call__" dj!)).depth=A.depth+1:=by first|rfl|simp[Around.under,Code.weight,Code.isCreation,Code.isGuard,Code.isCaller,Code.frames,Code.isFrame,guardIds]
def Jia{A:Around}{C:Addr}{us:d!}{kw:TL!}:(A.under (.builtin "type.__call__" dj!)).units=A.units+1:=by first|rfl|simp[Around.under,Code.cUnits,Code.frames,Code.isFrame]
def DW.make(r:DW (k+1) A)(C:Addr)(us:d!)(kw:TL!):DW k (A.under (Eu! "type.__call__" dj!)) :=#[r.hd,by have:=r.dp;rw[Jib];lia,by have:=r.un;rw[Jia];lia]
def DW.depth(r:P6!):A.depth<recursionLimit:=by have:=r.dp;lia
def DW.units(r:P6!):JCt:=zp!
abbrev F3:TA:=iP! []
abbrev Cm(ta:TE)(tr:TA):TA:=Lk! (ER! tr (λxs H2=>Q (x::xs) H2))
open S
def Ae:PA X [] F3:=λ_ _ _ _ H Q I h=>KL #[[],H,I,U!,h]
def Aa(ha:MH!)(hr:qW!)(hs:KG!:=by rfl):PA X (Ml!) (Cm te t):=by intro pos AB s σ H Q I h;rw[hs];show CY? (spliced (Jho::backTo bi (fp! es SL)));show B1? HZ;show Hd?;show FV (hr bi AB s1 σ H1 _ I1 q1) λus s2 #[xs,H2,I2,r2,q2]=>#[x::xs,H2,I2,Lq! r1 r2,q2]
inductive Jx6  (xs:C!) (H1:Hp) (Q:VK):B!
 | mk  (e0:IK!) (e1:JCq (E4! H1 p ii xs))
abbrev rD(t:TA):TE:=JQs Jx6
inductive Jx7  (xs:C!) (H1:Hp) (Q:VK):B!
 | mk  (e0:IK!) (e1:JCq (YZ! H1 xs))
abbrev Jyk(t:TA):TE:=JQs Jx7
def D0(h:qW!):PE X (.Tuple es x1 bi) (rD t):=by intro AB s σ H Q I hq;show wpAny_Tuple_spliced (ix! h s H I hq JNv);show Jn?;show PY? (cL! H1 Dw! xs);show#[z,us,r,#[_,EP!,A!,_,A!]]
def Ew(h:qW!):PE X (.List es bi) (Jyk t):=by intro AB s σ H Q I hq;show wpAny_List_spliced (ix! h s H I hq JNv);show Jn?;show PY? (OB! H1 Dw! xs);show#[z,us,0,r,EP!]
open E
@[reducible]abbrev Sp:=C!->Hp->Ay! VK XK
@[reducible]abbrev az:=Cz!->Hp->Qq!->XK->KE
structure YG(P:Program)(w:World)(K:W.Frag)(mg:AC!)(base:Heap)(A:Around)(outer:Cz!)(s:Shared)(H:Hp):B! where
 frames:A.frames=D! FX!
 mod:Mod K mg B3!
 bs:j4! base.get? JJw
 aQ:base.objs.size<=s.heap.objs.size
 ON:s.heap.FunFrames B3! FX!
 bE:∀b∈RE FX!,Bg!
 EE:OK P w H xz
 bare:JCr
inductive CE(outer:Cz!)(P:Program)(w:World)(H:Hp)(s:Shared)(Q:VK)(u:Value)(s':Shared):B!
 | mk v H' (_:fo!) (_:aq!) (_:JUy) (_:JSP) (_:CF!) (_:Lh!)
abbrev CR(CX:az)(outer:Cz!)(P:Program)(w:World)(H:Hp)(s:Shared)(Q:VK)(E:XK)(r:Result)(s':Shared):B! :=
 match r with
 | .ok (.ret u)=>JZi
 | .ok _=>False
 | .error e=>JL2 s'
structure FY(P:Program)(w:World)(K:W.Frag)(mg:AC!)(base:Heap)(CX:az)(k:Nat)(f:Addr)(fd:FuncData)(ps:Z!)(sp:Sp):B! where
 len:d2!
 run:∀(A:Around)(outer:Cz!)(s:Shared)(H:Hp)(args:Args)(us:d!)(vs:C!)(Q:VK)(E:XK),P6!->tL!->BindsTo s fd IX! (ps.zip us)->MF!->ZE! sp ->
  Mp! U2! A (Hb! Q3! f IX!) (CR CX FX! P w H s Q E) s
def FY.mono{P:Program}{w:World}{K:W.Frag}{mg:AC!}{base:Heap}{CX:az}{j k:Nat}{f:Addr}{fd:FuncData}{ps:Z!}{sp:Sp}(F:FY P w K mg B3! CX j f fd ps sp)(h:j<=k) : JrE CX:=#[F.len,λA outer s H args us vs Q E hr=>F.run A FX! s H IX! us vs Q E (hr.mono h)]
def YG.make{P:Program}{w:World}{K:W.Frag}{mg:AC!}{base:Heap}{A:Around}{outer:Cz!}{s:Shared}{H:Hp}(e:tL!)(C:Addr)(us:d!)(kw:TL!) : YG P w K mg B3! (JqR dj!) FX! s H:=#[by first|show e.frames|(simpa [Around.under,Code.envs,Code.isFrame,pushEnvs] using e.frames),e.mod,e.bs,e.aQ,e.ON,e.bE,e.EE,e.bare]
open S
def Inv.ix{X:F!}(I:H!):YG FU! X.w Kx X.mg Qr! X.A Cc! s H :=#[I.ok.frames,I.ok.mod,I.bs,JQD,I.stack,I.SJ,DI!,IO!]
def Inv.after(I:H!)(h:CE Cc! FU! X.w H s Q u s'):Z2! u s':=by have#[v,H',os,bare,un,EE,r,q]:=h;have#[hh,g,d,t,os']:=s';obtain rfl:os'=s.os:=os;show#[v,H',I.call (h':=hh) (g':=g) (d':=d) (t':=t) (ch:=[]) un EE bare (λb z=>DF! z Ch),r,q]
open E
abbrev Oh(sp:Sp)(SE:C!)(E:XK)(t:TA):TE:=qQ! (sp (vs++SE) H1 Q E)
inductive Jv5(C:Addr)(m:Str)(sp:Sp)(SE:C!)(E:XK)(t:TA)(σ:St)(x:V)(H1:Hp)(Q:VK):B!
 | mk (a dx fs) (e0:Bx!) (e1:ep!) (e2:qt!) (e3:ER! t (λvs H2=>sp (x::aF!) H2 Q E))
abbrev kI(C:Addr)(m:Str)(sp:Sp)(SE:C!)(E:XK)(ta:TE)(t:TA):TE:=Lk! (Jv5 C m sp SE E t σ x H1 Q)
abbrev rO(C:Addr)(sp:Sp)(SE:C!)(E:XK)(t:TA):TE:=qQ! (∀x dx,ZI! x->ZI! dx->dx≠x ->
 JYv (IR (E4! H1 dx IM! x) x pU!))
abbrev Binds(K:W.Frag)(fd:FuncData)(ps:Z!)(ds:d!):B! :=
 ∀(s:Shared)(us:d!),IC!->m1! Ws!->BindsTo s fd Tv! (ps.zip (Ws!))
def Binds.all{K:W.Frag}{fd:FuncData}{ps:Z!}(h:∀us:d!,JAw->bindArgs fd Tv!=Jpm):WC!:=λs us _ hl=>by rw[AM] at hl ⊢;show .of_eq (h us hl)
abbrev Hk(CX:az)(X:F!)(E:XK):B!:=∀(AB:Db)(σ:St)(H:Hp)(s:Shared)(e:Value)(s':Shared),JQd (CX Cc! H s E e s')
open S
def xI{X:F!}{AB:Db}{σ:St}{H:Hp}{s:Shared}{Q:VK}{us:d!}{vs:C!}(F:MS!)(hr:P7!)(hb:MR!)(hd:MW!)(hx:MX!)(I:H!)(r:MF!)(h:sp aF! H Q E):JX1:=by
 have r2:DD! (vs++SE) (Ws!):=Wt! hd;have hl:m1! Ws!:=JPD r2.length
 show Q6! (sh! (F.run X.A Cc! s H Tv! mZ! aF! Q E hr I.ix (hb s us DJ! hl) r2 h));cases r with | error e=>show hx AB σ H s e s' I hq | ok fl =>cases fl with | ret u=>show I.after hq | next=>show FT? | brk=>show FT? | cont=>show FT?
def A7{X:F!}(F:MS!)(hr:P7!)(hg:El!)(hm:Br! X.mg ZP!)(hk:W.keepIn Kx ZP!=true)(hb:MR!)(hd:MW!)(hx:MX!)(ha:MO!)(cx:DA!:=by decide)(he:KG!:=by rfl)(UK:QM!:=by rfl) : JoB (Oh sp SE E t):=JfB hk (xI F hr hb hd hx I1 r q)
def Ao{X:F!}{pl:pu!}(he:VH!)(c:Qc!)(hm:tH!)(F:MS!)(hr:P7!)(hb:MR!)(hd:MW!)(hx:MX!)(ha:MO!)(gk:KG!:=by rfl)(UK:QM!:=by rfl)(ht:JL6 (do
  let ov <-j1!
  rz!
  let(f,first) <-v1!
  JMz):=by rfl) :
 JF8 (Je4 t):=by
 show P?
 show Gs?
 show D1?
 subst ex
 show z?
 show Nx I1 ea c hm l ?_
 show W.callWith_K (Q7!:=EV!) (h₀:=Qr!) I.ok.mod.ae hm.kp JdN gk UK
 show JfH (A2!::us) (A2!::vs) I2 JQT q2
def D9{X:F!}{pl:pu!}(he:VH!)(c:Qc!)(hm:tH!)(F:MS!)(hr:P7!)(hb:MR!)(hd:MW!)(hx:MX!)(ht:YU! (.Call JjU [] [] bi)=(do
  let ov <-j1!
  rz!
  let(f,first) <-v1!
  callWith bi f Q7! (JCC []) (backToKw bi (keywordEach [] SL))):=by rfl) :
 JEJ JjU (Je4 F3):=by
 show P?
 show Gs?
 show D1?
 subst ex
 show z?
 show Nx I1 ea c hm l ?_
 show JA2 (Q7!:=EV!) I1.OX hm.kp (JfH EV! EV! I1 JCP q)
structure Mk(K:W.Frag)(C f:Addr):B! where
 makes:qY!
 init:JHX
 fn:d6!
 kp:JQI
def Je7{X:F!}{AB:Db}{σ:St}{H:Hp}{s:Shared}{Q:VK}{us:d!}{vs:C!}(M:sS!)(F:MS!)(hr:sO!)(hb:MR!)(hd:MW!)(hx:MX!)(I:H!)(r:MF!)(h:∀x dx,oE!->BJ! dx->dx≠x->JYv (tr! dx x x pU!)) : Jj! (Hb! call C us):=by
 have hq:=h PO! sK (Qu! (DO _)) (Qu! (ZG _)) (BU (Q_ _));have I2:=Inv.BB (C:=C) I;have r2:DD! (JCF::aF!) (Jks::mZ!):=L8! A! Wt! hd;have hl:m1! (m0!++ds):=by have e:=r2.length;rw[an! F.len hq] at e;show BB!
 show Q6! (Jo9 (f:=f) DJ! M.makes M.init (MO.mp M.fn) (JO (F.run _ Cc! _ _ #[m0!,[]] (Jks::mZ!) _ _ E (hr.make C us []) (I2.ix.make C us []) (hb _ (m0!) I2.OX hl) r2 hq) λr s' YR=>?_));cases r with | error e=>show hx AB σ _ _ e s' I2 YR | ok fl =>cases fl with | ret u =>have#[v,H',I3,rv,ev,q3]:=I2.after YR;subst ev;show#[rv,#[JCF,H',I3,A!,q3]] | next=>show FU? | brk=>show FU? | cont=>show FU?
def Sn{X:F!}(M:sS!)(F:MS!)(hr:sO!)(hg:El!)(hm:JFV)(hb:MR!)(hd:MW!)(hx:MX!)(ha:MO!)(cx:DA!:=by decide)(he:KG!:=by rfl)(UK:QM!:=by rfl) : JoB (rO C sp SE E t):=JfB M.kp (Je7 M F hr hb hd hx I1 r q)
def Jof{X:F!}(M:sS!)(F:MS!)(hr:sO!)(hg:El!)(hm:JFV)(hb:MR!)(hd:MW!)(hx:MX!)(cx:DA!:=by decide):JEJ j7! (rO C sp SE E F3):=by show P?;show MC (Jm I hg hm ?_ cx);show JA2 DJ! M.kp (Je7 (us:=[]) M F hr hb hd hx I U! h)
open E
open S
open E
structure Am(N P:Z!)(sc:Scope):B! where
 kind:Jy!:=by rfl
 co:sc.isCoroutine=false:=by rfl
 gen:sc.isGenerator=false:=by rfl
 nd:N.Nodup:=by show Bt?
 pre:N.take P.length=P:=by rfl
 par:∀x∈P,JNQ:=by show Bt?
 jA:∀y∈sc.names,y.2≠Eq!:=by show Bt?
def Jbx{kindOf:cS!}{x:Str}:Jd5 Q8!
 | [],_,_=>rfl
 | (n,v)::r,m,h=>by unfold bindL;rw[Jbx λw hw=>h w (BL! hw)];split;(·(have:x≠n:=JWt);simp[this]);.rfl
def Jbz{kindOf:cS!}{x:Str}:Jd5 Q9!
 | [],_,_=>rfl
 | (n,v)::r,m,h=>by unfold bindC;rw[Jbz λw hw=>h w (BL! hw)];split;(.rfl);·(have:x≠n:=JWt);simp[this]
def Jby{kindOf:cS!}{x:Str}{v:Value}:Jd8 (iN! kindOf) Q8!
 | [],_,_,_,_,h,_,_=>B1!
 | _::_,[],_,_,_,_,h,_=>B1!
 | p::P,w::vs,0,m,nd,h1,h2,hk=>by show BQ?;subst h1;subst h2;show Il? Q8!;unfold bindL;rw[JVt Jbx,AF hk];simp
 | p::P,w::vs,i+1,m,nd,h1,h2,hk=>by show RR? Q8! x;unfold bindL;show Jby (i:=i) (IY! nd).2 x8! x9! hk
def Jb0{kindOf:cS!}{x:Str}{v:Value}:Jd8 (kindOf x≠D! Wc!) Q9!
 | [],_,_,_,_,h,_,_=>B1!
 | _::_,[],_,_,_,_,h,_=>B1!
 | p::P,w::vs,0,m,nd,h1,h2,hk=>by show BQ?;subst h1;subst h2;show Il? Q9!;unfold bindC;rw[JVt Jbz,AD hk];simp
 | p::P,w::vs,i+1,m,nd,h1,h2,hk=>by show RR? Q9! x;unfold bindC;show Jb0 (i:=i) (IY! nd).2 x8! x9! hk
abbrev start(N:Z!)(vs:C!):St:=Mt! re++List.replicate (N.length-vs.length) Rs
abbrev Nz(CX:az)(P:Program)(w:World)(K:W.Frag)(mg:AC!)(base:Heap)(N:Z!)(qual:Str)(scope:Scope)(f:Addr)(cd:Value)(A:Around)(outer:Cz!)(s:Shared)(H:Hp)(E:XK):Cx K where
 prog:=P
 w:=w
 mg:=mg
 base:=base
 A:=A.deeper (mT!)
 N:=N
 IV:=s
 SV:=H
 env:=mT!
 outer:=outer
 stack:=JtV
 ex:=[]
 calm:=true
 fn:=λ_=>true
 pn:=[]
 xe:=λe s'=>Qv! U2! (A.deeper (JnW cd)) (leaving (mT!) e) (λ_ tZ=>JL2 tZ) (λe' tZ=>CX FX! H s E e' tZ) s'
def Jgy{sc:Scope}{n:Nat}{x:Str}(h:JnS):∃c,Br! (f0! n sc.names []).lookup c:=by have q:=JBD sc.names n [] Nz!;show KZ.mp q
def Jlz{CX:az}{P:Program}{w:World}{K:W.Frag}{mg:AC!}{base:Heap}{N ps:Z!}{qual:Str}{scope:Scope}{f:Addr}{cd:Value}{A:Around}{outer:Cz!}{s s1:Shared}{H:Hp}{E:XK}{us:d!}{vs:C!}(S:JZm)(hd:Gf!)(e0:tL!)(hl:JAp)(r:MF!)(x:InCallC s sK (Jat Q8!) (f0! PO! scope.names []) (Jat Q9!) s1) : JUk (ZA! CX scope cd):=by
 have UK:ps.length<=N.length:=by show Cn? S.pre;show H? CO;show this▸Ab! MV
 have#[h1,tk,rfl,hk]:=x.done;have kl:∀b:G!,b∉(ZA! CX scope cd).ex:=λb z=>JIN;show#[#[e0.mod,S.kind,A!,A!,Bv!,λy z c h1 h2=>?_,GT!,λy c _ h=>?_,λ_=>hd,Around.frames_deeper e0.frames,v! ES!,JZ0,e0.bs,e0.aQ,λb _ _=>kl b,JZ0,e0.ON,e0.bE],A!,e0.bare,WZ! hk,#[_,x.toInCall.ns,λi y v h1 h2 h3=>?_],λy c h=>#[_,x.cell y c h],e0.EE.fresh (ZG _),λy c h=>?_,Dv! (HM! (show p∈([]:Db) from hp) Ch),e0.EE.kept hk,?_];.show name_of_addr x.apart (KO h1) (KO h2)
 .have hy:TS! RA! RA!:=hy;rcases hy with hy|hy;(.show Jgy hy);.show I? A! (S.jA _ (KO hy))
 .show AV JaF
 ·(have hi:f1!:=by unfold start at h2;by_cases hi:f1!;(.show hi);.rw[z5! JR] at h2;rw[JBL] at h2;split at h2<;>cases h2);(have ha:vs[i]?=D! v:=by unfold start at h2;rw[z5! GJ,ZH] at h2;cases e:vs[i]? with | none=>rw[e] at h2;cases h2 | some a=>rw[e] at h2;cases h2;rfl);have#[u,hu,rv]:=r.get ha;(have hp:ps[i]?=D! y:=by rw[<-S.pre,List.getElem?_take_of_lt (hl▸hi)];show h1);(have ndP:ps.Nodup:=oG! S.pre S.nd.sublist (Ab! List.take_sublist));show#[u,rv,?_];rcases S.par y (ZP hp) with k|k;(.show E? #[k,Jby ndP hp hu k]);.have#[c,e]:=Jgy (n:=JJ!) k;show R? #[W! k,c,e,?_];have q:=x.cell y c e;rw[Jb0 ndP hp hu (by change RA! y≠_;rw[k];decide)] at q;show q
 .show e0.EE.fresh (AV JaF)
 .unfold start;change _=N.length;rw[ZE,ZA,JI];lia
def Jtr{CX:az}{P:Program}{w:World}{K:W.Frag}{mg:AC!}{base:Heap}{k:Nat}{f:Addr}{name qual:Str}{params:Arguments}{body:bm!}{scope:Scope}{dV kV doc pm FH ct oc:Value}{an od:J1!}{gQ:vJ!}{N ps:Z!}{sp:Sp}(lk:JbW (.func (JeR)))(TZ:JYJ)(S:JZm)(len:d2!)(WR:∀(A:Around) (outer:Cz!) (s:Shared) (H:Hp) (vs:C!) (Q:VK) (E:XK),l1! (JnW FH)->ZE! sp -> Jqu (RL (JK1 scope) body t)) : FY P w K mg B3! CX (k+1) f (JeR) ps sp:=by
 show#[len,λA outer s H args us vs Q E hr e0 hb r WX=>?_];have hl:=an! len WX;have KX:IC!:=JNF e0.mod.ae.keeps;have lim:s.heap.NoLimit:=JNF e0.mod.nolimit.keeps;have LC:∀y∈ps.zip us,w! RA! wT Wc!\/(nt! RA! wT/\((f0! PO! scope.names []).lookup wT).isSome=true):=λ#[n,v] hy=>by show BR? (S.par n (NX hy).1);(.show E? q);.show r? q (FM JBD _ (BK! q))
 show codeAny_call_function hr.depth (AC KX lk) A! S.co S.gen A! (W.codeRec_of KX TZ) (hb _ _ _ _ ?_);show wpAny_newFunctionEnv_cells S.kind LC λenv he s1 x=>?_;subst he;show#[lim.keeps x.toInCall.keep,codeAny_func ?_];have#[t,ht,hq]:=WR A FX! s H vs Q E (hr.deeper _) WX;have I:JUk JRv:=Jlz S hr.hd e0 hl r x;show FR (ht [] s1 (start N vs) H _ I hq) (λfl s' hs=>?_) λe s' hs=>hs;have fin:∀{FN:St} {H':Hp} {v:V} {u:Value},JMS JRv->CF!->Lh!->JZi :=λ{FN H' v u} J rv q=>#[v,H',J.os,J.bare,J.base,J.EE,rv,q];cases fl with | ret u =>have#[v,FN,H',J,rv,q]:=hs;show AD! J rv q | next =>have#[FN,H',J,q]:=hs;show AD! (v:=V.FJ) (u:=RB!) J A! q | brk =>show Mq? | cont =>show Mq?
open S
variable {X:Cx Kx}{x:Str}{p pos:Pos}{e:Expr}{es:List Expr}{t:TA}{id T:String}{r:List V->Hp->VK->Prop}
abbrev tL(r:JNO)(t:TA):TE:=qQ! (r vs H1 Q)
def Be(hc:jB! id r)(hg:El!)(hm:dl!)(hv:JPB Eu! id)(ha:MO!)(hn:aJ!:=by decide)(cx:DA!:=by decide)(he:KG!:=by rfl)(UK:QM!:=by rfl):JTV:=JeY PyProof.Rows.callWith_builtin1
def Br(hc:HQ X (DE! T) r)(hg:El!)(hm:dl!)(hv:JPB DE! T)(ha:MO!)(hn:aJ!:=by decide)(cx:DA!:=by decide)(he:KG!:=by rfl)(UK:QM!:=by rfl):JTV:=JeY JM
open E
open S
variable [DecidableEq κ]
abbrev Ck(kvs:A7!)(k:κ):Lg!:=lB! kvs.find? kK!
abbrev putK(kvs:A7!)(k:κ)(v:V):A7! :=
 Wm! (JoJ=true) (FY! (JpB (Gg!,v))) (kvs++Eb! k)
abbrev D6(kvs:A7!)(k:κ):A7!:=kvs.filter λkv=>Go (Gg!≠k)
def Oc{p:κ×V}{r:A7!}{k:κ}(e:Sq!):Ck (p::r) k=D! wP:=xv!
def Od{p:κ×V}{r:A7!}{k:κ}(e:¬Sq!):Ck (p::r) k=Ck r k:=xv!
def Oe(k:κ):∀kvs:A7!,JsJ (Ck z! k).isSome
 | []=>rfl
 | p::r=>by rw[NA];show Al?;(.simp only[Oc e,AI e,Bool.true_or,Option.isSome_some]);.rw[Od e,AG e,JBc];show Oe k r
def Gz(kvs:A7!)(k:κ)(v:V):(putK kvs k v).length<=kvs.length+1:=by
 unfold putK;split;.rw[ZA];show Uw!
 .rw[ZE,A_,BR];show Bv!
def Ih{kvs:A7!}{k:κ}(v:V)(h:jd!=none):Dx! z! k v=kvs++Eb! k:=by unfold putK;rw[Oe,h];show cE!
def RT.MT(r:RT o u):o.isSome=u.isSome:=by cases o with | none=>(cases u with | none=>rfl | some _=>show BK?) | some _=>cases u with | none=>show BK? | some _=>rfl
def RT.getD(r:RT o u)(rd:ED! d d'):RelV (o.getD d) (u.getD d'):=by cases o with | none=>(cases u with | none=>show rd | some _=>show BK?) | some _=>cases u with | none=>show BK? | some _=>show r
def KV.val(r:Dk!)(k:κ):RT (Ck z! k) (Wu! vs k):=by unfold KV at r;induction r with | nil=>show Wq! | @cons p q ps qs h t ih =>have#[h1,h2]:=h;show Al?;(.have e':UQ!:=oA!;(have b:JUG Wu!:=by simp[valueAt,CN,e']);rw[Oc e,b];show h2);.have e':¬UQ!:=lW!;(have b:Wu! (q::qs) k=Wu! qs k:=by simp[valueAt,CN,e']);rw[Od e,b];show ih
def KV.any(r:Dk!)(k:κ):JoJ=vs.any kK!:=by unfold KV at r;induction r with | nil=>rfl | cons h t ih=>rw[NA,NA,ih,bn]
def KV.iR(r:Dk!)(k:κ)(ry:CW!) : KV (FY! JLx) (Mt! (JpB (Gg!,u))):=by unfold KV at r ⊢;induction r with | nil=>show U! | @cons p q ps qs h t ih =>rw[AO,AO];show am ?_ ih;have#[h1,h2]:=h;show Al?;(.show K0?;show#[h1,ry]);.show H4?;show#[h1,h2]
def KV.put{kvs:A7!}{vs:bw!}(r:Dk!)(k:κ){y:V}{u:Value}(ry:CW!):KV JSh (stored vs k u):=by
 unfold putK stored;rw[r.any k];by_cases e:(vs.any kK!)=true;.rw[AF e,AF e];show r.iR k ry
 .rw[AD e,AD e];show Paired.snoc r (Bc! ry)
def KV.drop{kvs:A7!}{vs:bw!}(r:Dk!)(k:κ):KV ke! (without vs k):=by unfold KV at r ⊢;unfold D6 without;induction r with | nil=>show U! | @cons p q ps qs h t ih =>have#[h1,h2]:=h;rw[E_,E_];show Al?;(·(have a:JsZ g!:=bl!);(have b:JsZ O!:=by simp[oA!]);rw[AD a,AD b];show ih);.have e':¬UQ!:=lW!;(have a:JnY g!:=bl!);(have b:JnY O!:=by simp[e']);rw[AF a,AF b];show am d3! ih
def KV.length(r:Dk!):fx!:=ol!
def Jp9(kvs:A7!)(k:κ):(D6 kvs k).length<=kvs.length:=BE _ _
open E
def Pg(r:JYa):JKc u:=by cases k with | inl i=>show LI? UD! Jf7 i | inr x=>show LI? eQ! Rj x
def Ja9:∀{ks:F4!} {us:d!},Vn! RC! kV->ItemsAre Y8! ks us
 | [],_,r=>by rw[EZ] at r;cases r;show U!
 | k::ks,_,r=>by rw[AO] at r;cases r with | cons h t=>show am (Pg h) (Ja9 t)
@[reducible]abbrev KT(H:Hp):Ay! Ag! IH!:=Lp! (λp q=>JaI)
def KT.val(r:Ju!)(k:F4!):RT (Ck z! k) ((FZ! xs k).map CK!):=by induction r with | nil=>show Wq! | @cons p q ps qs h t ih =>have#[h1,_,h2]:=h;show Al?;(.have e':UQ!:=oA!;(have b:JUG FZ!:=by simp[atKey,CN,e']);rw[Oc e,b];show h2);.have e':¬UQ!:=lW!;(have b:FZ! (q::qs) k=FZ! qs k:=by simp[atKey,CN,e']);rw[Od e,b];show ih
def KT.iR(r:Ju!)(k:F4!)(ry:CW!) : KT H (FY! JLx) (Cb! (putAt k u)):=by induction r with | nil=>show U! | @cons p q ps qs h t ih =>rw[AO,AO];show am ?_ ih;have#[h1,h2,h3]:=h;unfold putAt;show Al?;(.show K0?;show#[h1,h2,ry]);.show H4?;show#[h1,h2,h3]
def KT.put{H:Hp}{kvs:Ag!}{xs:IH!}(r:Ju!)(k:F4!){b:Addr}{y:V}{u:Value}(hb:Pf!)(ry:CW!) : KT H JSh (Wv! xs k b u):=by
 have e:JsJ (FZ! xs k).isSome:=by rw[Oe,(r.val k).MT,Option.isSome_map]
 unfold putK storedH;rw[e];by_cases q:(FZ! xs k).isSome=true;.rw[AF q,AF q];show r.iR k ry
 .rw[AD q,AD q];show Paired.snoc r #[A!,hb,ry]
def KT.keeps(r:Ju!)(ht:∀b ys,LE! b ys->Nn! H' qT!):KT H' z! xs :=Qa7 r λ_ _ z=>JaK
open S
def Jtm(ok:C8!)(e:Rd H a u):JDe:=e.ok ok
def Pr(ok:C8!)(e:dv!):s0! :=Ge! (EN P w H h a Vf!) (Jtm ok e)
def rK(ok:C8!)(e:ML!):s0!:=LX! Pr ok e
def Ku(ok:C8!)(e:EM! JBn):JAS ks a:=by have#[_,its,r,o,h1,h2,n,h3]:=JKi JBn ok;show#[o,CJ!,n,h1,h2,h3,SQ! (Ja9 r)]
def Pq(ok:C8!)(e:rS!):JYq:=by
 have#[z,y,xs,r,o,es,ep,h1,h2,h3,h4,h5]:=HP! (EN P w H h a dV!) (Jtm ok e);show#[z,y,xs,r,o,es,ep,h1,h2,h3,h4,Ok!,h5];have all:∀{l:Ag!} {m:IH!},KT H l m->∀x∈m,JAS BZ! LQ!:=by intro l m q;induction q with | nil=>intro x hx;show nomatch hx | @cons p q ps qs hq t ih =>intro x hx;rcases ZM hx with e|hx;(.subst e;show Ku ok (AY! hq.1 hq.2.1));.show ih x hx
 show all r x hx
def j9(ok:C8!)(e:P9!):JYq:=LX! Pq ok e
open E
abbrev GF(H:Hp)(a:Addr)(y:V)(r:Lg!):B! :=
 (G_ λkvs k=>dv!/\ed!/\r=jd!)\/LW λkvs k b=>rS!/\PP!/\Pf!/\r=jd!
abbrev IW(H:Hp)(a:Addr)(y v:V)(H':Hp):B! :=
 (G_ λkvs k=>ML!/\ed!/\Ww!/\H'=E5! H a .dK aB!) \/
 LW λkvs k b=>P9!/\PP!/\Pf!/\Ww!/\H'=E5! H a BA! aB!
def GF.k{H:Hp}{a:Addr}{kvs:BU!}{k:Key}(e:ML!):JD7 (kV k):=W! #[z!,k,W! e,A!,A!]
def GF.t{H:Hp}{a b:Addr}{kvs:Ag!}{k:F4!}(e:P9!)(eb:Pf!):JD7 OX!:=v! #[z!,k,b,W! e,A!,eb,A!]
def IW.k{H:Hp}{a:Addr}{kvs:BU!}{k:Key}{v:V}(e:ML!)(hl:Ww!):IW H a (kV k) v (ib! a aB!):=W! #[z!,k,e,A!,hl,A!]
def IW.t{H:Hp}{a b:Addr}{kvs:Ag!}{k:F4!}{v:V}(e:P9!)(eb:Pf!)(hl:Ww!) : IW H a OX! v (S0! a aB!):=v! #[z!,k,b,e,A!,eb,hl,A!]
open S
def Inv.big(I:H!):sysModules<s.heap.objs.size:=by have h:mainGlobals<s.heap.objs.size:=(I.mod.glob.keeps I.bk).lt;show OH Op h
def Jbv(hu:J7!)(I:H!)(g:GF H a y (re v))(ry:CW!)(h:∀w' s',jr!->ED! v w'->Q w' s') : Y0! (Wx! Bw! u):=by
 show B4?;.subst ey;show Ck?;show Lg? JO7;show wpAny_getItem_of Zz! dd.mapOf hw (h w' _ iv! RZ)
 .subst ey;show Co?;show Ed?;have#[w',hw,RZ]:=As! qi v v o ((FZ! xs k).map CK!) JO7;have#[p,hp,IU]:=CM.mp hw;show wpAny_getItem_heap (HD hu) mM! dd hp ?_;rw[IU];show h w' _ iv! RZ
def Jz5(hu:J7!)(I:H!)(g:Vz!)(ry:CW!)(h:JNg o.isSome) : JXr .In:=by
 show B4?;show Pd? wpAny_in_of
 show P2? wpAny_in_heap
def Js2(hu:J7!)(I:H!)(g:Vz!)(ry:CW!)(h:JNg (!o.isSome)) : JXr Qx!:=by
 show B4?;show Pd? wpAny_notIn_of
 show P2? wpAny_notIn_heap
def Pw(I:H!)(mu:mP (H a))(hs:JCQ)(he:∃q,JD! Me! q)(new:JG2 (EG! a ob) ob) : JEV ob xs! :=I.write (x:=a) (e:=a) mu HW! (λb q hb z=>(hs.2 b hb).trans z) he new
def Jqa(z:kvs.length<=sizeLine)(hd:Zb!)(rel:Dk!)(dd:h'.DictOf Y8! a vs) : qG! H' Vf!:=#[z,hd,vs,rel,dd]
def Jbu{H':Hp}{Q:Do!}(hu:J7!)(I:H!)(g:IW H a y v H')(ry:CW!)(rv:ED! v r)(h:∀s',Ld!->Q () s') : JBv setItem u r:=by
 rcases g with⟨kvs,k,e,ey,l,eH⟩|⟨kvs,k,b,e,ey,eb,l,eH⟩;.subst ey eH;show Hr?;(show Eq? (vs.length<=sizeLine) f2!);show PB?;show wpAny_setItem_pairs (hsz:=hz) Zz! dd JtW;show Jp?;show JdK hl (rel.put k rv)
 .subst ey eH;show Co?;show Hx?;(show Eq? IK! Tt!);show PB?;show wpAny_setItem_heap (hsz:=hz) (HD hu) mM! dd JtW;have#[q,es,ep,hq,h2,h3,h4,_,h5]:=dE;show Lk? hs #[q,hq] #[hl,hd,_,(rel.put k eb rv).keeps m2!,q,es,ep,hq,h2,h3,h4,h5];show Kb?;show ec
open E
open S
def Jxt(I:H!)(e:ML!)(ry:JYa)(l:VA!)(hm:more=[]\/∃x,more=[x])(h:JHV (DY! (ib! a ke!) s')):JFt (A2!::u::more):=by
 show Hr?;show Lg? (Bz! l (rel.val k));have hp:(keyPart u).isSome=true:=by cases k with | inl i=>show Ke? UD! | inr x=>show Ke? eQ!
 have ha:argsOk "dict.pop" #[A2!::u::more,[]]:=by rcases hm with q|⟨x,q⟩;(.subst q;show JB2 _ _);.subst q;show P! PySem.F.args_dict_pop_3 _
 show QI MF IZ! JB8 ha (meets_dict_pop_there TR! a Zz! DO! hm hp) #[vs,w',dd,JEY,hw,λh' dE hs=>h w' _ ?_ RZ];show Jp?;show JdK (AA (Jp9 z! k) z) (rel.drop k)
def Jxu(I:H!)(e:dv!)(h:∀t s',jr!->Q (XV Wy! t) s'):JjT "len" EV!:=by show Ck?;show call_len_dict hd dd (by rw[<-f2!];rw[CQ] at z;show JpS z) ?_;rw[<-f2!];show h _ _ (I.tok _)
open E
abbrev Jx1(i:Expr):B!:=∀ov iv,Wz! i Os ov iv=ty! [ov,iv] ov iv
def Jq3{prog:Program}{w:World}{A:Around}{E:KE}{s:Shared}{env:Env}{value slice:Expr}{pos:Pos}{T id:String}{Q:KE}(hl:JcP)(hs:Jx1 Mu!)(h:JGH (a6! value) (JDW (a6! Mu!) (λi MM=>MM.TypeIs o T/\Vh! (Wx! o i) MM) ER)) : JPn W0! value Mu!:=by
 show f3! (FR h (λo ER h₁=>FR h₁ (λi MM X_=>?_) Wi!) Wi!);have#[hT,X_]:=X_;unfold subscriptTail;show AW?;rw[getitemInPython_of_ne hT.not_modules];show ZR (f4! hT hl ?_);have fin:JDW (Wz! Mu! Os o i) (λr RR=>Vh! (letTemporaryGo value o r >>= λ_=>Er! r) RR) MM:=S! (hs o i) (wpAny_operating (FR X_ (λr RR dy=>ZR (wpAny_letTemporaryGo (ZS dy))) Wi!))
 first | show ZS (ZR AD!) | show ZR (SN! AD!) | show ZR AD!
def Jgu(I:H!)(g:Vz!):JT9:=by
 rcases g with⟨kvs,k,e,_,_⟩|⟨kvs,k,b,e,_,_,_⟩;.have#[_,_,vs,_,dd]:=SI! Pr;show IZ!
 .have#[_,_,xs,_,dd]:=SI! Pq;show IZ!
inductive Jv6  (x:V) (y:V) (H2:Hp) (Q:VK):B!
 | mk (a v) (e0:Bx!) (e1:JHT) (e2:Q v H2)
abbrev kH(td ty:TE):TE:=JkZ (kf! (Jv6  x y H2 Q))
inductive Jx9  (x:V) (y:V) (H2:Hp) (Q:VK):B!
 | mk (a o) (e0:Bx!) (e1:sK!) (e2:qV! o.isSome)
abbrev Jyn(ty td:TE):TE:=JUT Jx9
inductive Jqs  (x:V) (y:V) (H2:Hp) (Q:VK):B!
 | mk (a o) (e0:Bx!) (e1:sK!) (e2:qV! (!o.isSome))
abbrev Jq2(ty td:TE):TE:=JUT Jqs
inductive Jv7  (x:V) (y:V) (v:V) (H3:Hp) (σ:St) (D:Ends):B!
 | mk (a H4) (e0:Bx!) (e1:IW H3 a y v H4) (e2:JQ! H4)
abbrev Jww(td ty tv:TE):TS:=JFE (λv H1=>ER! td (λx H2=>ty σ H2 λy H3=>Jv7  x y v H3 σ D))
abbrev Jwx(td ty tv:TE)(rd:VS!):TS:=JtK td (kf! (G_ λa v=>Bx!/\JHT /\
 tv σ H2 λy2 H3=>rd v y2 H3 λz H4=>∃H5,IW H4 a y z H5/\JQ! H5))
open S
def C3(hu:GY!)(ho:IE!)(hi:V9!)(hs:Jx1 i:=by show f5!):qM! o i (kH td ty):=by show P?;show Jq3 PySem.F.slot_dict_getitem.lookup hs JXV;subst ex;show z?;show#[Jgu I2 g,Jbv hu I2 g ry (f6! #[v,H2,I3,RZ,q2])]
def Ux(hu:GY!)(hi:V9!)(ho:IE!):PC X .In i o (Jyn ty td):=JcT Jz5 (AG! ov.isSome)
def Fh(hu:GY!)(hi:V9!)(ho:IE!):PC X Qx! i o (Jq2 ty td):=JcT Js2 (AG! (!ov.isSome))
def Cs(hu:GY!)(ho:IE!)(hi:V9!)(hv:el!)(hs:JY8 W0! i) : JZW W0! i (Jww td ty tv):=by show Z?;show wpAny_Assign_Subscript (h6! hv (λr s1 #[v,H1,I1,rv,q1]=>JjQ ho (λu s2 #[x,H2,I2,rx,q2]=>JUX hi (λiv s3 #[y,H3,I3,ry,a,H4,ex,g,q3]=>?_)))) hs;subst ex;show z?;show Jbu hu I3 g ry rv λs4 I4=>#[σ,H4,I4,q3]
def O2(hu:GY!)(ho:IE!)(hi:V9!)(hv:el!)(ue:qt X op rd)(ha:∀ov iv new,augStore i ov iv new=(do holding [new,ov,iv] (setItem ov iv new);release [new,ov,iv] [];Er! .next)):JZQ (W0! o i yI) (Jwx td ty tv rd):=by
 show Z?
 show wpAny_AugAssign_SubscriptAny JXV ha
 subst ex
 show z?
 show Jbv hu I2 g ry (f6! (FV (Ns! hv s3 H2 I3 q2) λw2 s4 #[y2,H3,I4,ry2,q3]=>FV (ue AB s4 σ H3 v y2 w' w2 _ I4 RZ ry2 q3) ?_))
 rintro w3 s5 ⟨z,H4,I5,rz,H5,g5,q4⟩
 show Jbu hu I5 g5 ry rz λs6 I6=>#[σ,H5,I6,q4]
open E
def Jqb(h:Heap)(hb:JCV):JeM .dK :=#[AL!,Jak,[],U!,Heap.DictOf.new h]
def Jgq(h:Heap)(hb:JCV):JeM BA! :=#[AL!,Jak,[],U!,_,Ep!,0,EP!,rF!,A!,A!,DV]
abbrev Jua:TE:=JtH (ib! p [])
abbrev Jt9:TE:=JtH (S0! p [])
open S
def Fu:JX6 Jua:=JWM (Jjj sK (.dK []) m3! Bh! (Jqb xz I.big))
def Fs:JX6 Jt9:=JWM (JVB m3!)
open E
@[reducible]abbrev VV:Ay! (DB! (V×V)) (DB! (Value×Value)):=Lp! (λp q=>ED! g! O!/\ED! wP PP)
structure M1(X:F!)(o:Expr)(m:Str)(apos:Pos)(e:Expr)(IK:Pos):B! where
 base:JJc
 je:Ac! (JMq [e]
  && JM7 [e])
 line:cM!
 trees:JNU [e] [(Os,YU! e)]
structure M2(X:F!)(o:Expr)(m:Str)(apos:Pos)(e f:Expr)(IK:Pos):B! where
 base:JJc
 je:Ac! (JMq [e,f]
  && JM7 [e,f])
 line:cM!
 trees:JNU [e,f] [Jho,SK! (YU! f)]
abbrev nC(H:Hp)(a:Addr):B!:=(∃kvs,dv!)\/∃kvs,rS!
def rS(I:H!)(d:nC H a) : JT9/\(∀b,Ds! a=Cs!->JKB (Zj! Cd!))/\Zb!:=by
 rcases d with⟨kvs,e⟩|⟨kvs,e⟩;.have#[_,hd,vs,_,dd]:=SI! Pr;show Ml?;cases q;have#[ob,_,_,h1,h2,_]:=dd;show#[ob,h1,h2.2.1]
 .have#[_,hd,xs,_,dd]:=SI! Pq;show Ml?;cases q;have#[ob,_,_,h1,h2,_]:=dd;show#[ob,h1,h2.2.1]
open S
def Jvz(hu:J7!)(I:H!)(g:Vz!)(ry:CW!)(h:JUr wS) : JFu [A2!,u]:=by
 show B4?;.subst ey;show Ck?;show Ij? (JZF hd) JPL;rw[l];show ks! A!
 .subst ey;show Co?;show Ed?;show Ij? (meetsH_dict_get JRz a b hd) Jdn;rw[l];show ks! A!
def Jvy(hu:J7!)(I:H!)(g:Vz!)(ry:CW!)(rd:ED! d r)(h:JUr d) : JFu [A2!,u,r]:=by
 show B4?;.subst ey;show Ck?;show NE? meets_dict_get_default TR! Zz! JPL;rw[l];show JNE
 .subst ey;show Co?;show Ed?;show NE? meetsH_dict_get_default JRz b Jdn;rw[l];show JNE
open E
abbrev Jud(td ty:TE):TE:=vk! (∃o,sK!/\Q (o.getD wS) H2)
inductive Jtf(ty tx:TE)(x:V)(H1:Hp)(σ:St)(Q:VK):B!
 | mk (a) (e0:Bx!) (e1:nC H1 a) (e2:kf! (tx σ H2 λz H3=>∃o,GF H3 a y o/\Q (o.getD z) H3))
abbrev Juc(td ty tx:TE):TE:=JkZ (Jtf ty tx x H1 σ Q)
abbrev Jt8(td ty:TE):TE:=vk! (LW λkvs k v=>ST! H2 a z!/\ed!/\VA!/\JRH .dK)
open S
def Joh(hu:GY!)(ho:IE!)(he:VD!)(m:M1 X o Mv! apos e IK):JkA Mv! [e] (Jud td ty):=by show P?;show LY?;show CM?;subst ex;show z?;show De?;show DU?;rw[RE!];show DN? (λiv s2 #[y,H2,I2,ry,ov,g,q2]=>U9!);show Jvz hu I2 g ry (f6! #[_,H2,I3,RZ,q2])
def Uv(hu:GY!)(ho:IE!)(he:VD!)(hf:A0! f tx)(m:M2 X o Mv! apos e f IK):JkA Mv! [e,f] (Juc td ty tx):=by show P?;show LY?;show CM?;subst ex;show z?;show De?;show DU?;rw[RE!];show DN? (λiv s2 #[y,H2,I2,ry,q2] =>HZ (FV (Ns! hf s2 H2 I2 q2) λfv s3 #[z,H3,I3,rz,ov,g,q3]=>U9!));show Jvy hu I3 g ry rz λw' s4 I4 RZ=>#[_,H3,I4,RZ,q3]
def Jfl(ho:IE!)(he:VD!)(m:JM3):JMT Jt8:=by show P?;show LX?;show CM?;subst ex;show z?;show De?;show DU?;rw[RE!];show DN? (λiv s2 #[y,H2,I2,ry,kvs,k,v,ea,ey,l,q2]=>U9!);subst ey;show Jxt I2 ea ry l HW! JMr
open E
open S
variable {X:Cx Kx}{AB:List (Addr×Obj)}{σ:St}{H:Hp}{s:Shared}{a:Addr}{kvs:List (Key×V)}{A:Around}{E:Value->Shared->Prop}
open E
open S
variable {X:Cx Kx}{AB:List (Addr×Obj)}{σ:St}{H:Hp}{s:Shared}{a:Addr}{y:V}{u:Value}{A:Around}{E:Value->Shared->Prop}
open E
open E Lake.L2
open N Lake.HT
open PySem PyProof.Rows
abbrev lexLt:i!->i!->A8!
 | [],[]=>false
 | [],_::_=>true
 | _::_,[]=>false
 | x::xs,y::ys=>BX! (x=y) (Fa! xs ys) n7!
def IF(x y:Int)(xs ys:i!):Fa! (x::xs) (y::ys)=BX! (x=y) (Fa! xs ys) n7!:=A!
def PH:A9! (Fa! [] []):=A!
def Vk(y:Int)(ys:i!):Fa! [] (y::ys)=true:=A!
def Vl(x:Int)(xs:i!):A9! (Fa! (x::xs) []):=A!
def Jp3(A:Around)(s:Shared)(a:Int)(t:Tok)(c:Int)(u:Tok):∃e,SeqAt.EqAt A s rJ! sn! e/\(e=true↔a=c) :=#[(a==c),JCk a t c u,Sc]
def Jn0(A:Around)(s:Shared)(a:Int)(t:Tok)(c:Int)(u:Tok)(prog:Program)(w:World)(E:KE)(Q:KE)(h:Q (Au! (MZ! (a<c))) s) : De! (richCompare .Lt rJ! sn!) :=(PyProof.Rows.lt_int h:JPo rJ! sn!)
open S
open PySem.SeqAt
open PySem.AutoSeq1 (wpAny_loadPart')
open PySem.MeetsSeq PySem.MeetsSeq2 PySem.MeetsSeq3
def Yn(l b:Addr)(items NI:BT!)(n n2:Nat)(dd vk:J1!)(sl eX:vJ!)(ns ms:i!)(hi:JB7)(hj:JKs) : Meets (Builtin.«tuple.__lt__» #[[FH!,Cs!],[]]) (λ_ R s=>w! Cd! l { cls:=Za!,dict:=dd,data:=IL! items n,slots:=sl }/\Nn! Cd! { cls:=Za!,dict:=vk,data:=IL! NI n2,slots:=eX } /\ JSJ (Fa! ns ms) s) :=JJl (by show D2?;have#[hl,hb,h]:=h;have f2:=AutoSeq1.sub_tuple_tuple;(have z1:items.size=ns.length:=by rw[<-hi.length];simp);(have z2:NI.size=ms.length:=by rw[<-hj.length];simp);wp_walk using JCs hl,JCs hb,UG _ (λrest b s'=>b.1=none/\s'=QP!/\V_ λ(vs:List Value)(ws:List Value)(gU:List Int)(jQ:List Int)=>rest=vs.zip ws /\ W2! vs gU/\W2! ws jQ/\gU.length+NI.size=jQ.length+items.size/\JSJ (Fa! gU jQ) QP!) _;(case turn =>rintro⟨y,x⟩ rest b s' ⟨KR,rfl,vs,ws,gU,jQ,hz,uV,qG,hlen,hR⟩;cases uV with | nil=>show F6? JCv | cons a t zF =>cases qG with | nil=>show F6? JCw | cons c u zE =>rw[f7!] at hz;injection hz with hyx o9;injection hyx with hy hx;subst hy hx;rw[IF] at hR;simp only[A_] at hlen;have#[e,he,oE]:=Jp3 A.in1 QP! a t c u;show ZR (he DC! w _ _ ?_);cases e with | true =>rw[AF (oE.mp A!)] at hR;wp_walk;show#[A!,A!,_,_,_,_,o9,zF,zE,Q!,hR] | false =>rw[AD (λq=>HV! oE.mpr q AQ)] at hR;have hri:=Jn0 A.in1 QP! a t c u DC! w;wp_walk using hri;show O? (by simpa using hR));(case fin =>rintro⟨b1,b2⟩ s' ⟨KR,rfl,vs,ws,gU,jQ,hz,uV,qG,hlen,hR⟩;simp only at KR;subst KR;(have hv:Fa! gU jQ=Go (items.size<NI.size):=by cases uV with | nil =>(cases qG with | nil =>simp only[BR] at hlen;rw[PH];show GF! AG V! | cons c u hw =>show JO? Vk AI) | cons a t hv =>cases qG with | nil =>show JO? Vl AG | cons c u hw =>show F6? f7!);rw[hv] at hR;wp_walk;show O? (by simpa [Builtin.Tuple.tupleCompareSizes] using hR));case h =>show#[A!,A!,items.toList,NI.toList,ns,ms,A!,hi,hj,Q!,h])
open E
open S
variable {prog:Program}{w:World}{A:Around}{E:Value->Shared->Prop}{s:Shared}
def YK(hl:JKw l)(hb:ON! IsTup b NI)(hi:JB7)(hj:JKs)(hu:W3!)(h:JIm):JPo (EQ l) OX!:=by have#[#[cls,dd,data,sl],ho,hc,n,hd]:=id hl;have#[#[JTe,vk,data2,eX],lP,hc2,n2,hd2]:=id hb;simp only at hc hd hc2 hd2;subst hc hd hc2 hd2;show richCompare_meets_room (op:=.Lt) (Dg! ho) (Dg! lP) PySem.F.slot_tuple_lt PySem.F.entry_tuple_lt (Ab! PySem.F.args_tuple_lt_2) (Yn l b items NI n n2 dd vk sl eX ns ms hi hj) #[ho,lP,show fY! (Fa! ns ms)≠Value.notImplemented/\JIm from#[(λx=>nomatch x),h]] hu
abbrev KG(n d:Nat):CD!->sB
 | none=>d
 | some v=>if v<0 then Dh! (v+GD!) else min v.toNat n
def Juu(n d:Nat)(hd:d<=n)(o:CD!):KG n d o<=n:=by cases o with | none=>show hd | some v =>change JsD<=n;by_cases hv:v<0;(.rw[AF hv];lia);.rw[AD hv];show MV _ _
def Jko(v:Int)(n d:Nat):(BX! (v<0) JTA JQP)=BM! (KG n d (re v)):=by
 change So! (v<0) JTA JQP=BM! JsD;by_cases hv:v<0;.simp only[AF hv];lia
 .simp only[AD hv];lia
def Jiw(lo hi:CD!)(n:Nat):JbT=(cD!,zW!):=by
 have h1:¬(Hm!<0):=Q!
 unfold Builtin.Slice.sliceAdjust;simp only[h1,GA];show RF! ?_ ?_;.show L7? lo 0
 .show L7? hi n
def Jhw(i j:Nat):JNP cr Ct!=j-i:=by
 unfold Builtin.Slice.slicePlaces;have h1:Hm! > 0:=Q!
 simp only[h1,HX,Int.ediv_one];split<;>lia
def Tv(p:IsPart v o)(h:Q o s):De! (Builtin.Slice.slicePartIndex v):=by cases p with | none=>show JDD h | int i t=>show slicePart_int h
def Qa{sl:Addr}{vl vu:Value}{lo hi:CD!}{n:Nat}{Q:HF! (Int×Int×Nat)}(hs:v2!)(pl:uX!)(pu:uY!)(h:Q (cD!,1,KG n n hi-KG n 0 lo) s):De! (Builtin.Slice.sliceApplied ny! (Er! GD!)):=by show Jq?;unfold Builtin.Slice.sliceApplied Builtin.Slice.sliceFields;show S? ZR (DC gp qK (x:=vl) A! (JG1 vu (JG1 At (ZS ?_))));show S? JDD ?_;show Q7? (Ac! (Hm!==0));show C5?;show ZR (Tv pl (ZR (Tv pu (ZR (ZS ?_)))));show CY? (match JbT with|(lo,hi)=>Er! (lo,Hm!,Builtin.Slice.slicePlaces lo hi 1));rw[Jiw lo hi n];show He? (cD!,Hm!,JNP cD! zW!);rw[Jhw];show ZS h
def Joa(xs:BT!)(i k:Nat):((DH! k).filterMap JNx).toArray=((xs.toList.drop i).take k).toArray:=by
 have e:(JNx)=Jtb:=by funext m;have:Dh! (cr+DZ!*1)=i+m:=(Nat.add_assoc _ _ _).symm;show M?
 rw[e];have:=pick_run xs i k;show H? JDH;have e2:((λx=>xs[x]?) ∘ λx=>i+x)=Jtb:=rfl;show H? e2;show M?
def QL{t sl:Addr}{items:BT!}{vl vu:Value}{lo hi:CD!}{Q:KE}(ht:JKw t)(hs:v2!)(pl:uX!)(pu:uY!)(hw:¬(Jhr=0/\JiL=items.size))(h:lG! (Mq! (JjZ IS! JtZ)))(hsz:items.size<=sizeLine):JAD Wx! t ny!:=by
 have Y_:sizeOk (IL! JtZ):=by change DM! ((items.toList.drop (KG items.size 0 lo)).take (JkE)).toArray.size;rw[BG,CO,f8!,DR];lia
 have hj:JiL<=items.size:=FM Juu Bh! hi;show Jq?;have hTs:W1! (EQ sl) "slice":=#[os,gp,hcs];unfold getItem;try with_reducible show EO ?_
 first|show ZR (ZS ?_)|skip
 show ZR (wpAny_sequenceKey W4! Op ?_);show ZR (ED (Gd!:=f9! "__getitem__") W4! JDK (DB JDK W4! entry_tuple_getitem ?_ (Ab! args_tuple_getitem)));show EQ? (On! Builtin.Tuple.tupleItemsOf t);show AX? tupleItemsOf_ ht;show AX? W5! hTs;rw[AF (o0)];show ZR (Qa hs pl pu ?_);have cM:¬(JdP):=by intro q;rw[GW,GW] at q;have q1:BM! Jhr=0:=mX! q.1.1;have q2:JkE=items.size:=mX! PP;show hw c8!
 show Q7? JdP;rw[AD cM,Joa];first | show HR? JUt | show HR? (DA (ZR JIe) Y_) | show Kl? (DA JIe Y_) | show Kl? JUt
open E
open E Lake.HT
open N Lake.L2
open PySem PySem.Spec PyProof.Rows
@[reducible]abbrev TO:=eF! y7!
abbrev PO(X:F!)(e:Ku! Expr)(t:TO):B! :=
 JtG y7! (bD! (Zw! ->
  j2! (evalPart e SL) (λu s'=>G_ λo H'=>Ld!/\IsPart u o/\Q o H')))
abbrev Jq1:TO:=iP! Rs
abbrev Jwj(t:TE):TO:=JBB (∃i,Lv!/\Q (re i) H1)
def intsAre_of{ns:i!}:∀{us:d!},Vn! BC! AU!->JB6:=by induction ns with | nil=>intro us r;rw[EZ] at r;cases r;show U! | cons n ns ih =>intro us r;rw[AO] at r;cases r with | cons r1 r2 =>have#[t,e]:=r1;subst e;show am n t (ih r2)
open S
variable {X:Cx Kx}{e:Expr}{te:TE}{lo hi:Option Expr}{tl th:TO}{pos p2:Pos}
def Jjr:PO X Rs Jq1:=by show P?;rw[JDU];show ZS #[Rs,H,I,At,h]
def Jjq(h:MH!):PO X (re e) (Jwj te):=by show Dx?;rw[evalPart_some];show x? JpQ;show Hd?;have#[i,rfl,q]:=q1;have#[t,rfl]:=r1;show#[D! i,H1,I1,TB! i,q]
abbrev v8(X:F!)(r:vi!):B! :=
 ∀(AB:Db)(s:Shared)(σ:St)(H:Hp)(x:V)(v vl vu:Value)(lo hi:CD!)(sl:Addr)(Q:VK),H!->Sm!->v2!->uX!->uY!->r x lo hi H Q ->
  G_ λT id=>JcP/\W1! v T/\Jj! (Wx! v ny!)
abbrev tSl(r:vi!)(te:TE)(tl th:TO):TE:=h4! te (λx H1=>ER! tl (λl H2=>th σ H2 λu H3=>r x l u H3 Q))
def Jfk{r:vi!}(hr:v8 X r)(he:MH!)(hl:PO X lo tl)(hu:PO X hi th):qM! e JTq (tSl r te tl th):=by show P?;show ES? f3! he;show At?;show wpAny_Slice (FV (JhM hl) λvl s2 #[l,H2,I2,pl,q2]=>JUX hu (λvu s3 #[u,H3,I3,pu,q3]=>?_));rw[JDU];show AZ?;have I4:DY! H3 vt!:=I3.kept (t':=s3.toks) λb ob q=>F6! q;have#[T,id,hT,ht,hg]:=hr AB vt! σ H3 x v vl vu l u Mw! Q I4 r1 (Heap.IsSliceOf.new ..) pl pu q3;change JB9 (JDa e JTq v (EQ Mw!)) vt!;show tail_any (ops:=[SB Mw!,v]) ht hT hg (by with_unfolding_all rfl)
abbrev fw(xs:C!)(lo hi:CD!):C!:=(xs.drop (Ia! IU! 0 lo)).take (JqD-JqC)
def Ru(xs:C!)(lo hi:CD!):(fw xs lo hi).length<=xs.length:=by unfold fw;rw[CO,f8!];lia
inductive Jza(K:W.Frag)(x:V)(lo:CD!)(hi:CD!)(H:Hp)(Q:VK):B!
 | mk a xs (_:Bx!) (_:Dq!) (_:¬(JqC=0/\JqD=xs.length)) (_:JDZ JrQ)
def Juo{X:F!}:v8 X (Jza Kx):=by
 show Hq?;have#[a,xs,rfl,hx,hw,q]:=h;show J?;have#[its,r,ht,hz]:=Gc! hx;have hlen:its.toArray.size=xs.length:=S! BG r.length.symm
 show#[IQ!,_,PyProof.Rows.slot_tuple_getitem.lookup,W4!,?_];show HT.QL ht hs pl pu (b1! hw) ?_ (b1! hz);rw[Cf!];show QK? ii;show#[JIV,_,JMu,og!]
open E
abbrev jV(n:Nat)(i:Int):oM!:=if 0<=i then Yk! (i<n) i.toNat else N1! ms! (Dh! (i+n))
abbrev VY{α:IN}(xs:T!)(i:Int):Ku! α:=(jV IU! i).bind λj=>xs[j]?
def Jsm(h:jV n i=D! j):JFN n/\j<n/\ms!/\i<n:=by
 unfold jV at h;by_cases h0:0<=i;.rw[AF h0] at h;by_cases h1:i<n;(.show PF? (i.toNat=j) (seqIndex_of h0 h1) Q! h1);.show BE? (AD h1)
 .rw[AD h0] at h;by_cases h1:ms!;(.show PF? (Dh! (i+n)=j) (JOs h1) h1 Q!);.show BE? (AD h1)
def xk(h:eu!):∃j,JFN IU!/\JA3/\Mx!/\-oJ IU!<=i/\i<xs.length:=by unfold VY at h;cases e:jV IU! i with | none=>show AK? | some j =>show AR?;have#[h1,h2,h3,h4]:=Jsm e;show#[j,h1,h,h2,h3,h4]
def Js6{α:IN}{xs:T!}{j:Nat}{v:α}(h:JA3):VY xs Ct!=D! v:=by
 have hj:Mx!:=BP! h;have e:jV IU! Ct!=D! j:=by unfold jV;rw[AF (AR _),AF (DP! hj)];simp
 unfold VY;rw[e];show h
abbrev Jtc(b:Expr):B!:=∀o i,Wz! b Os o i=ty! [o,i] o i
abbrev sQ(X:F!)(r:R2):B! :=
 ∀(value slice:Expr)(AB:Db)(s:Shared)(σ:St)(H:Hp)(x y:V)(v u:Value)(Q:VK),JIw (eU! y ->
  Wz! Mu! Os v u=ty! [v,u] v u->Jj! (JDa value Mu! v u))
abbrev qk(X:F!)(id:String)(r:MM!):B! :=
 JZ1 (eU! xs ->
  JX0)
open S
variable {X:Cx Kx}{a b:Expr}{ta tb:TE}{pos:Pos}
def A9{r:R2}(hr:sQ X r)(ha:C6!)(hb:Gb!)(hs:Jtc b:=by show f5!):qM! a b es!:=JDs f3! (wI ha hb I h (yD! (hr a b AB s2 σ H2 x y v u Q I2 rx ry q (Ab! hs))))
inductive Jyc(K:W.Frag)(x:V)(y:V)(H:Hp)(Q:VK):B!
 | mk (p xs i v) (e0:mn!) (e1:mo!) (e2:dt!) (e3:eu!) (e4:Q v H)
abbrev wM(K:W.Frag):R2:=vr! Jyc
inductive Jyb(K:W.Frag)(x:V)(y:V)(H:Hp)(Q:VK):B!
 | mk (p xs i v) (e0:mn!) (e1:mo!) (e2:rl!) (e3:eu!) (e4:Q v H)
abbrev mS(K:W.Frag):R2:=vr! Jyb
inductive Jzd(x:V)(y:V)(H:Hp)(Q:VK):B!
 | mk z i c (_:bI!) (_:mo!) (_:JDq) (_:VY Gh! i=D! c) (_:ck! dc!)
def Bg{X:F!}:sQ X (wM Kx):=by
 show D3?;show Hs?;show J?;have#[t,rfl]:=ry;show CL? (DK! hq);show Fy?;have#[w,ew,RZ]:=r.get h2;have hl:=r.length;have hn:=Qo;show Le?;by_cases h0:0<=i;·(have hj:i.toNat=j:=by rw[seqIndex_of h0 h5] at h1;show ZO h1);show item_listR Mn! h0 V! JPq AD! hs
 ·(have hj:Dh! (i+oJ JDu)=j:=by rw[JOs h4] at h1;rw[BG,<-hl];show ZO h1);show JcH JDw JDx (wpAny_getItem_list_neg (Q:=JN0) Mn! ((Int.not_le.mp h0)) (by rw[BG]<;>show hl▸h4) V! JPq (Bc! AD!))
def Bn{X:F!}:sQ X (mS Kx):=by show D3?;show Hs?;show J?;have#[t,rfl]:=ry;show CL? (Gc! hq);show Fy?;have#[w,ew,RZ]:=r.get h2;have hl:=r.length;have hn:=Qo;show Le?;show JcH pl.typeIs slot_tuple_getitem.lookup (getItem_tuple (j:=j) (Q:=JN0) pl V! V! (by rw[BG,<-hl];show h1) (by simpa using ew) (Bc! AD!))
def Jvp:sQ X Jzd:=by
 show D3?;have#[z,i,c,rfl,rfl,hz,he,q]:=h;show Y?;show BO?;show Fy?;have hl:gB!:=nr!
 rw[hl] at h1 h4 h5;have hn:=Qo;show tail_any (typeIs_str s z t) slot_str_getitem.lookup (getItem_str (c:=c) (by have e1:kp! (i < -oJ (2 ^ 63)):=EQ! AG;have e2:kp! (i ≥ 2 ^ 63):=EQ! AG;rw[e1,e2,Bool.or_false]) (by rw[h1];simpa using h2) (Ov! (wE dc!))) hs
def Jcj(lo hi:CD!)(n:Nat):(gC! lo hi Rs n).1=BM! (Ia! n 0 lo)/\(gC! lo hi Rs n).2.1=BM! (Ia! n n hi)/\(gC! lo hi Rs n).2.2=1:=by
 show#[?_,?_,A!];.show PP? lo
 .show PP? hi
def Yo(its:d!)(lo hi:CD!):slicePick CJ! lo hi Rs=((its.drop (Ia! W6! 0 lo)).take (Ia! W6! W6! hi-Ia! W6! 0 lo)).toArray:=by have#[h1,h2,h3]:=Jcj lo hi JDu;unfold slicePick;rw[h1,h2,h3];simp only[sliceRange_one,pick_run,BG]<;>rfl
inductive Jzb(K:W.Frag)(x:V)(lo:CD!)(hi:CD!)(H:Hp)(Q:VK):B!
 | mk a xs (_:Bx!) (_:Ei!) (_:JDY JrQ)
def Jq6{X:F!}:v8 X (Jzb Kx):=by show Hq?;have#[a,xs,rfl,hx,q]:=h;show J?;have#[its,r,ht,hz]:=DK! hx;show D0?;show#[Eo!,_,JDx,ht.isList.typeIs,?_];show wpAny_getItem_list_slice ht.isList hs pl pu At Ch ?_ (by rw[BG]<;>show hlen▸hz);rw[Yo,<-Cf!];show QK? Ai!;show#[JIV,_,0,JMu,EP!]
abbrev Nf:V->A8!
 | .FJ=>true
 | .bl _=>true
 | .int _=>true
 | .str _=>true
 | _=>false
abbrev c_:V->V->A8!
 | .FJ,.FJ=>true
 | .bl a,.bl b=>a==b
 | .bl a,.int b=>(if a then 1 else 0)==b
 | .int a,.bl b=>a==(if b then 1 else 0)
 | .int a,.int b=>a==b
 | .str a,.str b=>a==b
 | _,_=>false
def Jp4(ry:CW!)(rx:Sm!)(fy:BQ! Nf y)(fx:qi!):JY4 (c_ y x):=by cases y with | FJ =>cases ry;(cases x with | FJ=>show J?;show SeqAt.EqAt.same _ | bl b=>show J?;show SeqAt.EqAt.none_bool b | int b=>show Ce? (SeqAt.EqAt.none_int b t) | str b=>show Ce? (SeqAt.EqAt.none_str b t) | _=>show Q8?) | bl a =>cases ry;(cases x with | FJ=>show J?;show SeqAt.EqAt.bool_none a | bl b=>show J?;show SeqAt.EqAt.bool_bool a b | int b=>show Ce? (SeqAt.EqAt.bool_int a b t) | str b=>show Ce? (SeqAt.EqAt.bool_str a b t) | _=>show Q8?) | int a =>show PN? SeqAt.EqAt.int_none SeqAt.EqAt.int_bool JCk wZ! | str a =>show PN? SeqAt.EqAt.str_none SeqAt.EqAt.str_bool wa! SeqAt.EqAt.str_str | _=>show HM! (show Q1! from fy) AQ
abbrev XJ(x:V)(u:Value):A8!:=match u with
 | .none=>c_ wS x
 | .bool b=>c_ (AG! b) x
 | .int i _=>c_ (XV i) x
 | .str z _=>c_ (FB z) x
 | _=>false
def Jp2(r:CW!)(f:BQ! Nf y):XJ x u=c_ y x:=by cases y with | FJ=>show BC? | bl b=>show BC? | int i=>show BB? | str z=>show BB? | _=>show HM! (show Q1! from f) AQ
def Pz:JWO (us.any (XJ x)=xs.any λy=>c_ y x)
 | _,_,.nil,_=>rfl
 | y::xs,u::us,.cons r t,f=>by rw[gD!,GW] at f;rw[NA,NA,Jp2 r f.1,Pz t f.2]
def Ks(rx:Sm!)(fx:qi!):JWO (∀u∈us,JY4 (XJ x u))
 | _,_,.nil,_=>JN1
 | y::xs,u::us,.cons r t,f=>λu' hu=>by rw[gD!,GW] at f;rcases ZM hu with rfl|hu;(.rw[Jp2 r f.1];show Jp4 r rx f.1 fx);.show Ks rx fx t f.2 u' hu
abbrev MZ(x:V)(xs:C!):A8!:=xs.any λy=>c_ y x
inductive rIn(K:W.Frag)(neg:Bool)(x:V)(y:V)(H:Hp)(Q:VK):B!
 | mk p xs (_:y=Cm!) (_:(dt!\/rl!)) (_:qi!) (_:JoM) (_:La! (if neg then ! MZ x xs else MZ x xs))
def Qg{X:F!}:JQo .In Os:=by
 show N0?;show OE? SeqAt.in_listAt
 show OL? SeqAt.in_tupleAt
def O6{X:F!}:JQo Qx! GM:=by
 show N0?;show OE? SeqAt.notIn_listAt
 show OL? SeqAt.notIn_tupleAt
inductive Jac(K:W.Frag)(xs:C!)(H:Hp)(Q:VK):B!
 | mk p ys (_:c2!) (_:(rN!\/Jb! p ys)) (_:Oh! gE!)
def Bi{X:F!}:HQ X (Eu! "len") (Jac Kx):=by
 show a?;have#[p,ys,rfl,hq,q]:=h;show Am?;show J?;have hn:=Qo;rcases hq with hq|hq;.show Es?;show CN?;show JZq Calls.call_len_list Mn!
 .show Gw?;show CN?;show JZq len_tuple pl
inductive Jab(xs:C!)(H:Hp)(Q:VK):B!
 | mk z (_:pg!) (_:JDq) (_:Oh! My!)
def Js:JC8 Jab:=by show a?;have#[z,rfl,hz,q]:=h;show Bv?;have hn:=Qo;show len_str (JEO (FZ (RD! hz) (DP! hn))) (Ov! (Ix My!))
def HQ.or(h:HQ X f r)(h':HQ X f r'):HQ X f (λxs H Q=>Vr! r\/Vr! r'):=by
 intro AB s σ H xs us Q I rs q;show BR? q;.show Je6 h
 .show Je6 h'
inductive Yl(K:W.Frag)(xs:C!)(H:Hp)(Q:VK):B!
 | mk p ys (_:c2!) (_:((rN!/\∀l,OQ!->Ny! l (E4! H l ii ys))\/(Jb! p ys/\Q (EQ p) H)))
def Eo{X:F!}:JSs Yl:=by
 show a?;have#[p,ys,rfl,h]:=h;show Am?;show J?;rcases h with⟨hq,q⟩|⟨hq,q⟩;.show Es?;show CN?;show OV?;show JL?;show Nc? (DY! (E4! H h'.objs.size ii ys) JUE) qT! #[hz,At!,r',og!];show#[yL!,_,I2,A!,q _ lf!]
 .show Gw?;show call_tuple_same pl (Vb! Cm!)
abbrev tH(K:W.Frag)(T:String)(x:V)(H:Hp):B!:=match x with
 | .str _=>T=Q2!
 | .int _=>T=Mo!
 | .ref p=>(T=Eo!/\∃xs,dt!)\/(T=IQ!/\∃o,cZ! Wk!/\UM!/\fs!) \/
  (T=KO!/\((∃kvs,aU! p z!)\/∃kvs,Cn! p BA! z!))\/(T="set"/\G_ λS n=>JP! (.set S n))
 | _=>False
def Jm0{X:F!}(I:H!)(r:Sm!)(ty:tH Kx T x H) : W1! v T/\∀a,Ls!->JKB (k7! ob):=by cases x with | str z =>show OC? (T=Q2!) typeIs_str z | int i =>show OC? (T=Mo!) typeIs_int i | ref p =>cases r;rcases ty with⟨rfl,xs,hq⟩|⟨rfl,o,hk,hc,hd⟩|⟨rfl,hk⟩|⟨rfl,S,n,hk⟩;(.have#[its,_,pl,_]:=DK! hq;show#[JDw,λa e=>?_];cases e;have#[o,n,e,c,hd,_]:=pl;show#[o,e,hd]);(.show#[#[o,DJ! p o hk,hc],λa e=>?_];cases e;show#[o,DJ! _ o hk,hd]);(·(have z:∃o,cZ! Cd!/\o.ExactDict:=by rcases hk with⟨kvs,hk⟩|⟨kvs,hk⟩;(.show Gx?;show#[o,e,ex]);.show Gx?;show#[o,e,ex]);have#[o,e,ex]:=z;show Mk?;cases e2;show Fl?);.have#[o,_,_,_,e,ex,_]:=SL! p hk;show Mk?;cases e2;show Fl? | _=>show False.elim ty
inductive Jya(K:W.Frag)(T:String)(r:MM!)(x:V)(H1:Hp)(Q:VK):B!
 | mk  (e0:tH K T x H1) (e1:r x [] H1 Q)
abbrev Jyo(K:W.Frag)(T:String)(r:MM!)(to:TE):TE:=JBC (Jya K T r x H1 Q)
inductive Jz9(K:W.Frag)(T:String)(r:MM!)(t:TA)(σ:St)(x:V)(H1:Hp)(Q:VK):B!
 | mk  (e0:tH K T x H1) (e1:ER! t (λxs H2=>r x xs H2 Q))
abbrev tM(K:W.Frag)(T:String)(r:MM!)(to:TE)(t:TA):TE:=JBC (Jz9 K T r t σ x H1 Q)
variable {o e:Expr}{es:List Expr}{to:TE}{t:TA}{name:Str}{apos IK:Pos}{T id:String}{r:V->List V->Hp->VK->Prop}
def Uw{X:F!}(pa:PlainAttrs T)(slot:JZn)(cJ:Jca)(hm:qk X id r)(ho:A0! o to)(bg:JJd:=by rfl)(bf:cM!:=by rfl):JF9 [] (Jyo Kx T r to):=by show P?;show wpAny_Call_method0_late bg bf JjJ;show Hy?;show Nd?;show#[T,id,pa,slot,cJ,h1,h2,GQ A! (PySem.evalArgs_none (hm AB s1 σ H1 x [] v [] Q I1 r1 U! q1))]
def E5{X:F!}(pa:PlainAttrs T)(slot:JZn)(cJ:Jca)(hm:qk X id r)(ho:A0! o to)(ha:MO!)(bg:JJd:=by rfl)(zL:Ac! ((backTo IK (fp! (Ml!) SL)).all (λx=>! BZ!)&&(backToKw IK (keywordEach [] SL)).all (λx=>x.1.isSome) && Go ((Ml!).length+([]:DB! Keyword).length+(Wm! ([]:DB! Keyword).isEmpty 0 1)<30)):=by rfl)(bf:cM!:=by rfl)(hs:KG!:=by rfl)(YJ:Jh6 IK es:=by rfl) : JF9 (Ml!) (tM Kx T r to t):=by show P?;show wpAny_Call_method_late bg zL bf A! JjJ;show Hy?;show Nd?;show#[T,id,pa,slot,cJ,h1,h2,?_];have hA:=ha IK AB s1 σ H1 _ I1 q1;rw[hs] at hA ⊢;show GQ (by change CA! (false || wv (backTo IK (fp! es SL)).any);rw[YJ]<;>rfl) (HK ?_);show FV hA λus s2 #[vs,H2,I2,r2,q2]=>hm AB s2 σ H2 x vs v us Q I2 r1 r2 q2
open E
abbrev hZ(X:F!)(id:String)(r:MM!):B! :=
 JZ1 (eU! xs ->
  JX0)
def Vals.one{x:V}{us:d!}(h:Yc! [x]):JS1:=by cases h with|cons r t=>show Ch? t r
def Vals.two{x y:V}{us:d!}(h:JAh):G_ λu v=>us=[u,v]/\Jh!/\ED! y v:=by cases h with | cons r t=>cases t with | cons q t=>show FN? t r q
def Vals.zero:∀{us:d!},Yc! []->us=[]
 | _,.nil=>rfl
def Vals.dropLast(h:Hp!):DD! xs.dropLast us.dropLast:=by induction h with | nil=>show U! | cons r t ih =>cases t with | nil=>show U! | cons q t'=>show am r ih
def Jio(l:T!):l.eraseIdx (l.length-1)=l.dropLast:=L0!
open S
variable {X:Cx Kx}{AB:List (Addr×Obj)}{σ:St}{H:Hp}{s:Shared}{l b:Addr}{xs ys zs:List V}
def Inv.dm{its its':d!}{n:Nat}{f:BT!->BT!}{t':Nat}(I:H!)(hH:MQ!)(e:JK6)(hf:f CJ!=its'.toArray)(hv:DD! ys its')(hz:JEX) : yc! (lH! ys) (RG! l (RH! f)):=by have q:=PySem.IsL.update e f;rw[hf] at q;show I.write (x:=l) (e:=l) (l! hH CL!) HW! (λb' u hb hu=>(CC xz (RH! f) (JE! hb)).trans hu) #[_,q] ?_;show#[hz,its',_,hv,q]
def Inv.iX(I:H!)(hv:DD! ys At!)(hz:JEX) : yc! (YX! sK ys) (uP! CJ!) :=I.laid (m3!) Bh! #[hz,At!,0,hv,EP!]
def Inv.fresh(I:H!):BJ! sK:=JBJ
def Inv.WM(I:H!)(hH:MQ!):JRh (av!/\JEZ/\JK6):=by have#[z,its,n,r,e]:=SL! l hH;show#[z,At!,n,r,r.length,e]
def Jfy(h:n<=sizeLine):A9! (Builtin.List.listTooLong n):=by unfold Builtin.List.listTooLong;show AG (CV.mpr h)
open E
open S
variable {X:Cx Kx}
inductive Jqt  (x:V) (vs:C!) (H:Hp) (Q:VK):B!
 | mk (l xs y) (e0:UK!) (e1:vs=[y]) (e2:MQ!) (e3:xs.length<sizeLine) (e4:Q wS (lH! (xs++[y])))
abbrev Jrn:MM!:=λx vs H Q=>Jqt  x vs H Q
def Ej:hZ X JEc Jrn:=by show Ac?;have#[l,xs,y,rfl,rfl,hH,hz,q]:=h;show J?;show CO?;show B5?;show VI F.slot_list_append U7! F.entry_list_append (Ab! F.args_list_append_2) (PySem.list_append l CJ! n u (S! BG (hl▸(AV hz)))) #[e,?_];show#[wS,_,I.dm (its':=its++[u]) hH e Ch (Wt! (am ru U!)) ?_,A!,q];rw[ZE,GO];lia
inductive Jrm(x:V)(vs:C!)(H:Hp)(Q:VK):B!
 | mk l b xs zs (_:UK!) (_:vs=[Cs!]) (_:MQ!) (_:JP3) (_:mu!) (_:JLo)
def Jls:hZ X JEg Jrm:=by
 show Ac?;show D4?;show J?;show CO?;cases ru;show B5?;show Jr?;show Js?
 show Om?
 show VI JEl U7! JEm zP! (AutoSeq1.list_extend_list_list_0 l CJ! n b RS.toArray n2 bc JTB (jw! hsz)) #[e,e2,?_];show#[wS,_,JU2,A!,q];rw[ZE];show hz
inductive Jzc(x:V)(vs:C!)(H:Hp)(Q:VK):B!
 | mk l xs y (_:UK!) (_:vs=[]) (_:MQ!) (_:xs[xs.length-1]?=D! y) (_:Q y (lH! xs.dropLast))
def Jvf:hZ X "list.pop" Jzc:=by
 show Ac?;have#[l,xs,y,rfl,rfl,hH,hy,q]:=h;show J?;have qH:=rv.zero;subst qH;show B5?;have#[u,hu,ru]:=r.get hy;have gh:JH6 wG!:=by change JH6 (its.length-1);rw[<-JEu,<-hl];show hu
 show VI F.slot_list_pop U7! F.entry_list_pop (F.args_list_pop_1 _) (MeetsSeq.list_pop_last l CJ! n u gh (l! BG (hl▸z))) #[e,?_];show#[y,_,I.dm (its':=its.dropLast) hH e ?_ r.dropLast ?_,ru,q];.change its.toArray.eraseIdxIfInBounds (wG!)=its.dropLast.toArray;rw[BG,List.eraseIdxIfInBounds_toArray,Jio]
 .rw[List.length_dropLast];show AA (Ab! Nat.sub_le) z
inductive Jzi(x:V)(y:V)(H:Hp)(Q:VK):B!
 | mk l b xs zs (_:UK!) (_:PP!) (_:MQ!) (_:JP3) (_:mu!) (_:JDY (xs++zs))
def Joo:JEf Jzi:=by
 show AD?;show D4?;show J?;cases ry;show B5?;show Jr?;show PySem.P.add_list e e2 ?_ (by rw[BG,BG];show AA (LO (BQ hl.symm) (BQ fN.symm)) hz);have ea:JE1=(its++RS).toArray:=Sc
 rw[ea];show#[SB _,_,I.iX (t':=Es!) (Wt! r2) (l! ZE hz),A!,q _ W7!]
open E
open S
open E
open S
variable {X:Cx Kx}
open E
open E Lake.L2
open N Lake.Att
open PySem PySem.W PySem.Calls PyProof.Rows
def R1:∀(ns:i!)(vs:d!),WellAll P h vs (BC! WData.int)->QA!:=by intro ns;induction ns with | nil =>intro vs w;rw[EZ] at w;cases w;show U! | cons n ns ih =>intro vs w;rw[AO] at w;cases w with | cons a b =>cases a;show P! am (ih _ b)
def Jk4{l:OpenLaw}{n:Nat}(hn:sZ!){P:Params}{h:Heap}{args:DB! WData}{vals:d!}(d8:BQ! l.row.toRowW.claim.pre IX!)(uT:WellAll P h vals IX!) : LW λa vs ns=>vals=[Ds! a]/\args=[WData.list (BC! WData.int)]/\JR! mH!/\QA!/\W8!:=by
 have hsh:WShape.hasAll [] IX! [M0! XV]=true:=(pre_splitW d8).1;have hc:l.pre.holds [] { args:=args }=true:=(pre_splitW d8).2;have#[d,r,rfl,h1,h2]:=hasAllW_cons hsh;obtain rfl:=hasAllW_nil h2;have#[xs,rfl,h3]:=hasW_list h1;have#[ns,rfl]:=items_int h3;have hlen:W8!:=by unfold OpenLaw.pre at hc;(have h4:(WTm.not (.lt (.lit (XV GD!)) (.len (.arg 0)))).holds [] { args:=[M0! (BC! XV)] }=true:=by have h4:=(holds_andW hc).1;rw[hn] at h4;show h4);have h5:=condW_of h4 (w_not (w_lt w_lit (w_len_list (w_arg A!))));rw[ZA] at h5;show JFB λq=>?_;(have q':GD!<BM! ns.length:=Q!);first | (rw[AI q'] at h5;show JmG h5) | (simp at h5;lia)
 cases uT with | cons w1 w2 =>cases w2;cases w1 with | list ho zU=>show#[_,_,ns,A!,A!,ho,R1 ns _ zU,Cf!]
def Jlc(l:OpenLaw)(args:DB! WData):l.row.toRowW.claim.post IX! (Au! GM) IX!=true :=postW_of (r:=l.row.toRowW) (X:=(true==true)) (show WShape.has [] (Au! GM) Au!=true by first|rfl|decide|simp[WShape.has,WShape.arms,WShape.armsAll]) (show(WTm.eq .res (.lit (Au! GM))).value [] { args:=args,res:=LK! Au! GM,after:=args }=D! (Au! (true==true)) from w_eq_bool (w_res A!) w_lit) A!
def WV{l:OpenLaw}{n:Nat}{q:Program}{loose:Z!}{XP:qs!}{YP:qr!}{d:DefRec}(hn:sZ!)(lX:m6!)(call:∀(w:World) (IV ER:Shared) (mg mb:AC!) (fa:Addr) (o:Obj) (pm cd doc:Value) (a:Addr) (vs:d!) (ns:i!),Ground q loose [] XP w IV mg mb M1!->YP w M1! -> K2! gF! fa->o.data=.func (docDef d.name d.params d.body d.scope pm cd doc)->ER.heap.CodeRec cd d.name->JnI d.name -> JPV->QA!->W8!->JbY wI! (model l.prog w)) : WalkO q loose XP YP l.row.toRowW d [] (λf vs=>PySem.call f vs):=by intro w IV ER mg mb G Y fa o pm cd doc dV kV ho hd TZ hD hmg hg args vals as d8 JTb hrd uT hlo;obtain rfl:dV=At:=Dflts.none hD lX;obtain rfl:kV=At:=Dflts.noKw hD;have#[a,vs,ns,rfl,rfl,ia,hints,hlen]:=Jk4 hn d8 uT;show enter_call (sh! (call w IV ER mg mb fa o pm cd doc a vs ns G Y ho (fd_plain hd) TZ hmg ia hints Cf! hg));have#[rfl,h2,h3,h4]:=hq;show#[W! #[oz!,oz!,[],A!,KN!,oz!,Jlc l _,λ_=>#[JFQ,λ_ hm=>(nomatch hm)]],h2,h3,h4]
open S
variable {prog:Program}{w:World}{A:Around}{E:Value->Shared->Prop}{s:Shared}{K:Frag}
abbrev ledger(h:Heap)(L d:Addr):Db:=JYm (a=d)
open E
open E Lake.Att
open N Lake.L2
open PySem PySem.Spec PyProof.Rows
def Jah{vs:d!}{ns:i!}(p:QA!):DD! (BC! AU!) vs:=JaG P2!
abbrev qu(H:Hp):B!:=∀b,Bg!\/G_ λo xs=>Bq! b uE!
def Jpf{P:Program}{w:World}{K:W.Frag}{mg mb:AC!}{CX:az}{k:Nat}{fa a:Addr}{fd:FuncData}{x:Str}{sp:Sp}{ER:Shared}{vs:d!}{ns:i!}(KX:K.In M1!)(hns:i2! gG!)(hb:gG! builtinsNs mb)(hbb:Jd0)(zK:ER.heap.NoLimit)(hg:wI!)(ha:JPV)(hi:QA!)(hl:z0!)(hr:DW k RI!)(F:JY9 CX k [x] sp)(pC:JL9)(WX:∀H:Hp,qu H->r8!->sp EV! H (wJ!) Wl!)(vB:∀H e s',CX [] H ER JrW e s'->M2!) : Mp! U2! RI! (Hb! Q3! fa JiV) (λr s'=>r=.ok (.ret (Au! GM))/\OldK M1! IP!/\s'.os=ER.os/\aq!) ER:=by
 have rv:=Jah hi;have yw:=hi.length;have core:∀H:Hp,qu H->r8!->OK P w H M1!->(∀b,H b≠none->b=a)->JbY (H a≠none->B7! Wk! a) U2!:=by intro H hO hS EE hA hK;have Z_:JFZ (Fx! gF!->Bg!->Fx! (dQ ER.heap H).get?):=λe n=>Jpn e n;(have kl:∀{b:Addr} {o:Obj} {es:Dp!} {ep:Nat},Fx! gF!->O2!->Bg!:=λ{b o es ep} e d=>by cases q:H b with | none=>rfl | some u =>show L5?;subst e';rw[ha] at e;cases e;have d':Data.seq Mz! _=Data.dict es ep:=d;cases d');have p6:∀{b:Addr} {m:AC!},gG! b m->(dQ ER.heap H).Ns b m:=λ{b m} #[o,es,ep,e,d,r]=>#[o,es,ep,Z_ e (kl e d),d,r];have hKb:K.In (dQ M1! H):=B4! (Z_ (HU! KX) (by cases q:H b with | none=>rfl | some u =>show L5?;subst e';rw[hK (JmT)] at e;cases e));have hM:Mod K mg JqP:=#[hKb,p6 hns,#[mb,p6 hb,hbb],let#[mc,h1,h2]:=zK;#[mc,p6 h1,h2]];have e0:YG P w K mg JqP RI! [] ER H:=#[A!,hM,B4! (Jsa e),BQ (Ab! Jl1),CL!,UF (HM! (show b∈([]:X!) from hb) Ch),EE,.of_eq hg];show JO ((F _ hKb (p6 hns)).run RI! [] ER H JiV EV! EV! _ _ hr e0 (pC ER Bw!) JCP (WX H hO hS)) λr s' h=>?_;cases r with | error e=>show(vB H e s' h).elim | ok fl =>cases fl with | next=>show C9? | brk=>show C9? | cont=>show C9? | ret u =>have#[v,H',os,bare,un,zH,r',q]:=h;have q':v=lE!:=q;subst q';obtain rfl:u=fY! GM:=r';show#[A!,OldK.of_keep GS!,os,bare];cases q:H b with | none=>show un.keep b o e q (by intro z;show JIN) Ch | some u =>rcases hO b with z|⟨ob,xs,z⟩;(.rw[q] at z;cases z);.have z2:=un.OO b ob _ z;have#[e1,_]:=EE b _ z;have#[e2,_]:=zH b _ z2;show X? e;cases e1;show e2
 cases hk:Wk! a with | some o =>have e:=KX a o hk;rw[ha] at e;cases e;show core (Q5!) (λ_=>H4!) (CB! #[_,Mz!,_,hk,A!,A!,A!,HO! BG yw hl,by simpa using rv]) (λb u z=>by have z':(Rs:oL!)=D! u:=z;cases z') (λb z=>lQ! z) λz=>lQ! z | none =>show core (λb=>N1! (b=a) (.IC mH! (Ai! (BC! AU!)))) (λb=>?_) (VF! #[mH!,Aq!]) (λb u z=>?_) (λb z=>?_) λ_=>hk;(.show Bu?;(.show G? #[_,_,AF hb]);.show y! (AD hb));(.show Bu?;(.have z':=(AF hb).symm.trans z;cases z';subst hb;show#[ha,JAc,vs,_,rv,ha]);.have z':=(AD hb).symm.trans z;cases z');.show Bu?;(.show hb);.show HV! AD hb z
@[reducible]abbrev KOf{K:W.Frag}{h:Heap}(_:Ug!):W.Frag:=K
def eI{l:W.OpenLaw}{n k:Nat}{q:Program}{loose:Z!}{XP:qs!}{YP:qr!}{d:DefRec}{K:JNN}{CX:World->az}{sp:World->Sp}{x:Str}(hn:sZ!)(fK:n<=sizeLine)(lX:m6!)(hr:DW k RI!)(hY:JZ2)(F:JZ3 (gH! ((JL9) /\ JcC (CX w) k [x] (sp w))))(WX:∀(w:World) (H:Hp) (a:Addr) (ns:i!),W8!->qu H->DT (K W9!) H a JiY->sp w EV! H (wJ!) Wl!)(vB:∀(w:World) (H:Hp) (s:Shared) (e:Value) (s':Shared),CX w [] H s JrW e s'->M2!) : JNB:=by show Att.WV hn lX λw IV ER mg mb fa o pm cd doc a vs ns G Y ho hd TZ hmg ia hints hlen hg=>?_;have KX:=hY w _ Y;have#[fd,hb,hF]:=F w mg fa _ KX G.T.g hmg;show Jpf KX G.T.g G.T.b G.T.builtins G.T.nolimit hg ia hints (AA Cf! fK) hr hF hb (λH hO hS=>WX w H a ns Cf! hO hS) λH e s'=>vB w H ER e s'
abbrev inClass(s:Stmt)(j:Nat):I!:=match s with
 | .ClassDef _ _ _ body _ _ _ _ _ _ _=>body.getD j (.Pass vR!)
 | _=>.Pass vR!
abbrev Pt(s:Stmt):Arguments:=match s with
 | .FunctionDef _ a _ _ _ _ _ _ _ _=>a
 | _=>{ posonlyargs:=[],args:=[],vararg:=none,kwonlyargs:=[],kw_defaults:=[],kwarg:=none,defaults:=[] }
abbrev Ha(s:Stmt):bm!:=match s with
 | .FunctionDef _ _ b _ _ _ _ _ _ _=>b
 | _=>[]
abbrev Ak(s:Stmt):Scope:=match s with
 | .FunctionDef _ _ _ _ _ _ sc _ _ _=>sc
 | _=>{ kind:=.function,names:=[],isGenerator:=false,isCoroutine:=false }
@[reducible]abbrev YV:az:=λ_ _ _ _ _ _=>False
@[reducible]abbrev E0:XK:=Wl!
def A8:Hk YV X E0:=λ_ _ _ _ _ _ _ h=>h.elim
structure HC(K:W.Frag)(x qual:Str)(st:Stmt)(f:Addr)(fd:FuncData):B! where
 ex:sX λ(oc:Value)(od:Option Addr)(kV:Value)(doc:Value)(pm:Value)(an:Option Addr)(FH:Value)=>G_ λ(ct:Value)(gQ:Array (Option Value)) =>
  fd=JJh/\JbW (.func fd)/\JYJ
 kp:JFl
open S
variable {P:Program}{w:World}{K:W.Frag}{mg:Str->Option Value}{base:Heap}
def HC.ok{x qual:Str}{st:Stmt}{f:Addr}{fd:FuncData}{N ps:Z!}{k:Nat}{sp:Sp}(F:QI!)(S:fG!)(len:d2!)(WR:JWP (RL (JWQ YV) (Ha st) t)):JJB:=by show D5?;show Jtr lk TZ S len (JF5 ?_);have#[t,h,q]:=JfP;show#[t,h.fB,q]
abbrev Bd(P:Program)(w:World)(K:W.Frag)(mg:AC!)(base:Heap)(CX:az)(b:Bool)(N ps:Z!)(qual:Str)(st:Stmt)(f:Addr)(k:Nat)(vs:C!)(H:Hp)(Q:VK)(E:XK):B! :=
 JAp/\∀(FH:Value)(A:Around)(outer:Cz!)(s:Shared),l1! (envOfC qual (Ak st) sK f FH) ->
  Jqu (RL (bif b then JWQ CX else JK1 (Ak st)) (Ha st) t)
def HC.KH{x qual:Str}{st:Stmt}{f:Addr}{fd:FuncData}{N ps:Z!}{k:Nat}{sp:Sp}(F:QI!)(S:fG!)(h:Jfm YV GM):JJB :=F.ok S (wK!) JeB
def HC.binds{x qual:Str}{st:Stmt}{f:Addr}{fd:FuncData}{ps:Z!}(F:QI!)(h:∀(kV doc pm:Value) (an:J1!) (FH ct:Value) (us:d!),JcF JJh):WC!:=by show D5?;show .all (h kV doc pm an FH ct)
open E
def Ct(hr:P6!):J7!:=AH (OB (o0:1<=64) _) hr.units
def Bu(h:n<=1000):XA!:=dG!
open S
variable {X:Cx Kx}
def pv(i:Nat)(hN:J3!:=by rfl)(hv:rR!:=by first|show XB! A!|show M3! (XB! A!)|show M3! (M3! A!))(hd:DA!:=by decide)(TZ:JBZ:=by decide):JTS:=Ju6 hN hv hd TZ
inductive Ji0(xs:C!)(H:Hp)(Q:VK):B!
 | mk a kvs (_:xs=[LM!]) (_:ML!) (_:Oh! Wy!)
def Q4:JC8 Ji0:=by show a?;have#[a,kvs,rfl,ha,q]:=h;have#[u,rfl,ru]:=vals1 r;cases ru;show Jxu I (BK! ha) λt s' I'=>#[Ix Wy!,H,I',P2!,q]
open E
def Bs{A B:B!}(h:B):if Q1! then A else B:=n2! (AD AQ)
def B3{A B:B!}(h:A):if true=true then A else B:=n2! Aq!
def Nr{c A B:B!}[Decidable c](h1:c->A)(h2:¬c->B):if c then A else B:=by
 by_cases h:c;.rw[Ed!];show h1 h
 .rw[FO!];show h2 h
abbrev CG(H H':Hp):B!:=DG! (EK!->LY!)
def CG.refl(H:Hp):Cp! H:=λ_ _ h=>h
def CG.seq{K:W.Frag}{H H':Hp}{a:Addr}{xs:C!}(e:db)(h:Ei!):Vq! H':=by
 rcases h with(h|⟨o,h⟩)|h;show Ak? (AC e h)
 show Fv? (P! e h)
 show A9?
open S
variable {κ:Type}[DecidableEq κ]
def Gy:∀{l:DB! κ} {k:κ},XC!->¬k∈l->Jw! (l++[k])
 | [],k,_,_=>Sc
 | a::r,k,h,hk=>by show u? (IY! h);change Jw! (a::(r++[k]));show XD! #[Th!,Gy h2 λm=>hk (Q4! (M3! m))];show BR? (ZI m);(.show h1 q);.show hk (Q4! (XB! (GF! ZK q)))
def Jmb{p:κ×V}{r:A7!}{k:κ}(e:Sq!):D6 (p::r) k=D6 r k:=JPw (AD (bl!))
def Jbs{p:κ×V}{r:A7!}{k:κ}(e:¬Sq!):D6 (p::r) k=p::D6 r k:=JPw (AF (by simp[e]))
def W9:∀{kvs:A7!} {k:κ},¬k∈wv FY!->D6 z! k=kvs
 | [],_,_=>rfl
 | p::r,k,h=>by (have h':¬k∈wv r.map:=λm=>by show BS? Ee!;show ZC! h #[q,Q4! (M3! hq),e]);rw[Jbs λe=>ZC! h #[p,Q4! (XB! A!),e],W9 h']
open E
open E Lake.L2
set_option maxHeartbeats 4000000
open N Lake.FX
open PySem PySem.Spec PyProof.Rows L2
inductive H_(K:W.Frag)(H:Hp):JIB
 | FJ:H_ K H wS At
 | bl (b:Bool):H_ K H (AG! b) (Au! b)
 | int (i:Int):H_ K H Ui! Ui!
 | str (x:Str):H_ K H (FB x) (FB x)
 | BV {a:Addr} {xs:C!} {ds:PZ!}:Dq!->JGQ->(∀(j:Nat)(x:V)(d:PyData),JS6 (H_ K H x d))->JUi
inductive Rep(K:W.Frag)(H:Hp):JIB
 | one {x:V} {d:PyData}:H_ K H x d->Rep K H x d
 | BM {a:Addr} {xs:C!} {ds:PZ!}:Ei!->uA!->Rep K H Bw! (M0! ds)
def Bf{xs:T!}{ys:CE!}(p:ID!):∀(j:Nat)(x:α)(y:β),JS7:=by induction p with | nil=>intro j x y h;simp at h | cons r _ ih =>intro j x y h h';cases j with | zero=>cases h;cases h';show r | succ j=>show ih j x y h h'
def Fi{xs:T!}{ys:CE!}(hl:JGS)(h:∀(j:Nat) (x:α) (y:β),JS7):ID!:=by induction xs generalizing ys with | nil=>(cases ys with|nil=>show U!|cons=>cases hl) | cons x xs ih=>cases ys with | nil=>cases hl | cons y ys=>show am (h 0 x y A! A!) (ih (RJ! hl) λj=>h (j+1))
def H_.tupP{K:W.Frag}{H:Hp}{a:Addr}{xs:C!}{ds:PZ!}(h:Dq!)(r:uA!):JUi :=ii h (Mb! r) λj x d e1 e2=>Bf r j x d e1 e2
structure DQ(H H':Hp):B! where
 BV:∀a xs,q4!->Sj! a ii xs
 IC:∀a o u,EM! ZW!->JD! H' ZW!
def DQ.refl(H:Hp):DQ H H:=#[fm!,λ_ _ _ e=>e]
def DQ.trans(a:DQ H H1)(b:DQ H1 H2):DQ H H2:=#[λc xs e=>b.BV c xs (a.BV c xs e),λc o u e=>b.IC c o u (a.IC c o u e)]
def MK(s:db):BV!:=#[RK! (s a _ e),λa o u e=>s a _ e]
def DQ.sq{K:W.Frag}{H H':Hp}(k:BV!){a:Addr}{xs:C!}(h:Dq!):ak! H':=by
 show Ft?;show Ak? (k.BV a xs e)
 show Fv? (k.IC a o _ e)
 .show G? z
def VZ(h:∀o',JP! o'->(∀xs,o'≠ii xs)/\∀b u,o'≠.IC b u):DQ H ps! :=#[RK! (JY5 ((h _ e).1 xs A!)),λa b u e=>JY5 ((h _ e).2 b u A!)]
open S
def Re{xs:C!}{us:d!}{ds:PZ!}(p:Hp!)(hl:JGQ)(f:∀(j:Nat) (x:V) (d:PyData),JS6 (wL! Jh! h)):∃as,ReadsAll h us ds as:=by induction p generalizing ds with | nil=>(cases ds with|nil=>show#[[],U!]|cons=>cases hl) | cons r t ih=>cases ds with | nil=>cases hl | cons d ds =>have#[as,r1]:=f 0 _ d A! A! _ r;have#[bs,r2]:=ih (RJ! hl) λj=>f (j+1);show#[as++bs,Lq! r1 r2]
def H_.reads{X:F!}(I:H!)(r:H_ Kx H v d):wL! CF! xz:=by induction r with | FJ=>intro u e;cases e;show#[_,At] | bl b=>intro u e;cases e;show#[_,Au! b] | int i=>show IW? (TB! i) | str x=>show IW? (FB x t) | BV h hl _ ih =>intro u e;cases e;have#[its,rv,#[o,ho,hc,n,hd],_]:=Gc! h;have#[as,ra]:=Re rv hl λj x d e1 e2=>ih j x d e1 e2;show#[as,JYY .tuple]
def Rep.reads{X:F!}(I:H!)(r:Rep Kx H v d)(e:CF!):∃as,Reads xz u d as:=by cases r with | one r=>show r.reads I u e | BM h p =>cases e;have#[its,rv,pl,_]:=DK! h;have#[o,ho,hc,n,hd]:=pl.isList;have#[as,ra]:=Re rv (Mb! p) λj x d e1 e2=>(Bf p j x d e1 e2).reads I;show#[_,JYY M0!]
abbrev wB(d:PyData):B!:=JJv 40
inductive Jyd(K:W.Frag)(x:V)(y:V)(H:Hp)(Q:VK):B!
 | mk (d e) (e0:Rep K H x d) (e1:Rep K H y e) (e2:wB d) (e3:wB e) (e4:La! (PyData.eqv d e))
abbrev Jzg(K:W.Frag):R2:=vr! Jyd
def Jvc{X:F!}(hu:VK!):JSM Jzg:=by show AD?;have#[d,e,r1,r2,o1,o2,q]:=h;have#[as,g1]:=r1.reads I rx;have#[bs,g2]:=r2.reads I ry;show PySem.SeqAt.compareEq_reads g1 g2 o1.1 o2.1 (by have:=o1.2;lia) (Vb! (AG! _))
def j6(r:P6!):JCt:=r.units
open E
abbrev Jv(p d:Addr):HO:=.ext λh=>h.IsValuesView p d
open S
def Jsj{kvs:A7!}{vs:bw!}(p:Dk!):DD! (FY! CK!) (Mt! CK!):=eK! Jw1 r.2
def Ql:Jbc "dict.values" Vg! IF!:=by show IB?;show IC?;show J?;cases rs;show L9?;show JGl KY IZ! PySem.F.entry_dict_values (PySem.F.args_dict_values_1 _) (meets_dict_values TR! d lo) #[#[vs,dd],?_];show CC?;show NO? Jv;show Ne? JGm JGm;show OB?
inductive P3(xs:C!)(H:Hp)(Q:VK):B!
 | mk p d kvs (_:c2!) (_:JP! IF!) (_:Vg!) (_:JMa JPE)
def Q3(hc:BY!):JEi P3:=by show a?;have#[p,d,kvs,rfl,hp,hd,q]:=h;show Am?;show J?;show L9?;have#[ep,da]:=dd.dictAt;have hv:s.heap.IsValuesView p d:=sX! p hp;show W.kdl_call (W.kdl_values (knd:=JVv) (r:=p) (d:=d) (z!:=vs) (ep:=ep)) IG! #[hv,da] (JEY) λh' tk i0 c' kp e ha=>?_;show CC?;have e1:i0.toList=Mt! CK!:=W.kdl_vals_eq i0.toList (l! DR ha.1) λj v hj=>ha.2 j v (yk! JEu);show#[LO!,_,JbQ JPE #[Cw! z,i0.toList,c',?_,PY!],A!,q _ hn];rw[e1];show Jsj rel
open E
open S
open E
def Aj(hp:Hf!):Cp! ps!:=λb u e=>Yh! (Al e hp)
def Ai(a:Uo!)(b:d5!):Ha!:=λc o h=>b c o (a c o h)
def C4(e:db)(h:B7! H' l):OQ!:=by cases q:H l with | none=>rfl | some o=>show BE? (e l o q)
def Jc0{xs:T!}{ys:CE!}(j:Nat)(p:ID!):JZO:=Ju5 p j
def Ey{α β:IN}{R:Ek!}{x:α}{y:β}(r:R x y){xs:T!}{ys:CE!}(p:ID!):Ma! R (xs++[x]) (ys++[y]):=JIF
def Ax{α β:IN}{R S:Ek!}(f:d1! (S a b)):∀{xs:T!} {ys:CE!},ID!->Be! S xs ys
 | _,_,.nil=>U!
 | _,_,.cons q t=>am (AC f q) (Ax f t)
def Mc(h0:0<=i)(h:xs[i.toNat]?=D! v):eu!:=by have:=Js6 h;show BP? (BN h0)
def Aw{α:IN}{xs:T!}{j:Nat}(h:Mx!):∃x,xs[j]?=D! x:=#[xs[j],List.getElem?_eq_some_iff.mpr #[h,A!]]
open S
open E
abbrev aR(K:W.Frag)(H:Hp)(a:Addr)(xs:C!):B!:=(∃o,EM! uE!)\/∀H':Hp,Vq! H'
def aR.sq{K:W.Frag}{H:Hp}{a:Addr}{xs:C!}(h:pG!):Ei!:=M4! (λ#[o,e]=>R9! AT cz!) λz=>z H
def aR.keep{K:W.Frag}{H H':Hp}{a:Addr}{xs:C!}(h:pG!)(kt:BV!):aR K H' a xs:=M4! (λ#[o,e]=>HY! o (FM kt.IC _ e)) λz=>b2!
def aR.of{K:W.Frag}{H:Hp}{a:Addr}{xs:C!}(hO:qu H)(h:Ei!):pG!:=by
 show Ft?;.rcases hO a with q|⟨o,ys,q⟩;(.show FP?);.show FP?
 show AH? cz!
 .show G? (λH'=>b2!)
open E Lake.FX
open N Lake.FX
open PySem PySem.Spec PyProof.Rows L2 PySem.Builtin PySem.Builtin.Str
def Jag:∀{l:yM!},DD! ((FS be).map AA!) (strValues l)
 | []=>U!
 | (x,t)::r=>Lq! P2! Jag
def Nj:JN3 (Vn! FT! AA!->JVw)
 | [],_,.nil=>U!
 | y::r,_,.cons #[t,e] q=>by cases e;show am y t (Nj q)
open S
variable {X:Cx Kx}
inductive xG(x:V)(vs:C!)(H:Hp)(Q:VK):B!
 | mk z y (_:bI!) (_:vs=[wE y]) (_:CA! (y.length==0)) (_:DM! (z.length+2)) (_:JMa (Y6! (Gi! z y).map))
def Kq:hZ X "str.split" xG:=by
 show Ac?;have#[z,y,rfl,rfl,hy,hz,q]:=h;show Y?;have#[_,rfl,u,rfl]:=rv.one;have hle:=split_le z y;have fin:∀(l:yM!)(k:Nat),LW!=Gi! z y->Z2! yI! { s with heap:=uP! (strValues l).toArray,toks:=k }:=λl k e =>#[SB _,_,Ce! I.iX t' k ys ((Gi! z y).map AA!) (Bz! e Jag) (Yf! (AA hle hz)),A!,q _ W7!];have e2:DM! (partsBetween z (Jcs occurrences) fw!).length:=by have:=Jcs StrLaws.occ_length_le;rw[len_partsBetween];show AH this hz
 have ar:=F.args_str_split_2 (FB z t) (FB y u);have en:=F.entry_str_split;by_cases h1:Ac! (Go (z.length<y.length) || Go (strKind z<strKind y));.show VI gI! pE! en ar (meets_str_split_cannot_occur z y t u h1) (JSd (GF! AF h1))
 .have fO:=XE! h1;by_cases hf:(occurrences z y 0 My! (z.length+1)).isEmpty=true;(.show VI gI! pE! en ar (meets_str_split_not_found z y t u fO hy hf) (JSd (JWN AF)));.show VI gI! pE! en ar (meets_str_split_sep z y t u fO hy (XE! hf) (AA K3! hz) e2) ?_;dsimp only [wants];rw[strsFrom_eq];show AD! (numbered Es! _) _ ((numbered_texts _ _).trans (JWN AD))
inductive rJoin(K:W.Frag)(x:V)(vs:C!)(H:Hp)(Q:VK):B!
 | mk z l ys (_:bI!) (_:vs=[FH!]) (_:DT K H l (FT! AA!)) (_:JBx FT!+ys.length*z.length<=16777216) (_:ck! (Dy! z ys))
def xj{X:F!}:hZ X "str.join" (rJoin Kx):=by show Ac?;have#[z,l,ys,rfl,rfl,hl,hz,q]:=h;show Y?;have#[_,rfl,ru]:=rv.one;cases ru;have#[its,r,pl,_]:=DK! hl;show join_list Mn! (Nj r) hz λt' k=>#[FB _,H,I.tok _,BR!,?_];rw[Ge! (Txt.join z ys=Dy! z ys) (StrLaws.glued_eq_join z ys)];show q
inductive Nh(xs:C!)(H:Hp)(Q:VK):B!
 | mk z (_:pg!) (_:ck! z)
def Ga:JEk Nh:=by show a?;have#[z,rfl,q]:=h;show Bv?;show PySem.P.str_of_str #[ZK!,H,I,BR!,q]
open E
abbrev kL(z:Str):It:=JR9 (i<z.length) (∃c,XF!=D! c/\x=wE dc!) (z.length<=i)
def Jm2{P:Program}{w:World}{K:W.Frag}{tg:Expr}(z:Str)(t:Tok)(it:Addr)(ty:String)(cJ:wO!\/wP!):JkO (kL z) (h.IsStrIter it ty z t i) where
 mem:=DM.mpr A!
 obj:=KL! (by
  show BH?
  subst e
  show Dy?
  show#[o,e,λv q=>tp! d])
 keep:=λi h h' #[o,ho,r] k=>#[o,k it Ch o ho,r]
 item:=by
  show w?
  show g?
  have hx:XF!=D! (z.cps[i]'hg):=PX hg
  show t?
  have fin:JNt (Jct h'.IsStrIter) (∃u,D! (WS! #[#[ZZZ,z.cps[i]'hg]] Es!)=D! u/\JBb uz! (JcD (kL z).TX (Jct s2.heap.IsStrIter) (∀b∈[it],JX!)) mv!):=λh' OV sb=>by
   show Ps? mv! ((sb.2 b hb).trans e)
   show Eo?
   show O? (j_ (s:=mv!) e c d ?_ (l3! (FB _) BR! #[A!,_,hx,A!]))
   rcases cJ with rfl|rfl<;>decide
  show Eu?
  .show wpAny_pyNext_ascii_item st hx AD!
  .show wpAny_pyNext_wide_item st hx AD!
 done:=by
  show w?
  show g?
  show t?
  have hx:XF!=none:=RY hg
  show Eu?
  .show wpAny_pyNext_ascii_end IG! st hx mJ!
  .show wpAny_pyNext_wide_end IG! st hx mJ!
 self:=λ_ _ _ _ _ st h=>by
  show Eu?
  .show wpAny_pyIter_striter_ascii st h
  .show wpAny_pyIter_striter_wide st h
abbrev Jzq(tl:TE):TI:=Jns (∃z,bI!/\R (kL z) H1)
def Ju3{X:F!}{tg l:Expr}{tl:TE}(hl:Vp!):rO! Jzq tl:=by
 show AC?;show BI?;rintro v s1 ⟨x,H1,I1,r1,z,rfl,q⟩;have#[t,rfl]:=r1;have fin:∀ty,(wO!\/wP!)->wA X AB σ tg R (EQ Dw!) { s1 with heap:=Jmu s1.heap.push ty (FB z t) }:=λty cJ=>by show#[Dw!,yx!,Qw? ZB! (Jm2 z t _ ty cJ) kG! Hh!];show H7?;subst e;show JHH
 by_cases ha:BQ! z.cps.all (· < 128);.show wpAny_pyIter_ascii ha (AD! _ HW!)
 .show wpAny_pyIter_wide (XE! ha) (AD! _ (AT A!))
abbrev Em(c:Nat):A8!:=V5! 48 57
abbrev numOf(l:Ad!):sB:=XG! (λa c=>a*10+(c-48)) 0
abbrev wD(c:Nat):oM!:=Te! (V5! 48 57) (c-48) (Te! (V5! 97 122) (c-87) (N1! (V5! 65 90) (c-55)))
abbrev j3(c:Nat):A8!:=c==32 || (V5! 9 13)
abbrev Sw(base:Nat)(p:wQ!)(c:Nat):WU! (wQ!) :=
 match p with
 | (ds,ad)=>if c==95 then(wR! (ds,Os)) else match wD c with
   | some d=>N1! (d<base) (ds.push d,GM)
   | none=>none
abbrev rY(base:Nat)(cs:Ad!):WU! (Array sB):=(cs.foldlM (Sw B3!) ((Ep!:Jg!),Os)).bind λp=>match p with
 | (ds,ad)=>wR! ds
abbrev q_:Ad!->oM!
 | 48::c::_=>JEP 120 88 16 (JEP 111 79 8 (N1! (c==98 || c==66) 2))
 | _=>none
abbrev rn{α:IN}(inv:α)(tl:sB->α)(bl:α)(val:GE->α)(limit base:Nat)(text:Ad!):α :=
 let t:=text.dropWhile j3
 let(negative,t):=match t with
  | 45::r=>(GM,r)
  | 43::r=>SK! r
  | _=>(Os,t)
 let ap:=match t.drop 2 with
  | 95::r=>r
  | r=>r
 let(b,bu,t):=match q_ t with
  | some p=>JWK (base==0 || base==p) (p,Os,ap)
  | none=>JWK (base==0) (10,t.head?==D! 48,t)
 match rY b (t.reverse.dropWhile j3).reverse with
 | none=>inv
 | some ds =>
   if ![2,4,8,16,32].contains b&&limit != 0&&ds.size > limit then tl ds.size else
   if b==10&&ds.size > 6000 then bl else
   let n:=ds.foldl (λacc d=>acc*b+d) 0
   if bu&&n != 0 then inv else val (if negative then -GD! else n)
def Gp(h:Sd!):48<=c/\c<=57:=by simpa [Em] using h
def Jbq:∀(l:Ad!)(ds:Jg!)(ad:Bool),(JlL)->l≠[]->Dc! (l.foldlM (Sw 10) (ds,ad)) (ds++(FS gJ!).toArray) GM
 | [],_,_,_,h=>QR!
 | c::r,ds,ad,hd,_=>by show DL?;(have e:Dc! (Sw 10 (ds,ad) c) JOg GM:=by (have e1:CA! (c==95):=nu! (BU (AH b Op)));(have e2:w! wD c (c-48):=by unfold wD;rw[AF (by simp;show#[a,b])]);change(Wm! (Ac! (c==95)) _ _)=_;rw[e1,e2];simp;lia);rw[List.foldlM_cons,e];change List.foldlM (Sw 10) (JOg,GM) r=_;cases r with | nil=>simp | cons x r' =>rw[Jbq (x::r') _ GM (JWR) Ch];simp
def Jgs:JV8 (l.dropWhile j3)
 | [],_=>rfl
 | c::r,hd=>by show DL?;rw[List.dropWhile_cons,AD (by simp[j3];lia)]
def Jux{α:IN}(inv:α)(tl:sB->α)(bl:α)(val:GE->α)(l:Ad!)(hd:JlL)(hn:l≠[])(h9:l.length<=9):rn inv tl bl val 0 10 l=val (Ev! l):=by
 have#[c,r,rfl]:=HV hn;show DL?;have e1:q_ (Gj!)=none:=by cases r with | nil=>unfold q_;split<;>simp_all | cons x r' =>have#[a',b']:=Gp (hd x Ch);unfold q_;split;(.rename_i y _ e;injection e with _ e2;injection e2 with e3 _;rw[ot!,ot!,ot!]);.rfl
 have e2:(match (Gj!:Ad!) with|45::r=>(GM,r)|43::r=>SK! r|_=>SK! Gj!)=SK! Gj!:=by split;(.show Mn?);(.show Mn?);.rfl
 have e3:JW6=D! ((Gj!).map gJ!).toArray:=by rw[Jgs _ (M5! (hd c (List.mem_reverse.mp hc))),List.reverse_reverse];unfold rY;rw[Jbq _ _ _ hd hn];simp
 unfold rn;simp only[Jgs _ hd,e2,e1];change(match JW6 with|none=>inv|some ds=>_)=_;rw[e3];have vD:¬(((Gj!).map gJ!).toArray.size > 6000):=by simp;simp at h9;show AA h9 Op
 simp only[bne_self_eq_false,Bool.and_false,Bool.false_and,DN,GA,AG vD];congr 1;unfold numOf;simp[List.foldl_map]
def Jsc:v0! "__int__":=vK!
def Jlr:v0! "__index__":=vK!
def Jlq:v0! "__trunc__":=vK!
def Jem:JV8 (l.takeWhile (λx=>x != 0))
 | [],_=>rfl
 | c::r,hd=>by show DL?;rw[List.takeWhile_cons,AF (nu! (EY (CK Op a))),Jem r JWR]
def Vh(z:Str)(t:Tok)(hd:bN!)(h1:bO!)(h9:US!):Meets (Builtin.«int.__new__» #[[EC! Mo!,FB z t],[]]) (Made.int (Ev! Gh!)).spec :=Meets.of_wp λprog w A R s hs=>by show D2?;have f1:=F.conv_sub_int;have f2:=F.madeHere_int;have hT:(QP!:Qq!).TypeIs (FB z t) Q2!:=rfl;have f3:=Jsc;have f4:=Jlr;have f5:=Jlq;show Mg?;(have ha:(z.cps.all λx=>Go (x<128))=true:=by rw[<-Array.all_toList,MX];intro c hc;have#[a,b]:=Gp (hd c hc);simp;show AH b Op);(have hl:gB!:=nr!);(have WD:wS!:=λe=>by rw[e] at hl;simp at hl;show I? h1 (ej! hl.symm));rw[AF ha,Jem _ hd,AF (AA (hl▸h9) Op)];show BG?;have key:∀{α:IN} (inv:α) (tl:sB->α) (bl:α) (val:GE->α),rn inv tl bl val 0 10 Gh!=val (Ev! Gh!):=λinv tl bl val=>Jux inv tl bl val _ hd WD (hl▸h9);show AE?;split;show Kr?;show Kr?;(.rename_i h;have e:=JqM h;injection e with e;subst e;simp only[J_,HX];show Mg?;all_goals first|show O? hs|trace_state);.rename_i h;show HV! JqM h JpL
open S
variable {X:Cx Kx}
inductive Jad(xs:C!)(H:Hp)(Q:VK):B!
 | mk z (_:pg!) (_:bN!) (_:bO!) (_:US!) (_:Q (XV (Ev! Gh!)) H)
def Jd7:JEj Jad:=by show a?;have#[z,rfl,hd,h1,h9,q]:=h;show Bv?;show call_int_1 (Vh z t hd h1 h9) (show(Made.int (Ev! Gh!)).post _ s from#[A!,XV _,H,I.tok _,BR!,q])
open E
@[reducible]abbrev one(c:Nat):Str:=dc!
def Jkn{c:Nat}:∀{a b x y:Ad!},c∉a->c∉b->a++c::x=b++c::y->a=b/\x=y
 | [],[],_,_,_,_,e=>Bc! PY!
 | [],d::b,_,_,_,hb,e=>JOk JEq
 | d::a,[],_,_,ha,_,e=>JOk (λz=>ha (by simp[<-z]))
 | d::a,f::b,x,y,ha,hb,e=>by simp at e;show u? (Jkn (cN! ha) (cN! hb) e.2);show#[A5! e.1 h1,h2]
def Eb(c:Nat)(a b:Str)(r:Z!):(Dy! (one c) (a::b::r)).cps.toList=a.cps.toList++c::(Dy! (one c) (b::r)).cps.toList:=by change((a++one c++Dy! (one c) (b::r))).cps.toList=_;show NY?;simp
def join_one(s a:Str):UH! s [a]=a:=A!
def Oj{a b:Str}(h:a.cps.toList=b.cps.toList):a=b:=Str.ext' (Array.toList_inj.mp h)
def Jgd{c:Nat}:∀{ps qs:Z!},ps≠[]->qs≠[]->(wT!)->(∀p∈qs,c∉p.cps.toList)->Dy! (one c) ps=Dy! (one c) qs->ps=qs
 | [],_,h,_,_,_,_=>QR!
 | _,[],_,h,_,_,_=>QR!
 | [a],[b],_,_,_,_,e=>by rw[join_one,join_one] at e;rw[e]
 | [a],b::d::r,_,_,h1,_,e=>JUP JmS JSc
 | a::d::r,[b],_,_,_,h2,e=>JUP (by rw[<-e];simp) JPP
 | a::d::r,b::f::t,_,_,h1,h2,e=>by have e:=FW! (λz=>z.cps.toList) e;simp only[Eb] at e;have#[q1,q2]:=Jkn JSc JPP e;rw[Oj q1,Jgd Ch Ch (sY! h1) (sY! h2) (Oj q2)]
def Jnb(x y:Str):Gi! x y≠[]:=λe=>by have:=split_pos x y;show H? e;show BU?
def Fe{c:Nat}{ps:Z!}(hn:ps≠[])(h:wT!):Gi! (Dy! (one c) ps) (one c)=ps :=Jgd (Ab! Jnb) hn (StrLaws.split_free _ c) h (Ab! StrLaws.join_split)
abbrev mX(z:Str):A8!:=JH9 Em&&Go bO!&&Go US! && !(Go wU!&&Go (z≠"0"))
inductive Arg where
 | n (i:Int)
 | t (a b:Int)
abbrev Gv(z:Str):CD!:=N1! (BQ! mX z) (Ev! Gh!)
abbrev Je(z:Str):Ku! Arg:=match sm! with
 | [a,b]=>(Gv a).bind λi=>EI! Gv b JNz
 | _=>none
abbrev Jd(f:Bool)(z:Str):Ku! Arg:=if f=true then EI! Gv z Arg.n else Je z
abbrev Gj:GI!->Z!->JUH
 | f::fs,w::ws=>(Jd f w).bind λa=>(Gj fs ws).map λr=>a::r
 | _,_=>D! []
abbrev FT:Pa!:=[Lt! Fd!,mk! Ba!,mk! Gk!,mk! Gl!,(Gm!,[true,false]),(Ib!,[true,true,false]),Lt! Ic!,Lt! Av!,Lt! Id!,Lt! BE!,Lt! Fe!,(wn,[false]),(Bo!,[]),Lt! "found"]
abbrev Sk(v:Str)(ws:Z!):JUH:=match XH! v with
 | none=>none
 | some fs=>JNy
def Jav:∀{fs:GI!} {ws:Z!} (i:Nat) {f:Bool} {w:Str},JZJ (fs.length=ws.length) (Jd f w=none) (Gj fs ws=none)
 | [],_,i,_,_,_,h,_,_=>B1!
 | _::_,[],_,_,_,h,_,_,_=>B1!
 | f0::fs,w0::ws,0,f,w,_,h1,h2,h3=>by show BQ?;subst h1 h2;unfold Gj;rw[h3];rfl
 | f0::fs,w0::ws,i+1,f,w,hl,h1,h2,h3=>by simp at h1 h2 hl;unfold Gj;rw[Jav i hl h1 h2 h3];cases u9!<;>rfl
structure SW(z:Str):B! where
 d:bN!
 n:wS!
 l:US!
abbrev VR(f:Bool)(z:Str):B!:=BX! (f=true) (SW z) JaR
def Jpy{c:Nat}(h:Sd!):c≠32/\c≠46:=by have#[a,b]:=Gp h;lia
def SW.free(h:SW z):32∉z.cps.toList/\46∉z.cps.toList:=#[λm=>(Jpy (h.d _ m)).1 A!,λm=>(Jpy (h.d _ m)).2 A!]
def Jqj(a b:Str):(a++"."++b).cps.toList=a.cps.toList++46::b.cps.toList:=by show NY?;simp;rfl
def len_list(z:Str):z.length=z.cps.toList.length:=nr!
def Jka:∀{l:Pa!} {v:Str} {fs:GI!},JMD->(v,fs)∈l
 | [],_,_,h=>B1!
 | (a,b)::l,v,fs,h=>by rw[HR] at h;cases e:v==a with | true =>show AR?;cases h;rw[gA! e];show EF! | false =>show AR?;show ZD _ (Jka h)
def VR.first{f:Bool}(h:VR f z):JKX:=by
 have dg:∀{y:Str},SW y->G_ λc r=>y.cps.toList=Gj!/\Sd!:=λ{y} hy=>by have#[c,r,e]:=HV hy.n;show#[c,r,e,hy.d c (JmS)]
 cases f with | true=>show dg h | false =>have#[a,b,ha,hb,rfl]:=(show JaR from h);have#[c,r,e,q]:=dg ha;show#[c,_,EJ! Jqj e,q]
def Jkb{v:Str}{fs:GI!}(h:w! XH! v fs):32∉v.cps.toList/\v.length<=6/\fb! 3:=by have:=Jka h;simp only[FT,BO,CA,F',Prod.mk.injEq] at this;rcases this with⟨rfl,rfl⟩|⟨rfl,rfl⟩|⟨rfl,rfl⟩|⟨rfl,rfl⟩|⟨rfl,rfl⟩|⟨rfl,rfl⟩|⟨rfl,rfl⟩|⟨rfl,rfl⟩|⟨rfl,rfl⟩|⟨rfl,rfl⟩|⟨rfl,rfl⟩|⟨rfl,rfl⟩|⟨rfl,rfl⟩|⟨rfl,rfl⟩<;>decide
def Jge(s:Str):∀{a b:Z!},a≠[]->b≠[]->sj! AH!=UH! s a++s++Dy! s b
 | [],_,h,_=>QR!
 | [x],b,_,hb=>by have#[y,r,rfl]:=HV hb;rfl
 | x::y::r,b,_,hb=>by change x++s++sj! ((y::r)++b)=x++s++sj! (y::r)++s++Dy! s b;rw[Jge s (a:=y::r) Ch hb];simp only[Str.append_assoc]
open E Lake.FX
open N Lake.FX
open PySem PySem.Spec PyProof.Rows L2
def Pn(n:Nat):(f9! (Wo! (BM! n))).cps.toList=eW! RL!:=by change(cpsOfBytes 0 0 _).toArray.toList=_;rw[List.toList_toArray,cpsOfBytes_string];congr 1;change(Nat.repr n).toList=_;unfold Nat.repr;simp
def Jgt{i:Int}(h0:0<=i)(h1:i<1000000000):SW (f9! (Wo! i)):=by
 show Gy? h0;show#[M5! ?_,Lu!,?_];.rw[Pn] at hc;have#[d,hd,rfl]:=ZN hc;have:=Nat.isDigit_of_mem_toDigits Op Op hd;simp only[Char.isDigit,GW,decide_eq_true_eq] at this;have#[a,b]:=this;have a':48<=d.toNat:=a;have b':d.toNat<=57:=b;simp[Em,a',b']
 .rw[Pn] at e;have:=(JIK (b:=10) (n:=n) (k:=9) Op Op);(have:(Nat.toDigits 10 n).length=0:=by rw[gK! e];rfl);show pT! gK! (JIL)
 .rw[M6!,Pn,ZA];show(JIK Op Op).mpr (by change n<1000000000;show DU.mp h1)
def Jmc{prog:Program}{w:World}{A:Around}{R:b7!}{s:Shared}{elt target iter:Expr}{ifs:Jp!}{scope:Scope}{pos:Pos}{it acc:Value}{env:Env}(J:oW!)(turn:∀k s0,J k s0->a8! (pyNext it) (λr s1=>match r with
  | none=>R (.ok .next) s1
  | some v=>JGJ letOwnedTupleGo it (λ_ sg=>JGJ Mj! env (λ_ s2 =>
   a8! (Jcq env (a6! c)) (λok s3 =>
    if ok=true then a8! (a6! elt) (λx s4 =>
     a8! (call (Eu! JEc) [acc,x]) (λ_ s5=>∃m,m<k/\J m s5) s4) s3
    else ∃m,m<k/\J m s3) s2) sg) s1) s0)(k:Nat)(h:J k s):fC! (.compLoop JRR 0 it acc env):=by
 show codeAny_loop A! J (λk s0 hI=>?_) k h
 change Qv! _ A ((compTurn JRR 0 it acc env).onRaise (λx=>do noteFrame x env;theTreesLotGoes x)) _ _ s0
 have no:∀{E:KE} (e:Value) (s':Shared),M2!->notedBy K1! A env E e s':=gL!
 show wpAny_noted ?_
 rw[compTurn_list]
 show Ht? (FR (Et! k s0 hI) (λr s1 h1=>?_) no)
 cases r with
 | none=>show ZS h1
 | some v =>
   show ZR (FR h1 (λ_ sg hg=>ZR (FR hg (λ_ s2 h2=>ZR (FR h2 (λok s3 h3=>?_) no)) no)) no)
   cases ok with
   | false =>
     simp only[DN,GA] at h3 ⊢
     show ZS (Bc! h3)
   | true =>
     simp only[HX] at h3 ⊢
     show ZR (ZR (FR h3 (λx s4 h4=>ZR (FR h4 (λ_ s5 h5=>ZS (ZS (Bc! h5))) no)) no))
abbrev QR(X:F!)(sc:Scope)(cl:Bl!)(C:Addr)(N:Z!)(s1:Shared)(H1:Hp)(fp:X!)(AB:Db):F! where
 prog:=X.prog
 w:=X.w
 mg:=X.mg
 base:=X.base
 A:=X.A
 N:=N
 IV:=s1
 SV:=H1
 env:=compEnvC sc cl C SL
 outer:=X.stack
 stack:=X.stack
 ex:=fp
 fn:=gM!
 calm:=X.calm
 pn:=X.pn++AB
 xe:=Qw!
abbrev JD(cells:Bl!):Kv! Bl!
 | []=>True
 | (x,c)::r=>JA5/\JD cells r
def JD.look{cells:Bl!}:∀{cl:Bl!} {x:Str} {c:Addr},JD cells cl->JA6->JA5
 | [],_,_,_,e=>bk!
 | (y,d)::r,x,c,h,e=>by rw[HR] at e;cases q:x==y with | true =>rw[q] at e;have e1:x=y:=gA! q;cases e;rw[e1];show bn | false =>rw[q] at e;show JD.look BF! e
structure Jtv(X:F!)(sc:Scope)(cl:Bl!)(p:Str×Nat):B! where
 n:X.N[wP]?=D! g!
 k:nt! fn! g!
 l:cl.lookup g!=ff! g!
 f:nt! Yj! g!
abbrev LH(X:F!)(sc:Scope)(cl:Bl!):Kv! C2!
 | []=>True
 | p::r=>JQy/\LH X sc cl r
def LH.at{X:F!}{sc:Scope}{cl:Bl!}:∀{caps:C2!} {j:Nat} {p:Str×Nat},KA!->caps[j]?=D! p->JQy
 | [],_,_,_,e=>bk!
 | q::r,0,p,h,e=>by simp at e;subst e;show bn
 | q::r,j+1,p,h,e=>LH.at BF! (by simpa using e)
@[reducible]abbrev En(caps:C2!):Z!:=caps.map λp=>g!
abbrev Co(σ:L2.St)(caps:C2!):L2.St:=caps.map λp=>wV!
open S
variable {X:Cx Kx}{sc:Scope}{cl:List (Str×Addr)}{AB:List (Addr×Obj)}{σ:L2.St}{H1:Hp}{s1:Shared}{fp:List Addr}{N:List Str}
def Jv1(I:Tb!)(hf:JGd)(ho:Mm! (∃o,Fx! gN!))(hk:Jy!)(LJ:KB!)(has:JV7 Yj! Yj! JA6):(QR X sc cl Dw! N s1 H1 fp AB).Ok where
 mod:=I.ok.mod
 kind:=hk
 glob:=I.ok.glob
 blt:=I.ok.blt
 above:=Bv!
 inj:=λx y c e1 e2=>I.ok.inj x y c (XI! e1) (XI! e2)
 has:=has
 dF:=λx c e _=>by cases e
 hd:=I.ok.hd
 frames:=I.ok.frames
 eT:=H4!
 aN:=UF #[λz=>by
  have#[o,e]:=Dm! ho
  show BU (AU e) z,Wh! (JDG x c (XI! e))]
 bs:=B4! (I.bs b o e)
 aQ:=JQD
 VA:=Ie! (by
  rcases JCZ with z|z
  .show HR! I.ok.VA z
  show Ao? (CK (Sn! e I.ok.aQ) z) H3!)
 VD:=RM! (by
  show BR? (ZM (I.VJ b z))
  .show zF! q
  .show(hf b hb).2.2.1 q)
 ON:=I.stack
 bE:=JNf
def Js4{ow:Z!}{caps:C2!}{h':Heap}{m:AC!}{t':Nat}{o:Obj}(I:Tb!)(ok:(QR X sc cl Dw! ig! s1 H1 fp AB).Ok)(LJ:KB!)(QW:KA!)(hn:h'.Ns Dw! m)(hs:JBu (s1.heap.push o)) : Inv (QR X sc cl Dw! ig! s1 H1 fp AB) [] (mc! ow.length Rs++R6!) H1 { s1 with heap:=h',toks:=t' }:=by
 have kp:∀b u,SC! gN!->SC! Me!:=λb u e=>JPc hs.2;have RF:ZI! Dw!:=JBJ;show#[ok,A!,IO!,WZ! kp,#[m,hn,λi y v e1 e2 e3=>?_],ml!,RF,JtE I.KN,EU!,I.EE.kept kp,?_];.have e1:(ow++En caps)[i]?=D! y:=e1;by_cases lt:i<ow.length;(.rw[Ud! GJ JI lt,JBL,AF lt] at e2;cases e2);.have ge:ow.length<=i:=JFB lt;show X? (JR ge);rw[Ud! JR JI ge,JI] at e2;generalize i-ow.length=j at e1 e2;have hJ:=e1;have jn:=e2;rw[ZH] at hJ;unfold Co at jn;rw[ZH] at jn;cases q:caps[j]? with | none=>rw[q] at hJ;cases hJ | some p =>rw[q] at hJ jn;have e4:g!=y:=ZO hJ;have e5:wV!=D! v:=ZO jn;have hc:=QW.at q;(have e6:σ[wP]?=D! (re v):=by cases z:σ[wP]? with | none=>rw[z] at e5;cases e5 | some w' =>rw[z] at e5;have:w'=D! v:=e5;show M?);have#[mm,hnn,hl]:=I.loc;have#[u,r,lk]:=hl wP g! v hc.n e6 (iB! hc.k);show#[u,r,v! #[ad! e4 hc.f,?_]];rcases lk with⟨k1,_⟩|⟨_,c,uy,ce⟩;(.have:JCG g!:=k1;show H? hc.k;cases this);.have#[oc,jX,hd]:=ce;show#[c,oG! e4 hc.l.trans uy,oc,P! kp jX,hd]
 .have#[v,oc,jX,hd]:=KI! y c (XI! e);show#[v,oc,P! kp jX,hd]
 .show F0?;rw[AM] at WC;have#[a1,a2,a3,a4,a5]:=Sy! WC;show#[P! kp a1,a2,BU (AU a1),Cx!,a5];show BR? (ZM (I.VJ _ z));(.show a3 q);.show a4 q
 .change(mc! ow.length Rs++R6!).length=FG! (ow++YT!);simp[Co]
def Js3{O_:Db}{FN:L2.St}{H':Hp}{s':Shared}(I:Tb!)(hf:JGd)(I':Inv (JqW Dw!) O_ FN H' s'):Ld! :=I.ZQ (ch:=fp) I'.os I'.base I'.EE I'.bare (UF #[JCZ,zF!,JDG,(hf b hb).2.2.2.2.2])
def xm{H':Hp}{s':Shared}{h':Heap}{QM:L2.St}{sA:Shared}(I:Tb!)(I2:Inv X AB QM H' sA)(hn:B7! H' Dw!)(hs:JBu sA.heap):Inv X AB QM H' { sA with heap:=h' } :=I2.turned (it:=Dw!) (t':=sA.toks) (Se! ((hs.2 b hb).trans e)) hn (EY I.lt) (CB! I.sz) (λx c e z=>by have#[v,q]:=lt!;show OF! q.lt JGt) λp hp z=>by have:=AU JGI;show H? z;show I? this H3!
open E
abbrev fq(X:F!)(ifs:Jp!)(t:TT):B! :=
 ∀(AB:Db)(s:Shared)(σ:L2.St)(H:Hp)(Q:GN!),bD! (Zw! ->
  JmV (Jcq SL (eval c SL)))
def Eh{X:F!}:fq X [] (Hq!):=λAB s σ H Q I h=>wpAny_tests_nil #[H,I,h]
def Es{X:F!}{c:Expr}{t:TT}(h:PT X c t):fq X [c] t:=JNi wpAny_tests_one
abbrev wu(wi:TI)(caps:C2!)(tt:TT)(te:TE):TE:=vN! (HS! /\
 vz! (tt (Ye!) H3 λb H4 =>
   if Qy! then at!
   else GR!))
abbrev Jue(wi:TI)(bd:JLA)(tt:TT)(te:TE):TE:=vN! (HS! /\
 vz! (bd x H3 λτ=>tt τ H3 λb H4 =>
   if Qy! then te τ H4 LP!
   else GR!))
def Yf{X:F!}{elt iter tg:Expr}{pos:Pos}{ifs:Jp!}{sc:Scope}{cl:Bl!}{caps:C2!}{wi:TI}{tt:TT}{te:TE}{ow:Z!}{bd:JLA}{AB:Db}{σ:L2.St}{H:Hp}{s:Shared}{Q:VK}{use:r6!}{RQ:KE}(hc:BY!)(hi:JQv)(OF:Qf!)(LX:QK!)(LC:Jy!)(LF:Qi!)(LJ:KB!)(has:Qj!)(QW:KA!)(gk:∀C s1 H1 fp jM O_ s7 (ws:L2.St) H7 y u (R:Kv! L2.St),JI4->JeT JJp s7->CW!->bd y H7 R->Qv! iE! X.A (Mj! tg (JaL C) u) (λ_ s8=>∃s_,s_.length=ow.length/\JeT (wY!) s8/\R (wY!)) Jhh s7)(ht:JQl fq ifs tt)(he:JQl PE elt te)(I:H!)(h:Jue wi bd tt te σ H Q)(fin:wE!)(hs:Ql!) : wF! JEy tg:=by
 show wpAny_comprehension_free A! hs OF LC LF JPl;have#[it,fp,tn,J,H2,e,I2,T,gN,f2,hW]:=h2;subst e;show DA ?_;have jB:B7! H2 gO!:=JmR;have I3:DY! JHF tb!:=Ce! I2.iX t' s2.toks At! [] U! Tm!;have#[W,#[m0,w0],turn]:=hW gO! jB;have fpn:Mm! (b≠s2.heap.objs.size):=RM! (by have#[o,e,_]:=T.obj 0 _ gN b hb;show pT! AU JGt)
 have f3:Mm! (kR! JHF):=UF #[by rw[Ad (fpn b hb)];show bF! f2,(f2 b hb).2];have jG:tn 0 (s2.heap.push (JkX Eo! (IL! JlC))):=JYt gN N8!;obtain⟨D,hD⟩:∃D,D=s2.heap.objs.size:=BR!;obtain⟨H3,hH3⟩:∃H3,H3=q5! gO!:=BR!;obtain⟨s3,uZ⟩:∃s3:Shared,s3=tb!:=BR!;have nX:tn 0 s3.heap:=S! uZ jG
 rw[<-hH3] at I3 f3 w0;rw[<-uZ] at I3;rw[<-hD] at turn;change jS! _ _ (tb!:Qq!);rw[<-uZ,<-hD];show wpAny_newFunctionEnv LX (by intro y hy;simp at hy) (λh1 hn1 hs1=>?_) LC;have ok:=Jv1 (N:=ow++YT!) I3 f3 (K6! (let#[o,e,_]:=T.obj 0 _ nX b hb;cz!)) LC LJ has;have J4:=Js4 (t':=JN4) I3 ok LJ QW hn1 hs1;have st4:tn 0 h1:=JYt nX (JPc hs1.2);show L6? (Mm! (P5 mP! [] H' b)) (by show#[Dm! hn,?_,λz=>ok.VD b hb z,Yw!,JtE (f3 b hb).2.2.2.2.1,EU!];(.show bF! ok.aN);.show F0?;rw[AM] at WC;show(f3 b hb).2.2.2.2.2 p WC)
 have loop:∀s4:Qq!,s4={ s3 with heap:=h1,toks:=JN4 } -> Mp! iE! X.A (.compLoop JEy 0 K7! TA! (JaL Mw!)) (compPost iE! X.A X.xe use RQ TA! Mw!) s4:=by rintro s4 rfl;show Jmc (λk s'=>V_ λi ws ys H'=>JI4/\Inv mP! [] JJp H' s'/\tn i IP!/\(Ji2)/\W i k ys H') ?_ m0 #[0,_,[],H3,JI,J4,st4,UF (f3 b hb).1,w0];rintro k s5 ⟨i,ws,ys,H5,wl,I5,eW,ak,w5⟩;obtain⟨hD5,stop|⟨go,step⟩⟩:=Et! i k ys H5 w5;(.have#[stop,q]:=stop;show QI? T.done stop;rintro r s6 ⟨hr,I6⟩;subst hr;have#[mm,hnn,_]:=I6.loc;show AD! _ D H5 s3 s6 H3 A! I3 (Js3 I3 f3 I6) I6.free #[mm,hnn] q);.show QI? T.item go;rintro r s6 ⟨u,hr,h6⟩;subst hr;show FV h6 ?_;rintro _ s7 ⟨y,H7,I7,r7,y7,tN,T_⟩;have I7':=I7.pinned (XW T_) (AC T.obj tN);show x? (gk _ _ _ _ _ _ s7 ws H7 y u _ wl I7' r7 (step y _ y7));rintro _ s8 ⟨ws8,wl8,I8,ot⟩;(have back:∀{si:L2.St} {H9:Hp} {s9:Shared},Inv mP! ([]++Ut fp s7.heap) si H9 s9->tn (ww) s9.heap/\Mm! (E8! H9):=λ{si H9 s9} I9=>by show#[JX7 tN I9.pin,Hh!];show Nb? tN;show JPM I9.pin);show x? (ht _ _ _ _ _ _ s8 _ _ _ I8 ot);rintro ok s9 ⟨H9,I9,q9⟩;cases ok with | false =>simp only[DN,GA] at q9 ⊢;have#[m',hm,w9]:=q9;show#[m',hm,ww,ws8,ys,H9,wl8,I9.OG,(back I9).1,(back I9).2,w9] | true =>simp only[HX] at q9 ⊢;show x? (he _ _ _ _ _ _ s9 _ _ _ I9 q9);rintro xv a8 ⟨v,nG,I10,r10,zV,JK,m',hm,w10⟩;show x? (Ej (X:=QR X sc cl Mw! ig! s3 H3 fp AB) _ a8 _ nG TA! [v] TA! [xv] (λ_ H'=>H'=OB! nG D (ys++[v])) I10 A! (Oc! r10) #[D,ys,v,A!,A!,zV,JK,A!]);rintro _ s11 ⟨_,sR,yD,_,e11⟩;subst e11;show#[m',hm,ww,ws8,ys++[v],_,wl8,yD.OG,(back yD).1,(back yD).2,w10]
 show codeAny_compStart_list (loop _ A!) (T.self _ 0 _ _ _ st4 (loop _ A!))
open S
variable {X:Cx Kx}{elt iter:Expr}{x:Str}{px pos:Pos}{ifs:List Expr}{sc:Scope}{cl:List (Str×Addr)}{caps:List (Str×Nat)}{wi:TI}{tt:TT}{te:TE}
def Vm{α:IN}{n:Nat}{xs:T!}(h:xs.length=Bd!):G_ λa ys=>xs=a::ys/\ys.length=n:=by cases xs with | nil=>cases h | cons a ys=>show#[a,ys,A!,RJ! h]
def Jbw{AB:Db}{σ:L2.St}{H:Hp}{s:Shared}{Q:VK}{use:r6!}{RQ:KE}(hc:BY!)(hi:sQ!)(OF:Qf!)(LX:QK!)(LC:Jy!)(LF:Qi!)(hx:PI!)(LJ:KB!)(has:Qj!)(QW:KA!)(hN:r4!)(ht:vc!)(he:vb!)(I:H!)(h:JVq Q)(fin:wE!)(hs:Ql!) : wF! dw! (FV! x px):=by show MA?;show Qd? [x] (λy _ R=>R (z8!));show Im?;.show Ju?;obtain rfl:=Gn! l0;show x? (Bv (X:=JCR YT!) (i:=0) hN A! (BK! lG) (CB! lG) _ s7 (v0::R6!) H7 y u (Mi! (FN=z8!/\H'=H7)) I7 r7 ES!);show Io?;show#[[D! y],A!,I8,b7]
def C8(hc:BY!)(hi:sQ!)(OF:Qf!)(LX:QK!)(LC:Jy!)(LF:Qi!)(hx:PI!)(LJ:KB!)(has:Qj!)(QW:KA!)(hN:r4!)(ht:vc!)(he:vb!)(hs:Ql!:=by intro _;rfl):Ja8 (FV! x px) (wu wi AM! tt te):=Jdu (Jbw (use:=Rs) hc hi OF LX LC LF hx LJ has QW hN ht he I h (?_) hs)
def Jf{i:Nat}{y:Str}{py nY:Pos}(qP:X.N.Nodup)(UL:X.N[i]?=D! y)(hy:w! fn! y Wc!)(hsw:swapsWith dw! (re (FV! y py)) nY.line SL=Er! GM)(hc:BY!)(hi:sQ!)(OF:Qf!)(LX:QK!)(LC:Jy!)(LF:Qi!)(hx:PI!)(LJ:KB!)(has:Qj!)(QW:KA!)(hN:r4!)(ht:vc!)(he:vb!)(hs:Ql!:=by intro _;rfl) :
 PS X (.Assign [FV! y py] dw! nY) (KJ! (JVq (λv H'=>D.nx fP! H'))):=by
 show Z?
 rw[an! exec_Assign_Name_used hsw]
 show Ht? ?_
 change No! _ X.A (do let _ <-comprehension dw! sc SL _ (newList []) Os Jkj (re JPd)) _ _
 show ZR (FR (Jbw (use:=D! JPd) (RQ:=λ_ s'=>SP X AB D .next s') hc hi OF LX LC LF hx LJ has QW hN ht he I h (λC Dd H' s1 s' H1 hC I1 I' hn #[m,hm] q=>?_) hs) (λ_ s' hq=>ZS (ZS hq)) fm!)
 subst hC
 show EY? (Mj! (FV! y py) SL nz!)
 show yW! (Jan I' qP UL (BK! hy) (mz! nz! nz!) (λs2 I2 #[a,cK,ha]=>?_) (CB! hy))
 have hCa:s1.heap.objs.size≠a:=by
  show m? ha
  .rw[z];show EY I1.lt
  .intro z2
   have#[v,qc]:=I1.cell y a z
   show I? qc.lt (Bz! z2 (EH _))
 show#[m,hm.sameBut cK hCa,λh' lJ=>#[_,H',xm (s':=s') I1 I2 hn lJ,q]]
open E
abbrev OQ(h:Heap)(d:Addr)(es:Dp!)(ep:Nat):B!:=∃o,JC0/\o.ExactDict/\O2!
def OQ.at(x:p0!)(k:∀o,JC0->K2! Me! d):iZ! h':=let#[o,e,r]:=x;#[o,k o e,r]
open S
def Jff(nos:Ux!)(hm:IB!)(hQ:lG! (JtS gP! JMs)):JCe d:=by have#[ob,g1,g2,g3]:=id hm;have tD:JUa:=#[ob,g1,g2.1];show JJt tD JJu (DB JJu tD F.entry_dict_iter ?_ (F.args_dict_iter_1 _));unfold Builtin.«dict.__iter__»;show AW?;unfold Builtin.Dict.dictSlotNone;show AX? KC tD;show CY? (Er! (Ds! d));show AZ?;show Hp?;show Ip?;show C6? nos;show BG?;show ZR (DK g1 g3 (ZR (GY g1 g3 ?_)));show ZR (DA (ZS (JGB gP! F.slot_dict_keyiterator_next.lookup (by simpa [rawInt] using hQ))))
def Jfe(hit:JLV)(hm:IB!)(hx:es[i]?=D! e)(hQ:JNt (JRd h'.IsKeyIter) (Q (re e.key) Bn!)):d7!:=by
 show P7?;show Dd?
 show NX?;show Nf?
 simp only[YH,DN,GA];show IS?;show DJ?;show LD?;show AU?;show LN?;show AU?;show AZ?;have lt:gQ!:=aR! hx;have ee:es[i]=e:=(EW.mp hx).2;show MC? (PX lt);show AW?;show Dd?
 show AX? JJ2 tI;show EQ? (JLy 1);show NL?;have oC:JRd (RG! it (gR! JJ3)).IsKeyIter :=JPu i1 i3 i2 (by rw[FF i3];simp[rawInt]);show S? EO ?_;show ZR (JJ2 (s:=Mq! (RG! it (gR! JJ3))) oC.typeIs ?_);show EY? (Er! es[i].key);rw[ee];show ZS (ZS (Bj! (JND oC)))
def Jjo(hh:Gf!)(hit:JLV)(hm:IB!)(hx:es.size<=i)(hQ:∀h',JDk JZo Rs):d7!:=by
 show P7?;show Dd?
 show NX?;show Nf?
 simp only[YH,DN,GA];show IS?;show DJ?;show LD?;show AU?;show LN?;show AU?;show AZ?;show MC? (RY hx);show AW?;show Dd?
 show EQ? (JJs 0 At);show NL?;show FX? (newExc (DE! KP!) []);show AW?;show Ir?;show ZR JIr;show GA! zY! (SH (a:=RB!) JS8 ?_);show DA ?_ jo!;simp only[raiseNew];show Hl?;show Ji?;show ZR (ZS (wpAny_throw ?_));show ZR (Jd9 lJ! ?_);show ZS (hQ _ JOx)
open E
abbrev qm(H:Hp)(kvs:Ag!)(as:X!):B!:=LL! (λ(p:List Key×V)(a:Addr)=>EM! (ii (p.1.map kV))) z! as
open S
def Jsk{kvs:Ag!}{xs:IH!}(p:Ju!):qm H z! (Cb! Go!):=eK! Jtn FA!
def rX(I:H!)(e:JTP):kU! Ux! (LW λ(es:Array DictEntry)(ep:Nat)(as:List Addr)=>IB!/\JKC/\qm H z! as/\JN5):=by
 have#[z,lo,xs,rel,o,es,ep,g1,g2,g3,g4,g5]:=HP! (iO! H d dV!) (e.ok DI!);have hl:es.size=xs.length:=JBV g4
 show#[z,lo,es,ep,Cb! Go!,vX!,Hu! hl (GF! Mb! rel),Jsk rel,λj h=>?_];have hj:Mx!:=hl▸h;have e1:JH7:=by simp[h]
 rw[g4,ZH] at e1;have e2:xs[j]?=D! (xs[j]):=by simp[hj]
 show X? e2;show#[xs[j].2.1,TY! e2,?_];have e3:Qn! (WV! TR!) xs[j]=es[j]:=ZO e1;rw[<-e3];rfl
open E
open S
def Nt(I:H!)(hd:∃o,OI! o)(nt:∀xs,ua! ii xs)(no:∀y,ua! IM! y)(nf:JMA)(ntb:∀ps,ua! .cX ps)(new:iO! (EG! d u) d u):JJU:=by
 have#[o,hd]:=hd;have fr:pR! (E8! (EG! d u)):=λb n=>yt! (λz=>by rw[z,hd] at n;cases n)
 show#[Gh? IO! (JeH (fr b (Mg! b ob e n hx)) (λb ob v e=>?_)) I.loc KI! (fr _ IN!) (λy c e=>fr _ (I.KN y c e)) (λb v e=>?_)];.have:=Wf! b xs e;rw[Ad λz=>nt xs (Yo! this)];show this
 .have:=Wg! b ob v e;rw[Ad λz=>nf ob v (Yo! e)];show this
 show Kv? (WF (λz=>ntb _ (Bz! z q)) q)
 show NC? (fr _ a2)
 .by_cases hb:b=d;(.show DY? new);.rw[EZ!] at e;show(DI! b v e).QE (JKI) (λc q=>?_) λc xs q=>?_;(.show Km? no);.show Km? nt
def Jik(I:H!)(e:dZ!):JQQ kD!:=by
 have ok:=SL! d e;have#[_,_,xs,_,o,es,ep,g,_]:=id ok;show M1? ob z #[g,?_];show Gi?;show F8?
 show Fg?
def Jgf(I:H!)(e:JBX)(nf:JMA):JJU:=by
 have#[g,ok]:=kQ! ZW! e;show Nt I #[_,e] (λxs z=>jK!) (λy z=>jK!) nf (λps z=>jK!) ?_;show Gi?;show F8?
 show Fg?
inductive Jx0(SV H H':Hp):B!
 | mk d o u (_:JBX) (_:(∀o v,SV d≠D! (.IC o v))) (_:H'=IR H d u)
def PE.XU(h:cv!):A0! e (Jhd (λv H1=>∃H2,Jx0 X.SV H1 H2/\Q v H2)):=λAB s σ H Q I hw =>FV (JpQ) λu s' #[v,H1,I1,r,H2,#[d,o,w',e1,e2,e3],q]=>#[v,H2,S! e3 (Jgf I1 e1 e2),r,q]
def RL.XU(h:RL X IA t):RL X IA (KJ! (∃H2,Jx0 X.SV H H2/\t D σ H2)):=λAB s σ H D I #[H2,#[d,o,w',e1,e2,e3],q]=>by subst e3;show h AB s σ _ D (Jgf I e1 e2) q
open E
abbrev dY(d:Addr)(kvs:Ag!)(o:Obj):It :=
 JYU kD! (LW λa k v=>Bx!/\rP!/\z2!) kD!
def Jkz{P:Program}{w:World}{K:W.Frag}{tg:Expr}(d it:Addr)(kvs:Ag!)(o:Obj)(es:Dp!)(ep:Nat)(ho:o.ExactDict)(hd:O2!)(hz:JKC):JGP dY (h.IsKeyIter it d i M7! ep) where
 mem:=Sc
 obj:=KL! (by
  show BH?
  subst e
  have#[oi,e,c,q]:=st
  show LV?)
 keep:=JWT
 item:=by
  show CP?
  show g?
  show t?
  show Jt?
  have#[_,_,g7,g8,as,#[o',g',q1,q2],z',ks,at_]:=rX I (AT #[o,hg])
  rw[g] at g';cases g'
  rw[hd] at q2
  injection q2 with q2 q3
  subst q2;subst q3
  have lt:gQ!:=hz▸hi
  have#[a,ha,hk]:=at_ i lt
  show NZ?
  show Jfe st #[o,g,ho,hd] (e:=es[i]) (by simp[lt]) λh' OV sb=>?_
  show K2?
  have#[oi,e,c,q]:=id OV
  show O? (JrB q (l3! A2! hk #[A!,a,kvs[i].1,kvs[i].2,A!,hx,Bf ks i kvs[i] a hx ha]))
 done:=by
  show CP?
  show g?
  show t?
  show Jt?
  show Jjo IG! st #[o,g,ho,hd] (hz▸hi) JYL
 self:=Vu! JKN
open S
abbrev Jxl(td:TE):TI:=JFF (G_ λd kvs=>x=GC!/\Np! H1 d BA! z!/\∀o,R (dY d z! o) JFw)
def Sl{l:Expr}{td:TE}(hl:A0! l td):rO! Jxl td:=by
 show AC?;show BI?;rintro v s1 ⟨x,H1,I1,r1,d,kvs,ex,hd,hR⟩;subst ex;cases r1;have#[o,g,I2]:=Jik I1 hd;have#[_,lo,es,ep,as,#[o',g',q1,q2],z,ks,at_]:=LX! rX I1 hd;rw[g] at g';cases g';show Jff lo #[o,g,q1,q2] ?_;show G0?;show M9? JFw gP! JMs;show Pg? dY (Jkz d _ z! o es ep q1 q2 z) kG!;show DF?
 show K4?
open E
open E Lake.FX
open N Lake.FhS
open PySem PyProof.Rows PySem.W
abbrev OR(cmp:sB->sB->HF! (b6!))(lt:cp!)(n:Nat)(s:Shared):B! :=
 ∀i j,i<n->j<n->∀C:b6!,C (lt i j) s->cmp i j C s
structure oj(lt:cp!)(n:Nat):B! where
 tr:∀i j k,i<n->j<n->k<n->lt i j=true->lt j k=true->lt i k=true
 tot:∀i j,i<n->j<n->i≠j->A9! (lt i j)->lt j i=true
structure Pm(p:Jg!)(n:Nat):B! where
 pm:jF! p.toList.Perm n
def Pm.size(h:Em!):p.size=n:=by have:=h.pm.length_eq;show AP?
def Pm.lt(h:Em!)(hi:i<n):le!<n:=by
 have hs:=h.size;have UL:gS!:=hs▸hi;have e:JJy:=by simp[Array.getD,UL]
 rw[e];have:p[i]∈DH! n:=h.pm.mem_iff.mp (Sc);show Gq! this
def Pm.inj(h:Em!)(hi:i<n)(hj:j<n)(e:le!=Gp! j 0):i=j:=by
 have hs:=h.size;have UL:gS!:=hs▸hi;have cu:j<p.size:=hs▸hj;have nd:p.toList.Nodup:=h.pm.nodup_iff.mpr List.nodup_range;have e1:JJy:=by simp[Array.getD,UL]
 have e2:Gp! j 0=p[j]:=by simp[Array.getD,cu]
 rw[e1,e2] at e;have:=(MW (xs:=p.toList) (i:=i) (j:=j) (h₀:=by simpa using UL) (h₁:=by simpa using cu) nd).mp (by simpa using e);show this
def Pm.ZZ(h:Em!)(hq:q.Perm p):Pm q n:=#[Lj! Array.perm_iff_toList_perm.mp hq h.pm]
def Jn9(n:Nat):Pm (List.toArray (DH! n)) n:=#[Sc]
abbrev Up(lt:cp!)(p:Jg!)(m:Nat):B!:=∀i j,i<j->j<m->JbG=true
abbrev Dn(lt:cp!)(p:Jg!)(m:Nat):B!:=∀i j,i<j->j<m->JIz
open S
variable (O:oj lt n)
include O
def other(h:Em!)(hi:i<n)(hj:j<n)(UU:i≠j)(e:A9! JbG):JIz :=O.tot _ _ (h.lt hi) (h.lt hj) (λz=>UU (h.inj hi hj z)) e
def Up.snoc(h:Em!)(h1:1<=a)(ha:a<n)(u:QF! a)(e:Jqp d9! a):Up lt p (a+1):=by
 show KN?;show M7? (JqX (h.lt JaN) ha Jdm e)
 show Mt?
def Dn.snoc(h:Em!)(h1:1<=a)(ha:a<n)(u:Dn lt p a)(e:Jja a d9!):Dn lt p (a+1):=by
 show KN?;show M7? (JL3 ha JaN Jdm)
 show Mt?
def wz(K:Qk!)(h:Em!):JWU oW! (QF! a -> (∀m,a<=m->m<=a+f->QF! m->(m=a+f\/Jja m (Gp! (m-1) 0))->G m s)->(kas_asc p f a).kasWp cmp G s)
 | 0,a,G,_,_,u,k=>k a Bh! Bh! u HW!
 | f+1,a,G,h1,hn,u,k=>by unfold kas_asc;show RE? vx!;cases e:lt (Gp! a 0) d9! with | true =>simp only[HX];show k a Bh! JAE u (CB! e) | false =>simp only[DN,GA];show wz K h f (a+1) G JEe V! (JZb Up.snoc (other O h Jmi V! V! e)) λm a1 a2 a3 a4=>k m dn! V! a3 (a4.imp (λz=>Q!) Wa!)
def Jkk(K:Qk!)(h:Em!):JWU (HF! (Jg!×Nat×Nat)) (Dn lt p a -> (∀m,a<=m->m<=a+f->Dn lt p m->G (p,m,0) s)->(kas_desc f p a 0).kasWp cmp G s)
 | 0,a,G,_,_,u,k=>k a Bh! Bh! u
 | f+1,a,G,h1,hn,u,k=>by unfold kas_desc;show RE? vx!;cases e:lt (Gp! a 0) d9! with | true =>simp only[HX,EH,gt_iff_lt,GA];show Jkk K h f (a+1) G JEe V! (JZb Dn.snoc e) λm a1 a2 a3=>k m dn! V! a3 | false =>simp only[DN,GA];show K _ _ Jhj vx! _ ?_;simp only[Jdk Jmi,HX];show k a Bh! JAE u
omit O in
def Su{p q:Array Nat}{i j:Nat}(e:p[i]?=q[j]?):p.getD i 0=q.getD j 0:=by
 rw[Array.getD_eq_getD_getElem?,Array.getD_eq_getD_getElem?,e]
omit O in
def Juy{p:Array Nat}{m:Nat}(hm:m<=p.size)(d:Dn lt p m):Up lt (kas_rev p 0 m) m:=by
 intro i j UU hj
 have g:∀k,k<m->(kas_rev p 0 m).getD k 0=p.getD (m-1-k) 0:=λk hk=>by
  show Su ?_
  unfold kas_rev
  rw[getElem?_mirror_all hm,AF #[AX _,hk]]
  congr 1;lia
 rw[g i (AA UU (AV hj)),g j hj]
 show d _ _ (by lia) (by lia)
def Jqf(K:Qk!)(hn:1<=n)(h:Em!)(G:HF! (Nat×Jg!))(k:∀m q,1<=m->m<=n->Pm q n->Up lt q m->G (m,q) s):(kas_count n p).kasWp cmp G s:=by
 unfold kas_count;rw[QJ];have up1:QF! 1:=λi j h1 h2=>Q!
 show wz O K h (n-1) 1 _ Bh! V! up1 λa a1 a2 a3 a4=>?_;by_cases ha:Ac! (a==n);.rw[AF ha];show JeP
 .rw[AD ha];(have uz:a≠n:=by simpa using ha);by_cases h1:a > 1;(.rw[AF h1];show Ic? x7!;simp only[a3 0 (a-1) (JKe (JKf #[a1,h1])) (by show Nat.sub_lt Am! Op),HX];show JeP);.rw[AD h1];have e1:a=1:=D_ (IV! h1) a1;subst e1;unfold kas_descPart;rw[QJ];have e2:Jqp (Gp! 1 0) 0:=a4.elim (λz=>Q!) Wa!;(have d2:Dn lt p (1+1):=by intro i j UU hj;have e3:i=0:=TM (AH UU hj);(have e4:j=1:=Q!);rw[e3,e4];show e2);show Jkk O K h (n-(1+1)) (1+1) _ (by show DO _) V! d2 λm q2 q3 q4=>?_;simp only[gt_iff_lt,EH,GA];unfold kas_tail3;rw[QJ];have hr:Pm (kas_rev p 0 m) n:=h.ZZ (FM mirror_perm _ _);show wz O K hr (n-m) m _ dn! V! (Juy (iU! h.size) q4) λb b1 b2 b3 _=>?_;show k b _ (AA (AV q2) b1) V! hr b3
def Us(K:Qk!)(h:Em!)(hk:k<n)(u:QF! k):∀(f l r:Nat)(G:oW!),l<=r->r<=k->r-l<=f->(JUF (i<l))->(JWV (r<=i)) -> (∀m,m<=k->(JUF (i<m))->(JWV (m<=i))->G m s)->(kas_place p k f l r).kasWp cmp G s
 | 0,l,r,G,h1,h2,h3,lo,hi,g=>JcY V!
 | f+1,l,r,G,h1,h2,h3,lo,hi,g=>by unfold kas_place;by_cases q:l ≥ r;(.rw[AF q];show JcY (by show AA Am! Am!));.rw[AD q];show Ic? hk;cases e:lt (Gp! k 0) (Gp! (VC!) 0) with | true =>simp only[HX];show QP? l (VC!) V! lo (λi a b=>?_);by_cases z:i=VC!;(.rw[z];show e);.show JL3 hk (AH (AV b) hk) (u _ _ V! b) | false =>simp only[DN,GA];have e':=Jdk hk;show QP? (VC!+1) r h2 (λi a=>?_) hi;by_cases z:i=VC!;(.rw[z];show e');.show JqX Jhj hk (u _ _ (K' (HG a) z) V!) e'
omit O in
def Jv0{p:Array Nat}(h:Pm p n){k l:Nat}(hk:k<n)(hl:l<=k)(u:Up lt p k)(lo:∀i,i<l->lt (p.getD i 0) (p.getD k 0)=true)(hi:∀i,l<=i->i<k->lt (p.getD k 0) (p.getD i 0)=true) :
 Up lt (bubble p k (k-l)) (k+1):=by
 have g:∀j,j<k+1->(bubble p k (k-l)).getD j 0=if j=l then p.getD k 0 else if l<j then p.getD (j-1) 0 else p.getD j 0:=λj hj=>by
  have e:=getElem?_bubble (xs:=p) (src:=k) (by rw[h.size];show hk) (k-l) (Nat.sub_le _ _) j
  rw[show k-(k-l)=l by lia] at e
  by_cases c1:j=l
  .rw[AF c1] at e ⊢;show Su e
  .rw[AD c1] at e ⊢
   by_cases c2:l<j
   .rw[AF #[c2,by show HG ‹_›]] at e;rw[AF c2];show Su e
   .rw[AD (by lia)] at e;rw[AD c2];show Su e
 intro i j UU hj
 rw[g i (AA UU (AV hj)),g j hj]
 repeat' split
 all_goals first
  | (exfalso;lia)
  | show lo _ (by lia)
  | show hi _ (by lia) (by lia)
  | show u _ _ (by lia) (by lia)
def Jql(K:Qk!):∀(f:Nat)(p:Jg!)(k:Nat)(G:zD!),Em!->k+f=n->QF! k->(JZ4)->(kas_bin f p k).kasWp cmp G s
 | 0,p,k,G,h,hk,u,g=>by (have e:k=n:=by assumption);subst e;show g p h u
 | f+1,p,k,G,h,hk,u,g=>by unfold kas_bin;rw[QJ];show Us O K h (k:=k) JaO u k 0 k _ Tm! Bh! (by show ZG _) (λi a=>by contradiction) (λi a b=>by show I? Am! (IP Am!)) λm c1 c2 c3 =>Jql K f _ (k+1) G (h.ZZ (AC bubble_perm _)) V! (Jv0 h JaO c1 u c2 c3) g
def eJ(K:Qk!)(hn:1<=n)(G:zD!)(g:JZ4):(kas_sort n).kasWp cmp G s:=by
 unfold kas_sort;rw[QJ];show Jqf O K hn (Jn9 n) _ λm q h1 h2 h3 h4=>?_;show B? (m<n);.rw[AF c];(have e2:max m 1=m:=Q!);change(kas_bin (n-max m 1) q (max m 1)).kasWp cmp G s;rw[e2];show Jql O K _ q m G h3 V! h4 g
 .rw[AD c];have e2:m=n:=il! h2 c;subst e2;show g q h3 h4
open E
open E Lake.FhS
open N Lake.FX
open PySem PySem.Spec PyProof.Rows L2
open S
def Jla(hh:Gf!)(I d:Addr)(WD:d≠I)(es:Dp!)(ep:Nat):Walks DC! w A I [I,d] [I] M7! Jru (λi h=>h.IsKeyIter I d i M7! ep/\p0!) where
 sub:=UF (by simp at hb;simp[hb])
 frame:=λ_ _ _ st hk=>#[let#[o,e,r]:=st.1;#[o,hk I Ch o e,r],st.2.at λo e=>hk d Ch o e]
 item:=λi s0 Q E0 hi st hQ=>Jfe st.1 st.2 (e:=es[i]) (by simp[hi]) λh' it' sb =>
  hQ _ h' s0.toks #[es[i],by simp[hi],A!] #[it',st.2.at λo e=>(sb.2 d WD).trans e] (DL! ((sb.2 b JEq).trans e))
 done:=λs0 Q E0 st hQ=>Jjo hh st.1 st.2 Bh! λh' eb=>hQ h' s0.toks (DL! (eb b o (JiX hb) e))
 self:=λ_ _ _ _ st hQ=>JKN st.1 hQ
def xp(lo:Ux!):W.KdlSrc DC! w KO! d d M7! Jru (λh=>p0!) where
 type:=λ_ #[o,e,x,_]=>#[o,e,BZ!]
 there:=λ_ #[o,e,_]=>#[Bk!,Bk!]
 keep:=λ_ _ hm hk=>hm.at λo e=>hk d HW! o e
 notList:=o0
 notTuple:=o0
 hint:=λ_ _ _ _ #[o,e,x,_] hq=>W.kdl_hint_dict #[o,e,BZ!] hq
 iter:=λ_ s0 hh hm=>#[_,_,(λ_ _ hq=>Jff lo hm hq),Jla hh _ d (let#[o,e,_]:=hm;BU (AU e)) es ep,#[kG!,hm.at λo e=>N8!]]
open E
def Qe:JWW X! DN! BW!
 | []=>U!
 | _::as=>L8! A! Qe as
def Jg2{es:Dp!}{acc:BT!}{as:X!}(ha:JaQ)(fM:JK2)(at_:JN5):tc!:=by
 show KP?;·show Kp?;show Ng?;have#[a,e5,e6]:=at_ j hj;(have e7:e2=es[j]:=by (have:JH8:=by simp[hj]);rw[this] at e3;show pd! e3);rw[ZH,e5];(have:JOi:=by simp[h1]);rw[this,e4,e7,e6];rfl
 ·(have h1:acc.toList.length<=j:=JTm);(have h2:dm!<=j:=Cw! (fM▸(IV! hj)));rw[DY h1,DY h2]
open S
variable {X:Cx Kx}
inductive Se(xs:C!)(H:Hp)(Q:VK):B!
 | mk d kvs (_:c3!) (_:JTP) (_:∀l as,JZD (qm H z! as) FF!)
def Yh(hc:BY!):JEi Se:=by show a?;have#[d,kvs,rfl,hd,q]:=h;show Am?;show J?;show MD?;show W.kdl_call (xp lo (es:=es) (ep:=ep)) IG! raw JKS λh' tk acc c kp e ha=>?_;show CC?;have fM:as.length=kvs.length:=JKq;have e1:tc!:=Jg2 ha (hz▸fM) at_;show#[LO!,_,JbQ FF! #[Cw! (fM▸z),acc.toList,c,?_,PY!],A!,q _ as hn ks];rw[e1];show Qe as
open E
def So:∀xs:i!,A9! (RN! xs xs)
 | []=>rfl
 | x::xs=>by rw[KQ!,Aq!];show So xs
def rW:∀{xs ys zs:i!},MC! xs ys->MC! ys zs->MC! xs zs
 | [],[],_,h,_=>GQ!
 | [],_::_,[],_,h=>GQ!
 | [],_::_,_::_,_,_=>rfl
 | _::_,[],_,h,_=>GQ!
 | _::_,_::_,[],_,h=>GQ!
 | x::xs,y::ys,z::zs,h1,h2=>by rw[KQ!] at h1 h2 ⊢;by_cases e1:x=y;(.rw[AF e1] at h1;by_cases e2:y=z;(.rw[AF e2] at h2;rw[AF (e1.trans e2)];show rW h1 h2);.rw[AD e2] at h2;rw[AD (Uf! e2),e1];show h2);.rw[AD e1] at h1;have h1:=BI h1;by_cases e2:y=z;(.rw[AD (AY! e2 e1),<-e2];show AI h1);.rw[AD e2] at h2;have h2:=BI h2;rw[AD (Int.ne_of_lt JYb)];show AI JYb
def xg:∀{xs ys:i!},xs≠ys->A9! (RN! xs ys)->MC! ys xs
 | [],[],h,_=>QR!
 | [],_::_,_,h=>GQ!
 | _::_,[],_,_=>rfl
 | x::xs,y::ys,WD,h=>by rw[KQ!] at h ⊢;by_cases e:x=y;(.rw[AF e] at h;rw[AF BB!];show xg (λz=>WD (A5! e z)) h);.rw[AD e] at h;have h:=JLF h;rw[AD (Mh! e)];show pI!
def Nl{α:IN}{lt:iT! α}(irr:∀a,¬lt a a)(oY:∀a b,lt a b->¬lt b a):∀{VB l₂:T!},VB.Perm l₂->VB.Pairwise lt->l₂.Pairwise lt->VB=l₂
 | [],l₂,p,_,_=>JGk
 | a::VB,[],p,_,_=>by have:=p.length_eq;show BU?
 | a::VB,b::l₂,p,h1,h2=>by have fO:=KR! h1;have aL:=KR! h2;(have e:a=b:=by have ha:a∈b::l₂:=p.mem_iff.mp (EF!);have hb:b∈a::VB:=XK! (EF!);rcases ZM ha with e|ha;(.show e);.rcases ZM hb with e|hb;(.show BB!);.show I? (aL.1 a ha) (AC oY (fO.1 b hb)));subst e;rw[Nl irr oY (JLO p) fO.2 aL.2]
open S
def Ja4(ho:k7! (XL! Eo! Mz! n))(UW:vs.length<64)(O:FhS.oj lt KS!)(K:2<=vs.length->∀h',(JnM)->∀Q:HF! SortKind,(∀κ,JDk (FhS.OR (Jcu vs) lt KS! Bn!) κ)->Vh! (keyKind' Mz!) Bn!)(h:∀q:Ad!,jF! q.Perm KS!->sN!->∀h' c,(JnM)->JD! Me! (j9! q.map (λi=>vs.getD i At) c)->P JoR Bn!) :
 vg!:=by
 rw[list_sort_plain]
 have al:a<s.heap.objs.size:=AU ho
 have small:∀{k:Nat},k<=63->k<=sizeLine:=λhk=>yJ! CQ Am!
 show ZR (gT! ho A! (ZR (gU! ho A! ?_ (l! BG JOh) Tm!)))
 obtain⟨e1,g1⟩:∃e1,JPW (RG! a (RH! λ_=>(Ep!:BT!))).get?:=#[_,NU ho λ_=>Ep!]
 show ZR (seqEpoch_at g1 A! (ZR (gV! (ZR (JLa (EO ?_) Tm!)) (by change vs.length<=_;show JOh))))
 have g2:JPW JV6:=F6! (ZT _ g1)
 have kp:DG! (b≠a->HK!->Fx! JV6):=λb o hb e =>
  F6! (ZT _ (dU! e))
 change JDX _ (Mq! JdD)
 generalize JdD=hh at g2 kp
 show AE?
 have fin:∀(st:SortSt)(q:Ad!),JV3 st->B7! gW! st->JHD->sN! ->
  JDX (do
   let touched:=(<-seqEpoch a) != e1
   Builtin.List.listUpdate Bw! λ_=>lB! arrOf st
   if let D! e:=gW! st then rule "list.sort.comparison-raised";throw e
   if touched then rule "list.sort.modified";raiseError XM! "list modified during sort"
   ret At) JLf:=λst q ea ef qp qo=>by
  have hl:q.length=vs.length:=A5! qp.length_eq DL
  show ZR (seqEpoch_at g2 A! ?_)
  rw[ea]
  show ZR (gU! g2 A! ?_ Tm! (by change(q.map λi=>vs.getD i RB!).toArray.size<=m9!;rw[BG,ZA,hl];show CB (small (by show HG Am!))))
  rw[ef]
  simp only[bne_self_eq_false,DN,GA]
  show ZS (h q qp qo _ _ (Se! (dU! (kp b o hb e))) (NU g2 _))
 by_cases h2:vs.toArray.size<2
 .rw[AF h2,AF h2]
  show BG?
  rw[StateT.run_pure]
  show BG?
  have aL:vs.length<2:=nq!
  show AD! (SortSt.mk' general' (JLk Mz!) Ep! 7 Rs) (iQ! KS!) ?_ A! (List.Perm.refl _) ?_
  .change lB! JLk Mz!=_
   show G3?
   .simp
   .simp
   show Ao? aL Ch
  .show G3?
   .show JFQ
   .show JLn _ _
   show Ao? aL Ch
 .rw[AD h2,AD h2]
  have aL:2<=vs.length:=nq!
  show ZR (K aL hh kp _ λκ ask=>?_)
  show ZR (FR (W.kat_run (E:=E) (vs:=vs) (ks:=vs) (κ:=κ) (s:=JLf) (Q:=λOV s'=>JtX/\∃q:Ad!,JV3 OV/\B7! gW! OV/\JHD/\sN!)
   (G:=λp s'=>JtX/\FhS.Pm p KS!/\FhS.Up lt p KS!) A! aL UW (λp OV s' hp ha hf #[e,pm,up]=>?_) (FhS.eJ O ask dn! _ λq pm up=>#[A!,pm,up])) (λr s' hr=>?_) fm!)
  .show#[e,p.toList,W.kat_snds A! ha,hf,pm.pm,?_]
   rw[List.pairwise_iff_getElem]
   intro i j hi hj UU
   have hs:=pm.size
   have:=up i j UU (by rw[<-hs];simpa using hj)
   have gi:le!=p.toList[i]:=by simp[Array.getD,show gS! by simpa using hi]
   have gj:Gp! j 0=p.toList[j]:=by simp[Array.getD,show j<p.size by simpa using hj]
   show U? gi gj
   show this
  .have#[u,OV]:=r
   have#[e,q,q1,q2,q3,q4]:=hr
   dsimp only at e q1 q2 ⊢
   subst e
   show AD! OV q q1 q2 q3 q4
open E
open S
def Jpi{us ws:d!}{ns ms:i!}(i:Nat)(s:Shared)(p:JB6)(q:W2! ws ms)(hf:fin=Go (ns.length<ms.length))(h:Q (RN! ns ms) s):W.KatLex DC! w A b AD! Q (us.zip ws) i s:=by induction p generalizing ws ms i with | nil =>rw[JCv];show gX! ?_;rw[hf];cases q<;>show h | cons n t r ih =>cases q with | nil=>rw[JCw];show gX! ?_;rw[hf];show h | cons m u q =>rw[f7!];show gY! (fW! (gZ! (λe=>ga! ?_) λe=>W.kat_no ?_));(·show FM? (n=m);rw[KQ!,AF e] at h;show ih v6 q (by rw[hf];simp) h);·show FM? (n≠m);rw[KQ!,AD e] at h;cases hb:(b&&i==0) with | true=>show oneLt_int h | false=>show W.kat_one _ _ (lt_int h)
abbrev NJ(h:Heap):by! JSe:=Lp! (λa ns=>ns≠[]/\∃its,JLG/\p9!)
def Jel{as:X!}{TU:JSe}(p:NJ h as TU):Jev (λn t=>v=fU! n t):=by induction p with | nil=>show M6? | cons r t ih =>have#[fs,a1,a2,a3]:=ih;have#[WD,its,#[o,ho,hc,n,hd],hi]:=r;cases hL:ft! with | nil=>rw[hL] at hi;cases hi;show I? A! WD | cons f fr =>rw[hL] at hi;cases hi with | cons n0 t0 hr =>show N5? (fU! n0 t0) ho hc hd ?_;(·(have:its[0]?=its.toList[0]?:=Sc);rw[this,hL];rfl);.rcases ZM hv with rfl|hv;(.show#[_,_,A!]);.show a3 v hv
def NJ.keep(k:JCK (G_ λts n=>o.data=IL! ts n/\UM!))(t:NJ h as TU):NJ h' as TU :=Ax (λa ns #[h1,its,#[o,ho,hc,n,hd],hi]=>#[h1,At!,#[o,k a o ho #[_,_,hd,hc],hc,n,hd],hi]) t
def Jk0(hκ:∃b,κ=tuples' b)(t:JUY) : FhS.OR (Jcu (BW! Ds!)) (JUD) dm! s:=by
 have#[b,rfl]:=hκ;intro i j hi hj C hC;rw[ZA] at hi hj;have get:∀k,k<as.length->LW λa ns its=>Ji4 k At=A2!/\TU.getD k []=ns/\cy! IsTup At!/\p9!:=M8! (by have hl:=Mb! t;(have h1:as[k]?=D! (as[k]):=by simp[hk]);(have h2:TU[k]?=D! (TU[k]' V!):=JH3);have#[_,its,q1,q2]:=Bf t k _ _ h1 h2;show#[as[k],_,At!,by simp[hk],JH3,q1,q2])
 have#[a,ns,its,e1,e2,#[o,ho,hc,n,hd],hi1]:=get i hi;have#[a',gU,its',hJ,jn,#[o',bD,jb,n',VX],oF]:=get j hj;unfold W.kas_ask;rw[e1,hJ];show W.kat_lt ho hd bD VX (Jpi 0 s hi1 oF ?_ (by dsimp only at hC;rw[e2,jn] at hC;show hC));have l1:=hi1.length;have l2:=oF.length;simp only[DR] at l1 l2;rw[l1,l2]
def Jif(ho:JSj)(UW:as.length<64)(t:JUY)(nd:TU.Nodup)(h:JZj TU.getD TU.getD) : vg!:=by
 have hl:=Mb! t;have cN:gb! dm!:=UP!;show Ph? JUD (λz=>UU ?_);·(have UL:i<TU.length:=Q!);(have cu:j<TU.length:=Q!);(have e1:TU[i]=TU[j]:=by simpa [UL,cu] using z);show(MW nd).mp e1
 .have t':NJ h' as TU:=t.keep λb o e #[ts,k,q,qc]=>ct! (λz=>by rw[z,ho] at e;cases e;have qc:Jae:=qc;injection qc with qc;show I? qc Op);have#[fs,f1,f2,f3]:=Jel t';show QA? (EC! Mo!) (by rw[f2];rw[cN] at h2;show AV Am!) (Jk0 BR! t');have#[m,tk,rfl]:=f3 v hv;show W.Looks.of_pure A!
open E
def Ul(g:FP!)(f:α->G!)(h:∀x,g x=DN! (f x)):JWW T! g (BW! f).map
 | []=>U!
 | a::as=>am (S! (h a) A!) (Ul g f h as)
open S
variable {X:Cx Kx}
inductive P2(xs:C!)(H:Hp)(Q:VK):B!
 | mk d (L:DB! (i!×V)) (_:c3!) (_:Rd H d (BA! (CM! λp=>(JpW,wP)))) (_:L.length<64) (_:oh!) (_:(∀p∈L,g!≠[])) (_:∀(l:Addr)(M:DB! (i!×Addr)),OQ!->(M9! be).Perm (CM! be)->M.Pairwise (λp q=>MC! g! O!)->(∀p∈M,Bq! wP JKW)->Ny! l (EG! l (Ai! (M9! JNd))))
def Q2(hc:BY!):Vc! P2:=by
 show a?;have#[d,L,rfl,hd,UW,nd,WD,q]:=h;show Am?;show J?;show MD?;have hlL:A1! CM! JJ1=L.length:=UP!;have fM:JMN:=by rw[<-hlL];show JKq
 have key:∀(j:Nat)(p:i!×V),L[j]?=D! p->∃a,as[j]?=D! a/\EM! JKW:=λj p hp=>by have hj:XN!:=BP! hp;have#[a,ha]:=JFc as;have:=Bf ks j ((JpW:F4!),wP) a (T7! hp) ha;show#[a,ha,?_];rw[this,AZ];rfl
 have t0:JTj xz:=Fi (by rw[ZA,fM]) λj a ns e1 e2=>by rw[ZH] at e2;cases hp:L[j]? with | none=>rw[hp] at e2;cases e2 | some p =>rw[hp] at e2;have e3:g!=ns:=ZO e2;have#[a',h1,h2]:=UV j p hp;rw[e1] at h1;cases h1;have#[its,rv,it,_]:=Gc! (DQ! h2);show#[AY! e3 (WD p (ZP hp)),CJ!,it,by rw[<-e3];simpa using intsAre_of rv]
 show v4! (by show D6?;show Oe? raw JKS;have e1:tc!:=Jg2 ha V! at_;rw[e1];show JJ?;show Ly?;show Nh?;have t1:JTj JoA:=t0.keep λb o e _=>F6! (HU! kp);show Ja? (Jif g1 V! t1 nd wb!);show GB?;show Op?;(have eM:JdL:=JaS);show GE? (ZX! I1.laid Gr! (JBF (λi=>(l9!,as.getD i 0)) (λq=>AK! PP)) tk (JcI) Bh! (JbK ?_)) (q _ _ hn ?_ ?_ ?_);(.show NP?;lia);(.rw[AZ];show Ul _ (jN!) (KN!) p);(.rw[<-eM];show e);(.rw[AZ];(have e2:JGr (JP5)=ZZ!:=by show QA λj=>?_;rw[ZH];by_cases hj:XN!;(·(have h3:JFM:=by simp[fM,hj]);rw[h3];simp[hj]);·(have h3:JsQ:=by simp[fM];show IV! Am!);rw[h3,DY (Cw! (IV! Am!))];rfl);have e7:=pp.map JP5;rw[e2] at e7;show e7);(.rw[HH];show po);.intro r hr;have#[i,hi,e3]:=ZN hr;have JK:=inr i hi;have#[p0,hp0]:=Jmj L;have#[a,h3,h4]:=UV i p0 hp0;rw[<-e3];(have e5:as.getD i 0=a:=EJ! JS h3);(have e6:JsH p0.1:=by rw[JS,ZH,hp0];rfl);change Bq! JCy (ii ((OU! i []).map AU!));rw[e5,e6];show h4)
open E
open S
inductive Jze(K:W.Frag)(xs:C!)(H:Hp)(Q:VK):B!
 | mk x n t b (_:xs=[x,.ty n]) (_:Q5 K H x t) (_:Wr! K t (DE! n)=D! b) (_:La! b)
def Jgz{X:F!}:JLh Jze:=by
 show a?;have#[x,n,t,b,rfl,ty,e,q]:=h;obtain⟨u1,u2,rfl,r1,r2⟩:G_ λu1 u2=>us=[u1,u2]/\ED! x u1/\RelV (.ty n) u2:=by cases r with | cons r1 t1=>cases t1 with | cons r2 t2=>show FN? t2 r1 r2
 cases (show u2=fZ! n from r2);show Jlx I r1 ty e JZ5
def Jgb{K:W.Frag}{n:String}:Wr! K (DE! n) (DE! n)=D! GM:=by unfold W.kitOne;rw[AF (Sc)]
open E
@[reducible]abbrev T2:=gd!
abbrev tk(t:T2):F4!:=[W! Bb!,W! t.2]
abbrev tv(t:T2):C!:=JqF
def wx(t:T2):EI! tk t kV=tv t:=A!
def xV(h:tk a=tk b):a=b:=by have#[a1,a2]:=a;have#[b1,b2]:=b;unfold tk at h;simp only[List.cons.injEq,Sum.inl.injEq,and_true] at h;rw[bn,BF!]
structure BZ where
 num:GE
 BB:GE
 BJ:GE
 h:G!
 o:G!
 l:G!
 r:G!
 hand:E!
 AL:R!
 holds:L2!
 AK:R!
def Im{k:Str}{v:V}{r:EX!}:JW5 k=D! v:=by rw[HR];have:Ac! (k==k):=J_ k;show M?
def Bw{k j:Str}{v:V}{r:EX!}(h:¬k=j):JW5 j=List.lookup k r:=by rw[HR];have:CA! (k==j):=Wp! h;show M?
def Eu:As f v []=Eb! f:=A!
def Jto:As f v ((f,x)::r)=(f,v)::r:=xw!
def Cd(h:¬k=f):As f v ((k,x)::r)=(k,x)::As f v r:=xw!
def Hi:Pj! Ch!:=ZV
def Ko:Pj! Ci!:=ZV
def Ys:Pj! BE!:=ZV
def Yr:Pj! CN!:=ZV
def Va:Pj! wn:=ZV
def Qj:Pj! Cj!:=ZV
def Yt:Pk! Cg!:=ZV
def O8:Pk! Ci!:=ZV
def Jf4:Pk! BE!:=ZV
def Jf3:Pk! CN!:=ZV
def Jda:Pk! wn:=ZV
def Vb:Pk! Cj!:=ZV
def U5:Pl! Cg!:=ZV
def Jc6:Pl! Ch!:=ZV
def Jc7:Pl! BE!:=ZV
def Jc5:Pl! CN!:=ZV
def Yp:Pl! wn:=ZV
def Rw:Pl! Cj!:=ZV
def Yv:Ph! Cg!:=ZV
def Jf6:Ph! Ch!:=ZV
def Jde:Ph! Ci!:=ZV
def Jf5:Ph! CN!:=ZV
def Jdf:Ph! wn:=ZV
def Vd:Ph! Cj!:=ZV
def Yq:Pm! Cg!:=ZV
def Jf1:Pm! Ch!:=ZV
def Jc8:Pm! Ci!:=ZV
def Jf2:Pm! BE!:=ZV
def Jc9:Pm! wn:=ZV
def U9:Pm! Cj!:=ZV
def Vc:Pi! Cg!:=ZV
def Jdc:Pi! Ch!:=ZV
def Yu:Pi! Ci!:=ZV
def Jdd:Pi! BE!:=ZV
def Jdb:Pi! CN!:=ZV
def Rz:Pi! Cj!:=ZV
def Qi:Pn! Cg!:=ZV
def U7:Pn! Ch!:=ZV
def Rx:Pn! Ci!:=ZV
def U8:Pn! BE!:=ZV
def U6:Pn! CN!:=ZV
def Ry:Pn! wn:=ZV
abbrev B9(G:BZ):EX!:=[(Cg!,Ix KT!),(Ch!,Ix G.BB),(Ci!,Ix Gs!),Hl! BE! G.h,Hl! CN! wp,Hl! wn Aj!,Hl! Cj! BG!]
def Jbe(G:BZ):rv! Cg! KT!:=by unfold B9;rw[Im]
def Jj7(G:BZ):rv! Ch! G.BB:=by unfold B9;rw[Bw Yt,Im]
def Cq(G:BZ):rv! Ci! Gs!:=by unfold B9;rw[Bw U5,Bw Jc6,Im]
def F9(G:BZ):dK! BE! G.h:=by unfold B9;rw[Bw Yv,Bw Jf6,Bw Jde,Im]
def D3(G:BZ):dK! CN! wp:=by unfold B9;rw[Bw Yq,Bw Jf1,Bw Jc8,Bw Jf2,Im]
def E9(G:BZ):dK! wn Aj!:=by unfold B9;rw[Bw Vc,Bw Jdc,Bw Yu,Bw Jdd,Bw Jdb,Im]
def De(G:BZ):dK! Cj! BG!:=by unfold B9;rw[Bw Qi,Bw U7,Bw Rx,Bw U8,Bw U6,Bw Ry,Im]
def Jgh(G:BZ)(y:Int):JcL Ch! { G with BB:=y }:=by unfold B9;rw[Cd Hi,Jto]
def Bq(G:BZ)(y:Int):JcL Ci! { G with BJ:=y }:=by unfold B9;rw[Cd Ko,Cd O8,Jto]
def Jvr(G:BZ):dM! Cj! BG! (h2! wn Aj! CN! (EQ wp) (JpP G.h (Az! Gs!) (As Ch! (Az! G.BB) (As Cg! (Az! KT!) []))))=B9 G:=by unfold B9;rw[Eu];rw[Cd Hi,Eu];rw[Cd Ko,Cd O8,Eu];rw[Cd Ys,Cd Jf4,Cd Jc7,Eu];rw[Cd Yr,Cd Jf3,Cd Jc5,Cd Jf5,Eu];rw[Cd Va,Cd Jda,Cd Yp,Cd Jdf,Cd Jc9,Eu];rw[Cd Qj,Cd Vb,Cd Rw,Cd Vd,Cd U9,Cd Rz,Eu]
def Ce(G:BZ){m:Str}(h:JNW [Cg!,Ch!,Ci!,BE!,CN!,wn,Cj!]):TX! (B9 G).lookup:=by show JY?;have#[h1,h2,h3,h4,h5,h6,h7,_]:=h;unfold B9;rw[Bw h1,Bw h2,Bw h3,Bw h4,Bw h5,Bw h6,Bw h7];rfl
def Ed(G:BZ):A1! B9 G<1000:=by change 7<1000;decide
abbrev By(l:E!):HO:=sf! JHw
abbrev Dp(l:R!):HO:=sf! FR!
abbrev Fx(l:L2!):HO:=sf! J4!
def Er(l:T!)(k:CG!)(f:FP!)(t:T2):s6!=(Gt! yy!).map f:=by
 unfold Ck;show Cq? ge!;congr 1;congr 1;funext q;change N9! po! tk t=Go (k q=t);by_cases e:k q=t;.rw[e];simp
 .rw[AG e,AG (HT! e xV)]
def Jb2{α:IN}{l:T!}{k:CG!}{f:FP!}{t:T2}(h:wc!):s6!=none:=EJ! Er (Ox! (Aw! (SQ! dC!)))
def Ml{α:IN}{l:T!}{k:CG!}{f:FP!}{t:T2}(v:V)(h:wc!):Dx! JAI (tk t) v=JAI++Eb! (tk t):=Ih v (Jb2 h)
abbrev BX(G:BZ):X!:=te! JHk
structure BF(C:Addr)(H:Hp)(p:Addr)(G:BZ):B! where
 ob:nB! JAk
 dh:Cn! G.h By AE!
 dO:JTC
 dl:JUO
 dr:JTD
 hl:RP! (Cn! WP By BN!)
 nd:(BX G).Nodup
abbrev XT(p:Addr)(G:BZ)(H H':Hp):B!:=JjV (b∉CS!) LY!
open S
variable {C p:Addr}{H H':Hp}{G:BZ}
def BF.keep(x:KM)(k:JJJ (b=p) Tg!):PE! G:=by
 show ME?
 show MF?
 show Jw?
 show MG?
 show#[Jo! Ej!,Pu! m0 x.dh,Pu! m1 x.dO,Pu! m2 x.dl,Pu! m3 x.dr,Aw! (Pu! ?_ (x.hl q hq)),AV!];unfold BX;show sx!
def BF.same(x:KM)(s:db):PE! G:=JHj
def BF.LY(x:KM)(hb:Tg!):∃kvs,Cn! b BA! z!:=by
 unfold BX at hb;show Bj?;.show#[_,x.dh]
 show El?;.show#[_,x.dO]
 show El?;.show#[_,x.dl]
 show El?;.show#[_,x.dr]
 show Cs? hb;rw[<-e];show#[_,x.hl q hq]
def BF.SR(x:KM)(hb:Tg!):b≠p:=by have#[kvs,e]:=x.LY hb;have#[dx,e']:=x.ob;show JpJ e e'
def BF.tup_ne(x:KM)(hb:JlA):JJx:=JeL
def BF.VL(x:KM)(hb:JDT):JJx:=JeL
def BF.aF(x:KM):(G.h≠G.o/\G.h≠G.l/\G.h≠G.r)/\(G.o≠G.l/\G.o≠G.r)/\G.l≠G.r/\RP! (WP≠G.h/\WP≠G.o/\WP≠G.l/\WP≠G.r):=by have nd:=x.nd;unfold BX at nd;simp only[BC,BO,not_or] at nd;have#[#[a1,a2,a3,a4],#[b1,b2,b3],#[c1,c2],d1,_]:=nd;show#[#[a1,a2,a3],#[b1,b2],c1,B0!];have m:WP∈JHk:=Ps!;show#[cF! a4,cF! b3,cF! c2,cF! d1]
def BF.fld(x:KM)(dx:Addr)(m t:Int):F8! (EG! p (Yd! (B9 JNH))) JNH:=by
 have n:∀{b},Tg!->b≠p:=λhb=>x.SR hb;show ME?
 show MF?
 show Jw?
 show MG?
 show#[FB! Ab,eJ! m0 x.dh,eJ! m1 x.dO,eJ! m2 x.dl,eJ! m3 x.dr,B0!,AV!];rw[Ad (n (by unfold BX;show sx!))];show x.hl q hq
def BF.NK(x:KM)(l:R!):JIa wp { G with AL:=l }:=by show BV?;show CD? wp;show AF?;show#[FB! JjL,WF a1 x.dh,Ab,oI! b1.symm,k3! b2.symm,sa! (d1 q hq).2.1,AV!]
def BF.QF(x:KM)(l:E!):JIZ G.h gf!:=by show BV?;show CD? G.h;show AF?;show#[FB! JjL,Ab,WF a1.symm x.dO,oI! a2.symm,k3! a3.symm,sa! (d1 q hq).1,AV!]
def BF.VN(x:KM)(l:R!):JIa BG! { G with AK:=l }:=by show BV?;show CD? BG!;show AF?;show RC? a3 b2 (oI! c1) Ab (sa! (d1 q hq).2.2.2) AV!
def BF.eP(x:KM)(t:T2)(ha:Cn! a By [])(hf:a∉CS!):JQU (G.holds++[(t,a,[])]) wf!:=by
 show BV?;show CD? Aj!;show AF?;show Ob? B0! ?_;.show BL?;(.rw[Ad (d1 q hq).2.2.1];show x.hl q hq);·(have e2:q=(t,a,[]):=by simpa using hq);subst e2;have:a≠G.l:=λz=>hf (JhO z);rw[Ad this];show ha
 ·(have e2:BX wf!=CS!++[a]:=by simp[BX]);rw[e2];show Gy AV! hf
open E
abbrev RH(t:T2):Fc!:=PN! JqF
abbrev j8(q:Dd!):Fc!:=PN! [RH O!,Ix WP,bq! q.2.2.map RH]
abbrev wN(q:Dz!):Fc!:=PN! [RH O!,Ix PP]
abbrev kP(hs:E!)(os:Ae!)(rs:R!):Fc!:=PN! [bq! XP! RH,bq! DR! j8,bq! If! wN]
def sP(t:T2):(RH t).canLay0=true/\(RH t).depth<=2:=by
 unfold RH;show b?;.simp[PyData.canLay0,PyData.canLayAll0]
 .simp[PyData.depth,PyData.depthAll]
def Ji9(t:T2):wB (RH t):=#[(sP t).1,GB! (sP t).2]
abbrev CF(H:Hp):by! E!:=Lp! (λa t=>p3!)
def Th{K:W.Frag}{H:Hp}{a:Addr}{t:T2}(e:p3!):H_ K H Bw! (RH t):=NA! (DQ! e) (JMh (XV _))
def Ji8{K:W.Frag}{H:Hp}{as:X!}{ts:E!}(p:Ga!):P4! JAo Gu! RH:=Jw1 (λ_ _ e=>Th e) p
abbrev LI(a b:T2):B!:=MC! [a.1,a.2] [b.1,b.2]
def F8(a b:T2):VI!↔(a.1<b.1\/(a4!/\a.2<b.2)):=by
 unfold LI;rw[KQ!,KQ!];by_cases h1:a4!;.rw[AF h1];by_cases h2:a.2=b.2;(.rw[AF h2,HT.PH];show b?;(.intro z;cases z);.intro z;lia);.rw[AD h2];show b?;(.intro z;show E9! h1 (BI z));.intro z;show pI!
 .rw[AD h1];show b?;(.intro z;show R9! BI z);.intro z;show pI!
open S
inductive M8(xs:C!)(H:Hp)(Q:VK):B!
 | mk d (l:DB! (T2×V)) (ss:E!) (_:c3!) (_:sR! FS) (_:l.length<64) (_:ss.Perm (FS be)) (_:ss.Pairwise LI) (_:∀(r:Addr)(as:X!),aT!->Yz! ss->Ny! r (EG! r FF!))
def C0(hc:BY!):Vc! M8:=by
 show CQ?;have#[d,l,ss,rfl,hd,UW,pm,pw,q]:=h;show Q2 hc AB s σ H _ us Q I rv #[d,FS λq=>(JNq,PP),A!,?_,Cw! UW,?_,?_,λr M hr mp mw ma=>?_];·(have e:((FS kL!).map JJ1)=FS jc!:=Li!);rw[e];show hd
 ·(have nd:ss.Nodup:=pw.imp λ{a b} h z=>by rw[F8,z] at h;lia);have cZ:aW!:=JAR;show NN?;rw[e];show JUV (by have#[a1,a2]:=a;have#[b1,b2]:=b;simp at z;rw[Ah!,z.2]) cZ
 .intro p hp;have#[q,_,e]:=ZN hp;rw[<-e];simp
 ·show NN?;rw[e] at mp;(have e2:wv M9!=ss.map JlN:=by show Nl (lt:=λa b=>MC! a b) (λa z=>by rw[So] at z;cases z) (λa b h1 h2=>by have:=rW h1 h2;show H? So;cases this) (mp.trans (pm.symm.map _)) ?_ ?_;(.rw[HH];show mw);.rw[HH];show pw);(have hl:M.length=ss.length:=JBV e2);(have e3:(M9! JNd)=(M9! CK!).map DN!:=Li!);rw[e3];show q r _ hr (Fi (JAc) λj a t e4 e5=>?_);rw[ZH] at e4;cases hm:M[j]? with | none=>rw[hm] at e4;cases e4 | some m =>rw[hm] at e4;cases e4;(have e6:(M9! be)[j]?=D! m.1:=TY! hm);rw[e2,ZH,e5] at e6;have e7:[Bb!,t.2]=m.1:=ZO e6;have:=ma m (ZP hm);rw[<-e7] at this;show this
open E
def Jj9(h:JFp):sR! (FS JHv).map:=by
 show OR? JHv JHw
 rw[e];show LC!
def Jpj(h:rk!):sR! (FS JnO).map:=by
 show OR? JnO FR!
 rw[e];show LC!
def Dz{K:W.Frag}{a p:Addr}{xs:C!}{tt:TT}{te:TE}{caps:C2!}{σ:L2.St}{H:Hp}{Q:H6!}(Pv:Pp!)(h0:Qg!)(hl:JoF (Vq! H2/\HS!))(hs:vu!)(hd:eC!) : Jt! (Jn! (Je! (XR K a).stop GE! (XR K a).go (XR K a).TX (PL! at! GR!))):=by
 show GI?;show Gn?
 show Da?
def Ye{lo:Int}{n:Nat}{p:Addr}{tt:TT}{te:TE}{caps:C2!}{σ:L2.St}{H:Hp}{Q:H6!}(Pv:Pp!)(h0:Qg!)(hl:JGF (i<=n))(hs:∀i ys H2 (N:HN!),JYk (i<n) JDo JDo)(hd:JkF n) : Jt! (Jn! (Je! (cV lo n).stop GE! (cV lo n).go (cV lo n).TX (PL! at! GR!))):=by
 show Cb? (kl! (n-i) (i<=n)) n;show CR?;show Hf?;by_cases JK:i<n;.show EW? JK;have#[e,y]:=y;subst e y;show hs i ys _ (λzs H'=>∃m',m'<n-i/\(m'=n-v6/\ww<=n/\Pv (ww) zs H')) JK pv aD!
 show I2? (hd ys H2 pv)
open S
variable {X:Cx Kx}{sc:Scope}{cl:List (Str×Addr)}{AB:List (Addr×Obj)}{σ:L2.St}{H1:Hp}{s1:Shared}{fp:List Addr}{N:List Str}
open E
abbrev Jm5(K:W.Frag)(wi:TI)(caps:C2!)(tt:TT)(te:TE):TE:=vN! (HS! /\
 vz! (LW λa u v=>Bx!/\JZK/\tt (e5!) H3 λb H4 =>
   if Qy! then te (e5!) H4 LP!
   else GR!))
open S
variable {X:Cx Kx}{elt iter:Expr}{x y0:Str}{px jK pt pos:Pos}{kt:Nat}{ifs:List Expr}{sc:Scope}{cl:List (Str×Addr)}{caps:List (Str×Nat)}{wi:TI}{tt:TT}{te:TE}
def Jis{X:F!}{AB:Db}{σ:L2.St}{H:Hp}{s:Shared}{Q:VK}{use:r6!}{RQ:KE}(hc:BY!)(hi:JSx)(OF:Qf!)(LX:QK!)(LC:Jy!)(LF:Qi!)(hx:PI!)(fF:JED)(LJ:KB!)(has:Qj!)(QW:KA!)(hN:JGb)(ht:JYz)(he:JYy)(I:H!)(h:Jm5 Kx wi AM! tt te σ H Q)(fin:wE!)(hs:Ql!) : wF! (.ListComp elt [#[vo!,iter,ifs,0]] sc bi) vo!:=by show MA?;have gh:w! Yj! y0 Wc!:=lookup_relabel_local fF;show Qd? [x,y0] (λy H R=>LW λa u v=>y=A2!/\FD Kx H a [u,v]/\R (e5!));show Im?;have#[ay,uu,vv,ey,gm,q]:=b7;.show Ju?;have#[v1,r1,rfl,l1]:=Vm l0;obtain rfl:=Gn! l1;show x? (Qf (X:=JCR (y0::YT!)) hc (C7 (Bv (i:=0) hN A! (BK! lG) (CB! lG)) (C7 (Bv (i:=1) hN A! (BK! gh) (CB! gh)) Mo)) A! A! _ s7 (v0::v1::R6!) H7 y u (Mi! (FN=JjF uu vv/\H'=H7)) I7 r7 #[ay,_,ey,gm,A!,_,_,A!,_,_,A!,A!,A!,A!]);show Io?;show#[[D! uu,D! vv],A!,I8,q]
def Joi{X:F!}(hc:BY!)(hi:JSx)(OF:Qf!)(LX:QK!)(LC:Jy!)(LF:Qi!)(hx:PI!)(fF:JED)(LJ:KB!)(has:Qj!)(QW:KA!)(hN:JGb)(ht:JYz)(he:JYy)(hs:Ql!:=by intro _;rfl):Ja8 vo! (Jm5 Kx wi AM! tt te):=Jdu (Jis (use:=Rs) hc hi OF LX LC LF hx fF LJ has QW hN ht he I h (?_) hs)
open E
abbrev rT(p d:Addr):HO:=.ext λh=>h.IsItemsView p d
def R0(d:Addr)(hd:Ux!) : MeetsIn DC! w (Builtin.«dict.items» #[[GC!],[]]) (λ_ R s=>JUa/\rr! sK (JtS XQ! (#[ZZZ,GC!]))) :=.of_wp λA R s #[ht,h]=>by unfold Builtin.«dict.items»;show AW?;unfold Builtin.Dict.noArgs;show AX? KC ht;show He? d;show AZ?;show Hp?;show Ip?;show C6? hd;show BG?;show ZR (DA (ZS (Bj! h)))
open S
def Jo7:Jbc "dict.items" dZ! (rT p d):=by show IB?;show IC?;show J?;cases rs;show G4? dV!;show JGl JNb #[o,g1,g2.1] PySem.F.entry_dict_items (PySem.F.args_dict_items_1 _) (R0 d lo) #[#[o,g1,g2.1],?_];show CC?;show NO? rT;show Ne? XQ! XQ!;show OB?
open E
abbrev Cn(vs:BT!)(a0:Value):B!:=a0=At/\vs[2]?=D! a0
abbrev fe(h:Heap)(g:cA!)(e:Addr)(cls:Value):B!:=g e/\LW λoe vs a0=>JQ0/\oe.cls=cls/\nC!/\uf! /\
 (vs[1]?=D! At\/LW λT oT ts=>JLY/\g T/\T≠e/\JQ1/\ee!/\ns! At)
def fe.mono(x:fe h g e cls)(k:∀b,g b->g' b):fe h g' e cls:=by have#[g1,oe,vs,a0,h1,h2,h4,h5,h6]:=x;show#[k _ g1,oe,vs,a0,h1,h2,h4,h5,h6.imp (Wa!) ?_];rintro⟨T,oT,ts,t1,t2,t3⟩;show#[T,oT,ts,t1,k _ t2,t3]
abbrev mK(h:Heap)(g:cA!)(e:Addr)(cls fl:Value):B!:=g e/\yH λoe vs a0 T oT ts=>JQ0/\oe.cls=cls/\nC!/\uf!/\JLY/\g T/\T≠e/\JQ1/\ee!/\ns! fl
abbrev fb(h:Heap)(g:cA!)(e:Addr)(cls:Value):B!:=mO! h At
def fb.at(x:lj! h):fe h g e cls:=by have#[g1,oe,vs,a0,T,oT,ts,h1,h2,h3,h4,h5]:=x;show#[g1,oe,vs,a0,h1,h2,h3,h4,v! #[T,oT,ts,h5]]
abbrev XA(P:Program)(w:World):az:=λouter H s E e s'=>LW λex cls H'=>e=SB ex/\JVC (E8! Cd!/\JX!)/\JI0/\fo!/\aq!/\JUy/\JSP
def Qt(ok:C8!)(e:U0!):∃ob,JR! ob:=by have x:=ok a o e;cases o with | BM xs=>have#[_,_,_,_,e]:=x;show#[_,e] | BV xs=>have#[_,_,_,o,e,_]:=x;show#[_,e] | dK kvs=>show Hg? | dT kvs=>show Hg? | set S n=>have#[o,_,_,_,e,_]:=x;show#[_,e] | ins C dx fs=>have#[_,_,_,e,_]:=x;show#[_,e] | own y=>have#[_,e]:=x;show#[_,e] | xd fs=>show G7?;show#[_,e] | ph lo hi=>have#[_,_,_,e]:=x;show#[_,e] | IC ob u=>have#[e,_]:=x;show#[_,e] | cX ps=>show Hh? | met f y=>show Hh? | ext φ=>have#[_,#[_,e],_]:=x;show#[_,e]
structure MN(fr:X!)(g:cA!)(h h':Heap):B! where
 keep:DG! (Hj!->b∉fr->¬g b->ZJ!)
 slot:zs! XR! ec!
def MN.trans(a:MN fr g h h1)(b:MN fr g h1 h2):MN fr g h h2 :=#[gg! (b.keep c o (a.keep c o e n1 n2) n1 n2),λc o e m=>by have#[sl,e1]:=a.slot c o e m;have#[eX,e2]:=b.slot c _ e1 m;show#[eX,e2]]
open S
variable {M:Model}{A:Around}{E:Value->Shared->Prop}{s:Shared}{base:Heap}{env:Env}{outer:List Env}{L e:Addr}{cls:Value}{g:Addr->Prop}
def Jkh{head:Value}{hn:Bool}{oe:Obj}{vs:BT!}{Q:Do!}(ag:eH!)(hl:WF!)(hf:ef!)(he:JQ2)(hd:nC!)(hsz:1<vs.size)(h:∀h' T oT ts gT,w! Me! e gT->gT.cls=oe.cls->gT.data=Mc! (JNj 1 (EQ T))->B7! Cd! T->T≠e->JQp->ee!->ns! qp! ->
  JNM Qp! (b∉JFK)->(zt! Qp! ec!)->Q () Bn!) :
 S7! (do let a <-PySem.frameOf env;let pl <-entryPlaceOf L hn;let b <-EntryCells.newEntry head a At qp! At pl;setField bu! 1 b):=by
 have zM:e∉(env::outer).filterMap (·.frame):=λhm=>by
  have#[_,o,ho,lR]:=hl.mem hm
  rw[he] at ho;cases ho
  show lR vs hd
 show ZR (wpAny_frameOf_fun ag hl hf λh1 s1=>ZR (wpAny_entryPlaceOf λpl UK=>?_))
 unfold EntryCells.newEntry newFields
 show ZR (DA ?_ (UK.sizeOk5 _ _ _ _ _))
 obtain⟨ob,lO⟩:∃ob:Obj,ob=JkX "traceback" (Mc! ([head,SB L,At,KK! L,At]++(if pl.isEmpty then mc! 6 RB! else pl)).toArray):=BR!
 have e1:w! Md! e oe:=(s1.2.1 e zM).trans he
 have e2:w! (h1.push ob).get? e oe:=F6! e1
 have Te:h1.objs.size≠e:=EY (AU e1)
 rw[<-lO]
 show JF e2 hd hsz (h _ Gr! ob _ _ (ET _ e2 (KD (FF hd _))) (Ab! Obj.cls_mapFields) (FF hd _) ?_ Te ((CC _ _ (JE! Te)).trans (ZU h1 (Db! lO))) (by rw[lO]) Ch (λb o hb hm q=>?_) λb o hb q=>?_)
 .cases q:Cd! Gr! with
  | none=>rfl
  | some o =>
    have#[sl,q2]:=s1.2.2 _ o q
    show HV! AU q2 H3!
 .show JTG ((s1.2.1 b hm).trans q)
 .have#[sl,q2]:=s1.2.2 b o q
  show#[sl,JTG q2]
def Cn.set{vs:BT!}{a0 v:Value}(c:uf!):Cn (JNj 1 v) a0:=#[c.1,S! (Array.getElem?_setIfInBounds_ne (o0)) c.2]
def Jvd{Q:Do!}(ag:eH!)(hl:WF!)(hf:ef!)(x:sE!)(fresh:uk!)(h:JHN qp! JoN):JnG gh! env:=by
 have#[ge,oe,vs,a0,h1,rfl,h3,h4,h5]:=x;unfold noteFrame;simp only[hf];rcases h5 with h5|⟨T,oT,ts,t1,t2,t3,t4,t5,t6⟩;.have z1:=aR! h5;show GH? h5;show C5?;show Jkh ag hl hf h1 h3 z1 λh' T oT ts gT k1 k2 k3 k4 k5 k6 k7 k8 k9 uK=>JfW T oT ts (fresh T k4) q ma! q;show G5?;rw[z,h1] at e';cases e';show hn vs h3
 .have z1:=aR! t1;show GH? t1;show GU?;show ZR (DC t4 t5 t6 ?_);rw[AD (show ¬(Ac! (Value.none==KK! L)) by simp[rawInt])];show ZR (JF t4 t5 (aR! t6) ?_);have other:∀b,b≠T->JSA (RG! T (gR! (·.setIfInBounds 3 Value.none))).get?:=UF (CC _ _ (Mh! hb));(have nr:DG! (HK!->(∀vs,o.data≠Mc! vs)->b≠T):=λb o hb lR q=>by rw[q,t4] at hb;cases hb;show lR ts t5);(have nfr:∀b∈RE (env::outer),Qp!/\b≠T:=λb m=>by show G5?;show#[Cx!,nr b o' e' hn];rw[z,h1] at e';cases e';show hn vs h3);show Jkh (B3!:=B3!) ag (hl.of_keeps λb o hb lR=>#[o,(other b (nr b o hb lR)).trans hb,A!]) hf ((other e (Mh! t3)).trans h1) h3 z1 λh' T' oT' gL gT k1 k2 k3 k4 k5 k6 k7 k8 k9 uK =>JfW T' oT' gL ?_ (JLJ (Zl! n t2)) (nfr b m).1 (JLJ (nfr b m).2);by_cases z:T'=T;(.rw[z];show t2);.show fresh T' (Bz! (other T' z) k4)
def Jxr{Q:Do!}{fl:Value}{fo:J1!}{fr:X!}(x:mO! xz fl)(hg:wh!)(h:JHN (fo.elim At λf=>KK! f) fr):JIi fo:=by
 have#[ge,oe,vs,a0,T,oT,ts,h1,h2,h3,h4,t1,t2,t3,t4,t5,t6]:=x;show L8?;unfold setFlight;show GH? t1;show GU?;show JF t4 t5 hsz (Jfv h1 #[wi!,λb o q m=>?_]);show M5?
 show LA? (hg b m (Yo! t2))
def Jvi{Q:Do!}(x:lj! xz)(hg:wh!)(h:∀h',lj! h'->Zv! fr xz->Q () Bn!):JIi Rs:=Jxr (fo:=Rs) x hg h
def Jxq(hl:WF!)(x:mO! h' fl)(a:Zv! JoN xz):∀T oT ts,JQp->ee!->T∉JFK:=λT oT ts k1 k2 m=>by have#[_,o,e1,hn]:=hl.mem m;have#[sl,e2]:=a.slot T o e1 m;rw[k1] at e2;cases e2;show hn ts k2
def Jpb{Q:Do!}(ag:eH!)(hl:WF!)(hf:ef!)(x:sE!)(fresh:uk!)(h:JLg):No! M A (Hb! gh! e env) (λ_ s2=>Qv! M A (Hb! setFlight e Rs) Q E s2) E:=by
 show Jvd ag hl hf x fresh λh1 x1 a1=>?_;have fr:=Jxq hl x1 a1;have#[ge,oe,vs,a0,T,oT,ts,fO,h2,h3,h4,t1,t2,t3,t4,t5,t6]:=x1;show L8?;unfold setFlight;show ZR (DC (s:=Gv!) fO h3 t1 ?_);show GU?;show JF (s:=Gv!) t4 t5 hsz (Jfv fO (a1.trans #[wi!,λb o q m=>?_]));show M5?
 show LA? (fr T oT ts t4 t5 (l! z m))
def Jsh{Q:Do!}(ag:eH!)(hl:WF!)(hf:ef!)(x:sE!)(fresh:uk!)(h:JLg):S7! (leaving env bu!):=ZR (Jpb ag hl hf x fresh h)
open E
open S
variable {X:Cx Kx}{AB:List (Addr×Obj)}{σ:L2.St}{H H1:Hp}{s s1:Shared}{h':Heap}{g:Addr->Prop}{ex:Addr}{cls:Value}
def Jbd(ok:OK P w H1 h)(a:Zv! fr h)(hf:wg!)(hg:∀b,g b->aY!):ru! H1:=λb o e =>(ok b o e).QE (λc u hc q=>a.keep c u q (JeA hf) (JeA hg)) (λ_ q=>q) WX!
def Jej(u:JZc h)(a:Zv! fr h)(hg:j4! s0.get? (¬g b))(ag:DG! (Fx! s0.get?->XR!->b∈fs))(hH:wg!):JZc h' where
 keep:=λb o e n1 n2 n3=>a.keep b o (WY! b o e n1 n2 n3) (λm=>n2 (HR! ag m)) (HU! hg)
 slot:=λb o e n1 m n3=>by
  have#[sl,q]:=u.slot b o e n1 m n3
  by_cases hm:XR!
  .show MH?
   show#[eX,q2]
  .show#[sl,Jc1]
 free:=u.free
 there:=λb o e n=>by
  have#[o',q]:=pK! n
  by_cases hm:XR!
  .show MH?
   show#[_,q2]
  .show#[_,Jc1]
 QT:=u.QT
 OO:=u.OO
 QU:=u.QU
open E
abbrev Jqq(X:F!)(E:XK):B!:=∀(AB:Db)(σ:L2.St)(H1:Hp)(s1:Shared)(ex:Addr)(cls:Value),Tb!->fe s1.heap (λb=>JGU aY!) ex cls->E cls Rs H1->X.xe (EQ ex) s1
open S
variable {P:Program}{w:World}{K:W.Frag}{mg:Str->Option Value}{base:Heap}{N:List Str}{qual:Str}{scope:Scope}{f:Addr}{cd:Value}{A:Around}{outer:List Env}{s:Shared}{H:Hp}{E:XK}
def Gw:Jqq (ZA! OV! scope cd) E:=by
 intro AB σ H1 s1 ex cls I x hE;have XF:jA! (∃o',Nn! gN! o'):=B4! (JjG yB!);show Jsh (B3!:=B3!) (L:=sK) I.ok.frames I.stack A! x (λb q=>?_) λh' x' as=>?_;.show b?;(.cases q2:Cd! b with | none=>show q2 | some o =>have#[o',e]:=XF b o q2;rw[q] at e;cases e);.cases q2:H1 b with | none=>rfl | some o =>have#[ob,e]:=Qt DI! q2;rw[q] at e;cases e
 .have RF:∀b∈RE (JtV),aY!:=JNf;show#[ex,cls,H1,A!,x',hE,I.os,IO!,Jej (fs:=RE FX!) I.base as (λb o e z=>?_) (λb o e m=>?_) RF,Jbd DI! as RF λb z=>z.2];(.have:=Ah!;have e':HK!:=e;show U? (RQ! (JSA (Nz (XA P w) P w K mg base N qual scope f cd A outer s H E).IV.heap.get?)) e';cases this);.show m? (ZM (show b∈s.heap.objs.size::RE FX! from m));(.have:=AU (show HK! from e);show H? z;show I? this H3!);.show z
def Bk:Hk OV! JrP E:=by intro AB σ H0 s0 e s' I #[ex,cls,H',he,x,hE,ho,hg,u,ok];subst he;have I':Inv JrP AB σ H' s':=I.ZQ (ch:=[]) ho u ok hg pZ!;show Gw AB σ H' s' ex cls I' (x.at.mono λb z=>#[?_,z.2]) hE;cases q:Cd! b with | none=>show q | some o =>have#[o',e]:=I.base.there b o q yB!;rw[Ah!] at e;cases e
open E
open S
variable {P:Program}{w:World}{K:W.Frag}{mg:Str->Option Value}{base:Heap}
def ok1{x qual:Str}{st:Stmt}{f:Addr}{fd:FuncData}{N ps:Z!}{k:Nat}{sp:Sp}(F:QI!)(S:fG!)(len:d2!)(WR:JWP (RL (ZA! OV! (Ak st) FH) (Ha st) t)):JJC:=by show D5?;show Jtr lk TZ S len (JF5 JfP)
def F7{x qual:Str}{st:Stmt}{f:Addr}{fd:FuncData}{N ps:Z!}{k:Nat}{sp:Sp}(F:QI!)(S:fG!)(h:Jfm OV! Os):JJC :=ok1 F S (wK!) JeB
def FY.TQ{k:Nat}{f:Addr}{fd:FuncData}{ps:Z!}{sp:Sp}(F:JrE YV):JJi :=#[F.len,JfI E (λr s' h=>by cases r with | ok fl=>cases fl<;>show h | error e=>show C9?)]
open E
abbrev j5:d!:=[EC! XM!,EC! "Exception",EC! RR!,EC! "object"]
structure Sa(K:W.Frag)(mg:AC!)(x:Str)(C:Addr):B! where
 mg:Br! mg Sx!
 ex:JK4
open S
variable {X:Cx Kx}{x:Str}{C:Addr}{E:XK}{np IK pos p1:Pos}{msg:Str}{j:Nat}
def XCa{P:B!}(F:J1!->ClassData->vJ!->A8!){o:Ku! Obj}(q:W.excIn.match_6 (λ_=>Bool) o F (gM!)=true)(k:∀dd cd sl,o=D! #[EC! "type",dd,.cls cd,sl]->F dd cd sl=true->P):P:=by
 obtain _ | ⟨ty,dd,dat,sl⟩:=o
 .cases q
 show Cu? ty
 rename_i ty;by_cases e:ty="type"
 .subst e;show Cu? dat
  show k _ _ _ A! q
 .delta W.excIn.match_6 at q;cases ((FW! (·=true) (dif_neg e)).mp q:Q1!)
def XCb{P:B!}(F:G!->d!->Kw!->Kw!->Kw!->Kw!->String->Kw!->A8!){l:d!}{m:DB! (WU! IJ!)}(q:W.excIn.match_1 (λ_ _=>Bool) l m F (λ_ _=>false)=true)(k:∀C' bm k0 k1 k2 k3 n k5,l=SB C'::bm->m=JOB n->F C' bm k0 k1 k2 k3 n k5=true->P):P:=by
 obtain _ | ⟨v,bm⟩:=l
 .cases q
 show Cu? v
 obtain _ | ⟨k0,_ | ⟨k1,_ | ⟨k2,_ | ⟨k3,_ | ⟨_ | n,sl⟩⟩⟩⟩⟩:=m<;>try show Qv?
 show Cu? n
 obtain _ | ⟨k5,_ | _⟩:=sl<;>try show Qv?
 show k _ _ _ _ _ _ _ _ A! A! q
def XCi{K:W.Frag}{C:Addr}{bmB:d!}{id:String}{P:B!}(q:W.excIn K C bmB id=true)(k:∀dd nm bs bm ns qn hd sn sub ab col k0 k1 k2 k3 k5,w! Wk! C #[EC! "type",dd,.cls #[nm,bs,LN!::bm,ns,qn,hd,sn,sw,ab,col,Os],#[JOB id]]->W.tailIn K bmB bm=true->W.nsOkIn K ns=true->W.nsIn K ns fy!=D! Rs->P):P:=XCa _ q λdd cd sl ho q=>XCb _ q λC' bm k0 k1 k2 k3 n k5 hm hs q=>by
 simp only[Bool.and_eq_true,beq_iff_eq,Bool.not_eq_true'] at q
 have#[#[#[#[#[rfl,rfl],h],ht],f],g]:=q
 show k dd cd.name cd.bases bm cd.ns cd.qualname cd.hasDict cd.slotNames cd.subclasses cd.abstract cd.collection k0 k1 k2 k3 k5 ?_ ht f g
 rw[ho,<-h,<-hm,<-hs]
def Jkg{K:W.Frag}{h:Heap}{C:Addr}(XK:Ug!)(q:JK4):JgB:=XCi q λdd nm bs bm ns qn hd sn sub ab col k0 k1 k2 k3 k5 ho ht f g=>#[nm,qn,ns,bs,bm,hd,sn,sw,ab,col,dd,k0,k1,k2,k3,k5,_,P! XK ho,.of_isNs (W.isNs_of_in XK f),W.nsMap_none_of_in XK f g,W.tail_of_in XK ht]
def Jmr{X:F!}{h:Heap}{mg:AC!}(XK:Kx.In h)(c:Sa Kx mg x C):JgB:=Jkg XK c.ex
def Gk{X:F!}(hc:BY!)(hg:El!)(c:Sa Kx X.mg x C)(hx:Jqq X E)(hex:X.ex=[]:=by rfl)(hd:DA!:=by decide)(YJ:Jh6 IK fT!:=by rfl)(hs:JnZ fT! (fr! (FB msg) j p1):=by rfl) : PS X (.Raise (re (.Call (FV! x np) fT! [] IK)) Rs bi) (λ_ _ H=>OA! C):=by
 show Z?;have#[nm,q,N,bs,bm,hdct,sn,sub,ab,col,dd,k0,k1,k2,k3,k5,mN,hC,hN,lQ,tl]:=Jmr (X:=X) I.mod.ae c;show wpAny_Raise_call_subU (C:=C) (nm:=nm) (q:=q) (N:=N) (bs:=bs) (bm:=bm) (hdct:=hdct) (sn:=sn) (sw:=sw) (ab:=ab) (col:=col) (dd:=dd) (k0:=k0) (k1:=k1) (k2:=k2) (k3:=k3) (k5:=k5) JOH (bmB:=j5) ZV JOH (tl.hasType ZV) IG! YJ lQ ?_;show Jm I hg c.mg Hv! hd;have ha:PA X fT! (Cm (ZT! msg) F3):=Aa Ay Ae hs;have hA:=ha IK AB s σ H (λvs H1=>vs=[wE msg]/\H1=H) I ES!;rw[hs] at hA ⊢;show HK (FV hA ?_);rintro us s2 ⟨vs,H2,I2,r2,e1,e2⟩;subst e1 e2;show#[A!,by change us.length<=sizeLine;rw[<-r2.length];change DM! 1;decide,P! I2.bk hC,(let#[o,es,ep,e,r]:=hN;#[o,es,ep,P! I2.bk e,r]),tl.keeps I2.bk,λh' e hm=>?_];have#[t,ht,_]:=hm.there;have none_:∀b,E8! s2.heap.get?->JGU (E8! H2):=λb q=>by show b?;(.cases q2:fj! b with | none=>rfl | some o =>have#[o',e']:=I2.base.there b o q2 JIO;rw[q] at e';cases e');.cases q2:H2 b with | none=>rfl | some o =>have#[ob,e']:=Qt I2.EE q2;rw[q] at e';cases e'
 have I3:DY! H2 { s2 with heap:=h' }:=I2.kept (t':=s2.toks) hm.keeps;show hx AB σ H2 _ e Sx! I3 #[none_ e hm.new,_,_,_,ht,A!,A!,ES!,H4!] h
open E
open S
variable {X:Cx Kx}{AB:List (Addr×Obj)}{σ:L2.St}{H:Hp}{s:Shared}
def Qa8{t':Nat}{fp:X!}{h':Heap}(I:H!)(k:JhW (b∉fp) HK!)(hf:JpA):oC!:=by
 have ko:∀b u,LF!->b∉fp:=λb u e z=>by rw[(hf b z).1] at e;cases e
 show QS? fp rK! rK! rK!;.have#[_,h1,_,h2,h3,h4]:=Dm! hf;show#[h2,h1,h3,h4]
 show O4? (JsC hf)
 show QG?
def Qaf{T:Addr}{o:HO}{ob:Obj}(I:H!)(hf:P5 X AB H T)(ho:JCx T)(new:JBQ (EG! T o) T):n8! (EG! T o):=by
 have#[h0,h1,aL,h2,h3,h4]:=hf;have ne:∀{b u},LF!->b≠T:=mm! h0;show I.step (s:=s) (h':=xz) (t':=Es!) (g':=s.gens) (d':=s.drawn) (ch:=[T]) (K6! ?_) (λb o _ _ _ e _=>e) (λb o _ _ _ e _=>#[o.slots,e]) (λb o hc _ n=>?_) (fl! cz!) (λb xs e=>?_) (λb o u e=>?_) (λb ps e=>#[Ep!,?_]) (λm hm=>hm) (jl!) IO!;show L4? (b=T) h2 h1 h3 h4
 .rw[Ad (JiX hc)];show n
 .rw[sC!];show e
 .rw[sC!];show e
 .rw[sC!,e];simp
 .by_cases hb:b=T;(.show DY? new);.show Ll? (λc v _ q=>q)
open E
open S
variable {prog:Program}{w:World}{A:Around}{E:Value->Shared->Prop}{s:Shared}
def Jh5{it t:Addr}{i:Nat}{items:BT!}{x:Value}{Q:KE}(hit:JYn)(ht:JO0)(hx:items[i]?=D! x)(hQ:∀h',gi! it t (ww)->JhZ it->Q x Bn!):JQt:=by have#[o,ho,hc,hd]:=id hit;have#[ol,uf,_,nl,ux]:=ht;show Jx?;show Pp?;show IV?;show Lb?;show OD?;rw[AD WD];show IU?;show Lc?;simp only[CS,hx];show ZR (JF ho hd Ch (ZS #[x,A!,JND (JPu ho hd hc ?_)]));rw[FF hd];simp[rawInt]
def Jf0{it t:Addr}{i:Nat}{items:BT!}{Q:KE}(hh:Gf!)(hit:JYn)(ht:JO0)(hx:items[i]?=none)(hE:∀h' e,JZo->(∃o,o8! e/\mq! KP!)->E (EQ e) Bn!):JQt:=by have#[o,ho,hc,hd]:=id hit;have#[ol,uf,_,nl,ux]:=ht;show Jx?;show Pp?;show IV?;show Lb?;show OD?;rw[AD WD];show IU?;show Lc?;simp only[CS,hx];show ZR (VH (ZR (JF ho hd Ch (ZR ?_))));show Ir?;show ZR (DA (GA! zY! (SH (a:=RB!) JS8 JIr)) jo!);simp only[raiseNew];show Hl?;show Ji?;show ZR (ZS (wpAny_throw (hE _ _ JOx lJ!)))
def Jkw{z TI TO i1 i2 l1 l2:Addr}{k:Nat}{xs ys:BT!}{x y a b:Value}{Q:Up!}(D:wD!)(hz:JK8)(u9:JMi)(hTO:sI! xz)(h1:JYo)(h2:s.heap.IsListIter i2 l2 k)(cq:d8!)(fN:ug!)(hx:xs[k]?=D! x)(hy:ys[k]?=D! y)(hQ:∀h',IsZip h' z TI TO (KK! sK)->Z8! h' x y->gi! i1 l1 (k+1)->JOM i2 l2 (k+1)->JBw h' x y -> (JeC qR!)->JGo):JFz:=by
 show Nj?;show Pk?;show OF?;show NK?;simp only[HX];show OX?;show Jy?;show J8?;show JV? (Jh5 JS3 JS4 hx λX_ j1 MM=>ZS ?_);have o2:sI! X_:=FM gk! D.TOi1 (gj! _ _ D.TOz hTO);show Lm? o2 o2 (λdy o3' RR=>ZR (XT! (ZS ?_)));have o3:Z8! dy x b:=o3';have j2:=JZa h2.extBut D.i2z D.i12.symm D.TOi2.symm;have m2:=JZa fN.extBut D.l2z D.l2i1 D.l2TO;show ZR (ZR (wpAny_onRaise (GA! (On! Builtin.SmallTypes.nextOf i2) (wpAny_nextOf_list_item j2 m2 hy λzD j2' bR=>ZS ?_))));have o4:Z8! zD x b:=FM bR.extBut D.TOi2 o3;show Lm? o4 o4 (λQV o5' bQ=>ZR (XT! (ZS (ZS ?_))));have o5:Z8! QV x y:=o5';show ZR (KU o5 A! (ZR (gV! ?_)));have hsz:QV.objs.size=s.heap.objs.size:=by rw[bQ.1,bR.1,RR.1,MM.1,ER.1]
 have z5:JnL QV:=JSB D.TOz.symm D.i2z.symm (RS! _ _ D.TOz.symm (gk! _ _ D.i1z.symm z1));have k5:JeC JCf:=λc o c1 c2 c3 c4 e=>JSB c2 c4 (RS! _ _ c2 (gk! _ _ c3 (gj! _ _ c1 e)));have a1:QV.IsTupleIter i1 l1 (k+1):=((j1.extBut RS! D.TOi1.symm).extBut bR.extBut D.i12).extBut bQ.extBut D.TOi1.symm;have a2:QV.IsListIter i2 l2 (k+1):=j2'.extBut bQ.extBut D.TOi2.symm;have zl:QV.objs.size≠z:=EY (AU z5);show GA! (Builtin.SmallTypes.ownedTupleHandOut (EQ z) (EQ QV.objs.size)) ?_;have z6:IsZip (QV.push (qy! (#[ZZZ,x,y]))) z TI TO .ellipsis:=F6! z5;show F9? z6 (λzC z7' nV=>?_);have z7:JK9 zC:=z7';show DZ z7 Ch λdw z8' nU=>?_;have z8:JK9 dw:=z8';have up:∀c o,c≠z->JCf->K2! dw.get? c:=λc o c1 e=>JSC c1 c1 (ZT _ e);have t8:XS! dw QV.objs.size x y:=JSC zl zl UE!;rw[hsz] at z8 t8;show ZS (Bj! (ZS ?_));rw[hsz];show hQ dw z8 (up _ _ D.TOz o5) (let#[o,e,r]:=a1;#[o,up _ o D.i1z e,r]) (a2.at λo e=>up _ o D.i2z e) t8 λc o c1 c2 c3 c4 e=>up c o c1 (k5 c o c1 c2 c3 c4 e)
def Jmq{z TI TO i1 i2 l1 l2:Addr}{k:Nat}{xs:BT!}{Q:Up!}(hh:Gf!)(D:wD!)(hz:JK8)(u9:JMi)(h1:JYo)(cq:d8!)(hx:xs[k]?=none)(hQ:JJ8 (∀c o,c≠z->c≠i1->JnD->qR!)):JFz:=by
 show Nj?;show Pk?;show OF?;show NK?;simp only[HX];show OX?;show Jy?;show J8?;show JV? (Jf0 hh JS3 JS4 hx λX_ e MM he=>?_);have#[oe,ug,hce]:=he;have z2:JnL X_:=FM MM D.i1z.symm z1;have hez:e≠z:=λq=>by subst q;rw[z2] at ug;cases ug;simp at hce
 show DZ z2 Ch λdy _ RR=>?_;show ZR (Jd9 #[oe,FM RS! hez ug,hce] (ZS (hQ _ λc o c1 c2 q=>FM RS! c1 (MM _ _ c2 (gj! _ _ c1 q)))))
open E
@[reducible]abbrev pO(h:Heap)(l1:Addr):FS!:=JTN h.push
@[reducible]abbrev pN(h:Heap)(l1 l2:Addr):FS!:=Jmu (pO h l1).push "list_iterator" (SB l2)
@[reducible]abbrev pM(h:Heap)(l1 l2:Addr):FS!:=JSI pN (SB h.objs.size) (SB (pO h l1).objs.size)
@[reducible]abbrev pL(h:Heap)(l1 l2:Addr):FS!:=JSI pM At At
@[reducible]abbrev jC(h:Heap)(l1 l2:Addr):FS!:=(pL h l1 l2).push (h3! IR! Mc! (#[ZZZ,At,Au! Os,Au! Os,JKL pN,JKL pM]))
def Jh9(l1 l2:Addr)(xs ys:BT!):Meets (Builtin.«zip.__new__» #[[EC! IR!,SB l1,SB l2],[]]) (λ_ R s=>d8!/\ug!/\rr! (pL xz l1 l2).objs.size (Mq! (ON! jC l1 l2))) :=JJl (by show D2?;have#[cq,fN,h]:=h;have dz:=sub_zip;have a1:Heap.IsTuple (Shared.heap QP!) l1 xs:=cq;have a2:Heap.IsList (Shared.heap #[JTN hp.push,g,d,tk,os]) l2 ys:=Heap.IsList.push fN _;wp_walk using fv! a1,fu! a2;show O? h)
open S
variable {prog:Program}{w:World}{A:Around}{E:Value->Shared->Prop}{s:Shared}
def Jmd{l1 l2:Addr}{xs ys:BT!}{Q:KE}(cq:d8!)(fN:ug!)(h:∀h',IsZip h' JsA (mw!) (mx!) At->XS! h' (mw!) yI! (EQ PO!)->XS! h' (mx!) At At->gi! sK l1 0->JOM (JJ!) l2 0 -> (∀c o,JnD->qR!)->z6! JsA):De! (call (DE! IR!) JSa):=by
 show callType_new F.called_zip Op (Ab! F.typeCall_zip_2) (Ab! F.newCall_zip_2) (λobj=>F.args_object_init_3 obj _ _) F.entry_zip_new (Jh9 l1 l2 xs ys) #[cq,fN,?_];have z1:JV5=JJ!:=KW ..;have z2:me! pN mw!:=ow! z1
 have z3:me! pM mx!:=ow! z2
 have z4:me! pL (s.heap.objs.size+4):=ow! z3
 have p:∀{h:Heap} {o:Obj} {c:Addr} {u:Obj},ZO! c u->w! (h.push o).get? c u:=λe=>N8!;have g5:sT! pL:=EP!;have g4:sT! pM:=p UE!;have g3:sT! pN:=p (p UE!);have g2:JlG JV5:=p (p (p UE!));have g1:JlG sK:=p (p (p (p UE!)));change _/\_;rw[z2,z3,z4] at g5;rw[z1,z2] at g3;rw[z3] at g4;rw[z1] at g2;rw[z4];show#[Dg! g5,h _ g5 g3 g4 (YP! _ g1) (YP! _ g2) λc o x=>p (p (p (p (p x))))]
open E
abbrev m_(K:W.Frag)(l1 l2:Addr):It :=
 #[λi H=>V_ λxs ys x y=>rm!/\DT K H l2 ys/\Sa!/\JDI,
  λi H v H'=>LW λT x y=>BJ! T/\v=SB T/\H'=dL! T [x,y]/\(∀xs,rm!->Sa!)/\∀ys,DT K H l2 ys->JDI,
  λi H=>∃xs,rm!/\xs.length<=i]
abbrev tnZ(z TI TO i1 i2 l1 l2:Addr)(i:Nat)(h:Heap):B!:=IsZip h z TI TO At/\XS! h TI (EQ i1) (EQ i2)/\(G_ λa b=>sI! h)/\yh! i1 l1 i/\h.IsListIter i2 l2 i
def Jm1{P:Program}{w:World}{K:W.Frag}{es:Jp!}{kt:Nat}{pt:Pos}{z TI TO i1 i2 l1 l2:Addr}(D:wD!):Turn P w K JJb (m_ K l1 l2) [z,TI,TO,i1,i2] z (tnZ z TI TO i1 i2 l1 l2) where
 mem:=EF!
 obj:=KL! (by
  have#[hz,hI,#[a,c,hO],#[o1,e1,_,d1],#[o2,e2,_,d2]]:=st
  show D7?
  show G6?
  show Fi? hz
  show Fi? hI
  show Fi? hO
  .show#[_,e1,λv q=>tp! d1]
  .show#[_,e2,λv q=>tp! d2])
 keep:=λi h h' st k=>by
  have#[hz,hI,#[a,c,hO],#[o1,e1,r1],#[o2,e2,r2]]:=st
  show#[VW! z hz,VW! TI hI,#[a,c,VW! TO hO],#[o1,VW! i1 e1,r1],#[o2,VW! i2 e2,r2]]
 item:=by
  show w?
  show g?
  show KO?
  have#[xs,ys,x,y,q1,q2,hx,hy]:=hg
  show Jz?
  show Fx?
  have#[gY,RZ,p',_]:=DK! q2
  have#[u',uX,tf]:=RZ.get hy
  show Jkw D hz hI hO h1 h2 JHm p'.isList (x:=u) (y:=u') (by simpa using hu) (by simpa using uX) λh' a1 a2 a3 a4 a5 a6=>Bj! ?_
  show wpAny_letOwnedTupleGo_zip a1 λaL b1 b2=>?_
  have JK:JtC JOe:=UF (by
   show D7?
   show G6?
   .show AU hz
   .show AU hI
   .show AU hO
   .have#[_,e,_]:=h1;show Bk!
   .have#[_,e,_]:=h2;show Bk!)
  have Tne:JtC (b≠s.heap.objs.size):=UF (BU (JK b hb))
  show CZ? { s with heap:=aL,toks:=s.toks } (Qa8 I (Se! (gl! b o VP! (a6 b o VP! VP! VP! VP! e))) hf)
  have hT:JBw aL u u':=n9! (Tne z Ch).symm a5
  have fT:P5 X AB H sK:=I.UB (ZG _) W7!
  have I2:=Qaf (o:=ii [x,y]) I1 fT hT (JOy qq! [u,u'] ru tf hT)
  have kp:∀{b o},b≠z->b≠TO->b≠i1->b≠i2->HK!->Fx! aL.get?:=λn1 n2 n3 n4 e=>n9! n1 (a6 _ _ n1 n2 n3 n4 e)
  show#[LO!,_,I2,A!,#[_,x,y,W7!,A!,A!,λxs' e=>S! (I.UP e q1) hx,λEF e=>S! (I.WT e q2) hy],#[b1,kp D.TIz D.TITO D.TIi1 D.TIi2 hI,#[u,u',n9! D.TOz a2],a3.extBut gl! D.i1z,a4.extBut gl! D.i2z],Hh!]
  rw[Ad (Tne b hb)]
  show(hf b hb).1
 done:=by
  show w?
  show g?
  show KO?
  have#[xs,q1,hx]:=hg
  show Jz?
  show Dz?
  show Jmq IG! D hz hI h1 JHm (by simp;show hl▸hx) λh' kp=>Bc! (Qa8 (t':=Es!) I (Se! (kp b o (JsL) (JsL) e)) hf)
 self:=λ_ _ _ _ _ st h=>JOj st.1 h
abbrev Jzp(K:W.Frag)(ta:TA):TI:=vE! (V_ λl1 l2 xs ys=>vs=JSa/\Oa! H1 l1/\DT K H1 l2 ys/\R (m_ K l1 l2) H1)
def Ju2{X:F!}{a b:Expr}{ta:TA}{p pos:Pos}{es:Jp!}{kt:Nat}{pt:Pos}(hg:Gl X IR!)(hm:B7! X.mg IR!)(ha:JLU)(hs:JYT:=by rfl)(cK:JTU:=by rfl) : PI X JJb (.Call (FV! IR! p) IT! [] bi) (Jzp Kx ta):=by
 show AC?;show Call_ (Qq I hg hm boot_zip JbA);have#[l1,l2,xs,ys,e,q1,q2,q]:=q1;subst e;have#[u,u',rfl,ru,tf]:=r1.two;cases ru;cases tf;have#[its,rv,pt,_]:=I1.tuple q1;have#[gY,RZ,pl,_]:=I1.list q2;have b1:l1<s1.heap.objs.size:=by have#[_,e,_]:=pt;show Bk!
 have b2:l2<s1.heap.objs.size:=by have#[_,e,_]:=pl.isList;show Bk!
 show Jmd (show s1.heap.IsTuple l1 CJ! from pt) Mn! λh' a1 a2 a3 a4 a5 kp=>JOj a1 ?_;show#[_,_,Qw? kp (Jm1 (zipApart_new b1 b2)) #[a1,a2,#[_,_,a3],a4,a5] Hh!];have:s1.heap.objs.size<=b:=by show D7?;rcases hb with rfl|rfl|rfl|rfl|rfl<;>first|show ZG _|show BD _ _
 show I1.UB this (I1.EE.fresh this)
abbrev XB(B:F!)(E:XK)(fp:X!):KE:=λe s'=>V_ λex cls H' FN=>e=SB ex/\JMS B/\JVC ((E8! B.IV.heap.get?\/b∈fp)/\b≠B.env.locals/\JX!)/\JI0
@[reducible]abbrev J0f(X:F!)(E:XK)(sc:Scope)(cl:Bl!)(C:Addr)(N:Z!)(s1:Shared)(H1:Hp)(fp:X!)(AB:Db):F!:=(QR X sc cl C N s1 H1 fp AB).RP (XB (JqW C) E fp)
open S
variable {P:Program}{w:World}{K:W.Frag}{mg:Str->Option Value}{base:Heap}{N0:List Str}{qual:Str}{scope:Scope}{f:Addr}{cd:Value}{A:Around}{outer:List Env}{s0:Shared}{H0:Hp}{E:XK}
variable {elt iter:Expr}{x y0:Str}{px jK pt pos:Pos}{kt:Nat}{sc:Scope}{cl:List (Str×Addr)}{caps:List (Str×Nat)}{wi:TI}{te:TE}
open E
open S
def Mt(I:H!)(hN:X.N.Nodup)(hi:J3!)(hk:iN! fn!)(h:JI3 (σ.set i Rs)):S7! (do bindName SL x At;unbindBehindTheSuite SL x bi):=by
 have#[m,hn,hl]:=id I.loc
 show Ol?
 show Jl?
 have bL:=I.bL
 show wpAny_nameGoes_keeps hk hn YB λh' v uh hs=>?_
 have low:JFZ (oB!->Wd!):=λe=>JNC
 show h _ #[I.ok,I.os,IO!,JpN (λb o e n hb hx=>(hs.2 b (low e)).trans (fk! b o e n hb hx)) Mg! Wf! Wg! I.base.QU,JPK,ml!,IN!,I.KN,EU!,XJ! ?_,S! SM I.len]
 .show RF?
  show#[sl,JSO]
 .have#[o',e1]:=JjG hx
  show#[o',JSO]
 .have hj:RT!:=λz=>by
   subst z
   rw[JC d_] at e2
   cases e2
  show Fw?
  show Ge?
  show#[u',r',?_]
  show Rd?
  .show C8? k
   show PK?
   simp[this,e]
  .show G? #[k,c,e,e3!]
 .have#[w',z]:=KI! y c e
  show#[w',e3!]
 .show Cr?
  show#[JXz,n,ne,nf,d]
 .show PE?
  rintro rfl
  show EZ?
  .rw[IN!] at e;cases e
  .rw[IN!] at hc;cases hc
open E
abbrev kA(X:F!)(AB:Db)(E:KE):F!:={ X with pn:=X.pn++AB,xe:=E }
abbrev lD(X:F!)(ex:Addr):F!:={ X with A:=X.A.mark JAZ,calm:=false,xe:=Qw! }
open S
def Cx.Ok.toTry(ok:X.Ok):JtJ:=eX!
def Cx.Ok.o7(ok:JtJ):X.Ok:=eX!
def Cx.Ok.toX(ok:X.Ok):(lD X ex).Ok:=#[ok.mod,ok.kind,ok.glob,ok.blt,ok.above,ok.inj,ok.has,ok.dF,λz=>(by cases z),ok.frames,ok.eT,ok.aN,ok.bs,ok.aQ,ok.VA,ok.VD,ok.ON,ok.bE]
def Jly(I:H!):Inv a2! [] σ H s:=sz! Cx.Ok.toTry (Dv! (I.pin p (by show F0?;rwa [AM] at WC)))
def Io(I:Inv a2! O_ σ H s):H!:=sz! Cx.Ok.o7 (Dv! (Sy! (F3! hp)))
def Jj3(I:H!):JJX:=sz! Cx.Ok.toX I.pin
def Sr(I:JJX)(ok:X.Ok):H!:=JE7 ok
def Jba(I:H!)(hn:L9!)(h0:JKO)(h1:JOo)(h2:JCD)(h3:TU! (g!≠a))(ok:JBQ J5! a):n8! J5!:=by
 have ne:∀{b:Addr} {u:HO},LF!->b≠a:=mm! hn;show#[Gh? IO! (JeH ?_ (λb ob u e=>?_)) I.loc KI! (L1! h1 IN!) (Wh! (WF (h2 x c e) (I.KN x c e))) jl!];.rw[Ad (Ow! h0)];show Mg! b ob e n hx
 .have:=Wf! b xs e;rw[Ad (ne this)];show this
 .have:=Wg! b ob u e;rw[Ad (ne this)];show this
 show Kv? (S! (Ad (ne q)) q)
 show NC? (WF (h3 p hp) a2)
 .show Bu?;(.show DY? ok);.show Ll? JKI
open E
abbrev wC(a C:Addr):HO:=.ext λh=>G_ λo vs=>lN!/\o.cls=LN!/\JsT/\vs[2]?=D! At
abbrev xX(X:F!)(ES:V4!):B!:=∀(AB:Db)(σ:L2.St)(H:Hp)(s:Shared)(e:Value)(s':Shared),JQd (XA FU! X.w Cc! H s ei! e s')
open S
def Jri{X:F!}(F:JDh)(hr:P7!)(hb:JDg)(hx:xX X ES)(I:H!)(r:MF!)(h:sp vs H Q ei!):JX1:=by
 have hl:JAw:=JPD r.length
 show Q6! (sh! (F.run X.A Cc! s H Tv! us vs Q ei! hr I.ix (by have:=hb s us DJ! (b0! hl);show BP? AM) r h));cases r with | error e=>show hx AB σ H s e s' I hq | ok fl =>cases fl with | ret u=>show I.after hq | next=>show hq.elim | brk=>show hq.elim | cont=>show hq.elim
inductive Jte(C:Addr)(m:Str)(sp:Sp)(ES:V4!)(t:TA)(σ:L2.St)(x:V)(H1:Hp)(Q:VK):B!
 | mk (a dx fs) (e0:Bx!) (e1:ep!) (e2:qt!) (e3:ER! t (λvs H2=>sp (x::vs) H2 Q ei!))
abbrev Jt5(C:Addr)(m:Str)(sp:Sp)(ES:V4!)(ta:TE)(t:TA):TE:=Lk! (Jte C m sp ES t σ x H1 Q)
def Joe{X:F!}(he:VH!)(c:Qc!)(hm:tH!)(F:JDh)(hr:P7!)(hb:JDg)(hx:xX X ES)(ha:MO!)(gk:KG!:=by rfl)(UK:QM!:=by rfl)(ht:JL6 (do let ov <-j1!;rz!;let(f,first) <-v1!;JMz):=by rfl) :
 JF8 (Jt5 C m sp ES ta t):=by
 show P?
 show Gs?
 show D1?
 subst ex
 show J?
 show Nx I1 ea c hm l (W.callWith_K (Q7!:=EV!) (h₀:=Qr!) I.ok.mod.ae hm.kp JdN gk UK)
 show Jri (us:=A2!::us) (vs:=A2!::vs) F hr hb hx I2 JQT q2
open E
def Jtx{M:Model}{A:Around}{E:KE}{s:Shared}{K:W.Frag}{C D e:Addr}{oe:Obj}{Q:b6!}(XK:IC!)(cD:W.excIn K D j5 "ValueError.__new__"=true)(dz:JRw)(he:JQ2)(YB:oe.cls=LN!)(hq:Q GM s):JnG excMatches TA!:=by
 have#[h,g,d,t,os]:=s
 have#[nm,q,N,bs,bm,hdct,sn,sub,ab,col,dd,k0,k1,k2,k3,k5,mN,hD,hN,lQ,tl]:=Jkg XK cD
 have hB:(mW! D::bm).contains (DE! RR!)=true:=by rw[OT,tl.hasType (b:=GM) ZV,Bool.or_true]
 have f:=tc_notTuple
 have LS:=gm! (M:=M) XK dz
 unfold excMatches
 repeat (first|(with_reducible show JOp he ?_;rw[YB])|with_reducible show JOp hD ?_|(with_reducible show wpAny_isSubtype_exc hD ?_;rw[hB])|with_reducible show LS.at ?_|wp_step)
 show hq
abbrev gone(D:Ends)(i:Nat):Ends:={ nx:=tW! D.nx,bk:=tW! D.bk,ct:=tW! D.ct,rt:=D.rt }
abbrev Jwa(K:W.Frag)(D:Addr)(cls:Value)(C:Addr):B!:=cls=LN!/\JRw
abbrev Jt3(K:W.Frag)(D:Addr)(i:Nat)(tb:(V4!)->TS)(ts:G!->TS):TS:=λE σ H =>
 tb (λFN cls _ H'=>∃C,Jwa K D cls C/\∀ex,B7! H' ex->ts ex (gone E i) (FN.set i JAZ) JWy) E σ H
open S
def Jn5{X:F!}(aT:JtB)(ag:JNe)(hex:X.ex=[])(hN:X.N.Nodup)(hi:X.N[i]?=D! n)(hn:JCG n)(hg:El!)(cD:Sa Kx X.mg x D)(hb:∀(AB:Db) (E:KE) (ES:V4!),xX a2! ES->RL a2! body (tb ES))(hs:∀ex,RL (lD X ex) (oW::gA) (ts ex))(hd:DA!:=by decide) : PS X (.Try body Jd2 [] [] bi) (Jt3 Kx D i tb ts):=by
 intro AB s σ H E I h;show wpAny_Try_except (FR (hb AB (λe s1=>lX! (gh! e SL) (λ_ s2=>lX! (setFlight e Rs) (λ_ s3=>JhR (handleBy e SL Jd2) (SP X AB E) s3) s2) s1) _ ?_ [] s σ H E (Jly I) h) (mr!) λe s1 q=>q);· rintro O_ FN H0 s0 e s' I0 ⟨ex,cls,H',he,xt,⟨C,⟨YB,dz⟩,hE⟩,ho,hga,u,ok⟩;subst he YB;have I1:Y5! H0 s0:=Io I0;(have frn:JHp JX!:=UF (by have:=I1.SJ b (l! aT hb);show MI?;show u.free b o e1 this Ch));(have frg:JHp (¬(E8! s0.heap.get?/\JX!)):=RM! (by show MI?;rw[e1] at z;cases Ah!));have I2:Ze!:=I1.ZQ (ch:=[]) ho u ok hga pZ!;(have fl:s'.heap.FunFrames Qr! (fh!):=by have:=I2.stack;show BP? aT);(have hfm:JtA (fh!):=A5! I1.ok.frames aT);(have none_:∀b,E8! s'.heap.get?->JLX:=λb q=>by show b?;(.cases q2:s0.heap.get? b with | none=>rfl | some o =>have#[o',e1]:=u.there b o q2 Ch;show X? q;cases e1);.cases q2:H' b with | none=>rfl | some o =>have#[ob,e1]:=Qt ok q2;show X? q;cases e1);(have back:∀{h':Heap} (t:Nat),MN (RE (fh!)) (λb=>JLX) IP! h'->Y5! H' JOz:=λ{h'} t as=>by show I1.ZQ (s':=JOz) (ch:=[]) ho ?_ (Jbd ok as frn λb z=>z.2) hga pZ!;have u':Un (RE Cc!) [] H0 H' s0.heap IP!:=u;show Jej u' as (λb o e1 z=>by rw[e1] at z;cases Ah!) (λb o e1 m=>S! aT m) frn);show Jpb (B3!:=Qr!) (L:=fi!) hfm fl ag xt.at none_ λh1 x1 MJ=>?_;have J1:=back s'.toks MJ;have#[oe,vs,a0,T,oT,gL,b1,b2,b3,_]:=x1.2;show wpAny_handleBy_cons (codeAny_handlers_test (Jm (X:=lD X ex) (Jj3 J1) hg cD.mg ?_ hd)) JpL;show Jtx J1.OX cD.ex dz b1 b2 ?_;show codeAny_handlers_suite_as (Jvi (s:={ s' with heap:=h1 }) x1 frg λh2 x2 WG=>?_);have J2:=back s'.toks (MJ.trans WG);have#[oe2,vs2,a2,T2,oT2,ts2,c1,c2,c3,#[c4,c5],_]:=x2.2;subst c4;(have J3:Y5! JWy { s' with heap:=h2,toks:=s'.toks }:=by show Jba J2 x2.1.2 ?_ (Cx!) (λy c e1 z=>?_) (λp hp z=>?_) #[#[oe2,vs2,c1,c2,c3,c5],#[oe2,c1],λha hb #[o,vs,q1,q2] k=>#[o,vs,k o q1,q2]];(.cases q2:fj! ex with | none=>rfl | some o =>have#[o',e1]:=I1.base.there ex o q2 JIO;show X? bE!;cases e1);(.have#[m,#[o,_,_,e1,_],_]:=I1.loc;rw[<-z,bE!] at e1;cases e1);(.have#[v,o,e2,_]:=I1.cell y c e1;rw[z,bE!] at e2;cases e2);.have:=(I1.pin p hp).1;show U? z bE!;cases this);show Tn (X:=X) J3 hN hi (BK! hn) (mz! (EQ ex) (EQ ex)) (λs4 J4=>?_) (CB! hn);show FR (hs ex AB s4 _ _ (gone E i) (Jj3 J4) (hE ex x2.1.2)) (λf s5 q=>?_) gL!;cases f with | next=>show Gd? | brk=>show Gd? | cont=>show Gd? | ret v=>have#[v5,pK,H5,J5,r5,q5]:=q;show Mt (Sr J5 J4.ok) hN hi hn λs6 J6=>#[v5,_,H5,J6,r5,q5]
 .cases f with | next=>have#[YL,H1,I1,q1]:=q;show PN #[YL,H1,Io I1,q1] | brk=>show O9? | cont=>show O9? | ret v=>have#[v1,YL,H1,I1,r1,q1]:=q;show#[v1,YL,H1,Io I1,r1,q1]
open E
open E Lake.FX
open N Lake.FX
open PySem PySem.Spec PySem.Calls PyProof.Rows L2 Builtin Builtin.ObjectAttr Builtin.Getset_descriptor
set_option maxHeartbeats 400000
structure mR(K:W.Frag)(C:Addr):B! where
 ga:Jgw C XU! (re (Eu! gn!))
 gb:Hw! JPG
 ha:JSG
 hn:vw!
 ht:vy!
 hm:JF1
 hb:VX! C
 hc:JRD
def Jqm:x3! builtinKind .slot:=ZV
def Jmk:x3! splitId (RR!,XU!):=ZV
open S
variable {prog:Program}{w:World}{A:Around}{E:Value->Shared->Prop}{s:Shared}{K:W.Frag}{x C:Addr}
def Jgx{R:b7!}{tp:Value}(X:IC!)(hx:JKu)(f:dP!)(h:rr! C s):fC! (Q3! (Eu! fz!) #[[JJk,Tl!,tp],[]]):=by
 have#[hh,g,dr,t,os]:=s;have#[o,uP,hc]:=hx;show Nk?;have L1:=gm! (M:=model DC! w) X f.hm;show JPI W.KF.slot_gs.plain W.KF.entry_gs (W.KF.slot_gs.check _ _ _ _ _ _ _ _ W.KF.type_class (AC W.KF.args_gs _) ?_);unfold Builtin.«getset_descriptor.__get__» descrGet;rw[W.dga_obj];show BG?;unfold descrGetter descrCheckInstance descrNameAndClass isInstance;simp only[W.KF.owner_class];repeat lk
 show#[Code.quiet_builtin _ ZV,PQ W.KF.entry_class ?_];unfold Builtin.«object.__class__» shownTypeOf;repeat lk
 show h
def Jl8{Q:Up!}(X:IC!)(hx:JKu)(f:dP!)(h:JlZ (re (.ref C))):JAD getAttr? x Ms!:=by
 have#[hh,g,dr,t,os]:=s;have#[o,uP,hc]:=id hx;show Nk?;have L1:=tJ! f.ga;have L2':=tJ! f.gb;have L3:a3! (isInstance J0! (DE! RR!)) GM:=L0.andThen (gm! X f.hb);have L4:=tJ! f.ha;have L5:a3! (getOf JAt) JkY:=W.looks_specialIn X f.hn;have L6:a3! (dataDescriptor? JAt JkY) (re (Eu! fz!,JJk)):=(W.looks_takesIn X f.ht).andThen .now;have L7:a3! (find (EQ x) Sx! Ms!) (.bind (Eu! fz!) (Eu! "object.__class__")):=L4.andThen (L5.andThen (L6.andThen (W.Looks.tag .now)));unfold getAttr? getAttrBy? getAttrBy;show ZR (wpAny_mkText (ZR (JW (EO (ZR (L0.at (ZR (L1.at ?_))))))));have WD:CA! (onTheHeap (Ds! C)&&(JWX)):=A5! (show CA! JWX from by show Ab?) Bool.and_false
 show AE?;show C6? WD;unfold getAttrByItsOwn;show ZR (Ge! (jS! _ (Hb! typeLookup C JPG) _) (L2'.at ?_));show ZR (JW (EO ?_));unfold callGetattribute;rw[AD (p8! (¬(Ac! (false&&_))) yd! AQ)];unfold boundAndCalled;show AX? SH (K4! F.excAttr_ValueError.ga.bind x);show EY? (call (Eu! gn!) [Tl!,rc!]);show Q6! (JPI F.excAttr_ValueError.ga.plain F.entry_bexc_ga (@W.check_slot K1! _ _ _ gn! RR! XU! J0! [rc!] [] _ Jqm Jmk L3 (F.args_bexc_ga J0! (FB Ms! t)) ?_));unfold Builtin.«object.__getattribute__»;show JS? (slotArgs XU! 1 #[[Tl!,rc!],[]]) (Ds! x,[WS! Ms! t]);show AE?;show JS? (attrName (FB Ms! t)) (EB! Ms!);show S? L0.at (ZR (L7.at ?_));show AE?;unfold bindTo;show AE?;show ZR (EO (Q6! (Jgx (A:=A.in1) X hx f ?_)));show AZ?;show SH (a:=mW! C) (W.handedOut_of A!) ?_;show ZS h
def Jph(f:dP!):W.KitX K J0! Sx! (λh=>∃o,Br! KH! o/\o.cls=LN!) where
 ty:=λ_ _ _ #[o,h1,h2]=>h2▸(W.Looks.ld h1).andThen .now
 it:=λ_ _ X _=>by
  have#[cd,TZ]:=KZ.mp f.hc
  unfold W.clsIn at TZ
  split at TZ
  .rename_i c' d' cd' tS ho
   intro A' Q' E' s' k q
   unfold isType loadHead
   show ZR (z1! (AC k (AC X ho)) (ZS q))
  .cases TZ
 ne:=λh tp dd its n sl X htp=>by
  have#[cd,TZ]:=KZ.mp f.hc
  show XE! λq=>?_
  have e:C=tp:=Value.ref.inj (MO.mp q)
  subst e
  unfold W.clsIn at TZ
  split at TZ
  .rename_i c' d' cd' tS ho
   have z:=(X _ _ ho).symm.trans htp
   cases z
  .cases TZ
 ca:=λX I k=>Jl8 X I f k
open E
open S
inductive Ji1(K:W.Frag)(xs:C!)(H:Hp)(Q:VK):B!
 | mk a C c cv b (_:xs=[A2!,c]) (_:ED! c cv) (_:EM! (wC a C)) (_:dP!) (_:Wr! K (EQ C) cv=D! b) (_:La! b)
def Jmg{X:F!}:JLh Ji1:=by
 show a?;have#[a,C,c,cv,b,rfl,rc,ha,f,e,q]:=h;have#[u1,u2,rfl,r1,r2]:=r.two;cases r1;have:u2=cv:=by cases c with | ref p=>show Dg? | ty n=>show Dg? | FJ=>show Dg? | bl b=>show Dg? | int i=>show Dr? | str i=>show Dr? | XN i=>show Dr? | fW i=>show Dr?
 subst this;have#[o,vs,g1,g2,g3]:=sX! a ha;show JV (Jph f) DJ! #[o,g1,g2] e (JhI) JZ5
open E
open E Lake.FX
open N Lake.FX
open PySem PySem.Spec PyProof.Rows L2
def FY.no{P:Program}{w:World}{K:W.Frag}{mg:AC!}{base:Heap}{k:Nat}{f:Addr}{fd:FuncData}{ps:Z!}{sp:Sp}(F:JJi):FY P w K mg B3! YV k f fd ps (tf! sp) :=#[λvs H Q E q=>F.len vs H Q E0 q,JfI E0 (λr s' h=>by cases r with | ok fl=>cases fl<;>show h | error e=>have#[_,_,_,_,_,z,_]:=h;show NB!)]
open E Lake.FX
open N Lake.FX
open PySem L2
def Jr(h:W.mroIn K C b=D! r):JRD:=by have#[cd,a,_]:=yP!;rw[a];rfl
open E Lake.FX
open N Lake.FX
open PySem PySem.Spec PyProof.Rows L2
inductive W_(h:Heap)(it d:Addr)(i n ep:Nat):B!
 | mk (own ok ov:Value) (f:Bool) (_:(own=At\/∃a:Nat,own=KK! a)) (_:ZO! it { cls:=EC! Qz!,dict:=none,data:=Mc! #[ZZZ,own,Au! f,GC!,XV i 0,Sb! n,Sb! ep,ok,ov],slots:=Ep! })
abbrev f_(h:Heap)(a:Addr)(k v:Value):B!:=JR! (qy! (#[ZZZ,k,v]))
open S
variable {prog:Program}{w:World}{A:Around}{E:Value->Shared->Prop}{s:Shared}{it d:Addr}{i n ep:Nat}
def W_.ty(x:JF7):W1! K7! Qz!:=let#[_,_,_,_,_,e]:=x;U7!
def W_.to(x:W_ h it d i n ep)(k:∀o,K2! KH! it->o8! it):JF6:=let#[a,b,c,f,g,e]:=x;#[a,b,c,f,g,k _ e]
def Js9(h:Q (Cd! a) s):De! (loadIfAlive a):=λ_ _ _=>h
def Jm8(h:∀h' e,JPX Bn! bu! KP!->(Jku)->z6! e):De! (newExc (DE! KP!) []):=by
 have first:firstArgMember (DE! KP!) []=Er! At:=by unfold firstArgMember;cases (Manifest.find? KP!).elim Os λt=>JPY KP! || JPY "SystemExit" <;> rfl
 unfold newExc newTuple;rw[Q7!];show ZR (Jnt (ZR (ZS (Jnt (h _ _ lJ! (B4! (F6! (ZT _ e))))))))
def Jol(hw:JF7)(hQ:JWI JF6 k v JG0) :
 De! (Builtin.Dict_items.pairFromOwner K7! 6 k v):=by
 have#[own,ok,ov,f,ho,e0]:=hw
 have il:JPZ:=AU e0
 have zB:s.heap.objs.size≠it:=EY il
 obtain⟨h1,eh⟩:∃h1,h1=JjZ IS! ([k,v]:d!).toArray:=BR!
 have p1:f_ h1 sK k v:=ky! EP!
 have k1:JC5:=B4! (ky! N8!)
 have e1:=k1 it _ e0
 have fin:∀h2,W_ h2 it d i n ep->Heap.SameBut it h1 h2->lG! JPa:=λh2 x y =>
  hQ h2 x ((y.2 _ zB).trans p1) (DL! ((y.2 b hb).trans (HU! k1)))
 have free:Vh! (do
  let old:=[<-field K7! 6,<-field K7! (6+1)]
  JJs 6 k;setField K7! (6+1) v
  JpH 0 KK! sK;JpH 1 Au! Os
  letGo old [LO!]
  return LO!) Gv!:=by
  show ZR (Jq0 ok (ZR (Jq0 ov ?_)))
  show F9? e1 (λg2 q2 b2=>vO! q2 (λg3 q3 b3=>vO! q3 (λg4 q4 b4=>vO! q4 (λg5 q5 b5=>?_))))
  show ZR (XT! (ZS (AD! g5 #[_,_,_,_,j3! sK,q5] #[?_,Hh!])))
  .rw[b5.1,b4.1,b3.1,b2.1]
  .rw[Dm! b5.2,Dm! b4.2,Dm! b3.2,Dm! b2.2]
 unfold Builtin.Dict_items.pairFromOwner
 show S? gV! ?_
 rw[<-eh]
 show AW?
 unfold Builtin.Dict_items.ownedTupleIsFree
 show Iy? own
 rcases ho with rfl|⟨a,rfl⟩
 .show ZS free
 .show FX? (loadIfAlive (JJ6))
  show S? Js9 ?_
  cases ha:Md! JJ6 with
  | none=>show ZS free
  | some oa =>
    show Iy? (Au! f)
    cases f with
    | true=>show ZS (ZS (JMl h1 e1 zQ!))
    | false=>show ZR (DZ e1 Ch λg2 q2 b2=>ZS (ZS (JMl g2 q2 b2)))
def Jii(hv:su!)(hm:IB!)(hQ:∀h',JQi h' sK->(Jku)->JG0):JCe v:=by
 have#[o1,e1,c1,f1]:=id hv;have#[o2,e2,c2,f2]:=hm;show JJt hv.typeIs JPf (DB JPf hv.typeIs F.entry_dict_items_iter ?_ (F.args_dict_items_iter_1 _));unfold Builtin.«dict_items.__iter__» Builtin.Dict_items.dictOf Builtin.Dict_items.newIterator;show S? ZS (ZR (ZR (DC (x:=GC!) e1 f1 A! (ZS (ZR (ZR (DK e2 f2 (ZR (GY e2 f2 ?_)))))))));have own:BQ! Builtin.Dict_items.ownsTuple Qz!:=o0
 simp only[own,HX,DN,GA];show DA (ZS (JGB Qz! F.slot_dict_itemiterator_next.lookup ?_)) (by simp[sizeOk,Builtin.Dict_items.ownedTupleFields,CQ]);show hQ _ #[At,At,At,Os,H4!,(ZU _ rfl).trans (by simp[rawInt,Builtin.Dict_items.ownedTupleFields])] ZB!
def Jih{es:Dp!}{Q:Up!}(hw:JRc)(hm:IB!)(hi:gQ!)(hQ:JWI (JK3 h') es[i].key es[i].val JGo):d7!:=by
 show Mf?;show J0?
 unfold pyNext;show PG?;show NR?;simp only[iT,HX];show JZ?;show DJ?;show LC?;show AU?;show LM?;show AU?;show AZ?;show MB? PX;show S? ZR (JG ty (SN! (VS ty ?_)));show HP! (JpK _ (JLy 3 >>= _) _ _) ?_;show F9? e0 wj!;have w1:JK3 h1:=#[own,ok,ov,f,ho,by rw[show BM! ww=cr+1 by rfl];simpa [rawInt] using q1];have ty1:JPX Gv! K7! Qz!:=W_.ty (s:=Gv!) w1;show ZR (EO (ZR (VS ty1 (ZR (VS ty1 ?_)))));show Jol (s:=Gv!) w1 λh2 w2 p2 k2=>?_;have z1:h1.objs.size=s.heap.objs.size:=b1.1;dsimp only at p2 k2 ⊢;rw[z1] at p2 ⊢;show ZS (Bj! (ZS (hQ h2 w2 p2 (DL! (k2 b o hb (JNh e))))))
def Jlw{es:Dp!}{Q:Up!}(hh:Gf!)(hw:JRc)(hm:IB!)(hi:es.size<=i)(hQ:JJ8 JnN):d7!:=by
 show Mf?;show J0?
 unfold pyNext;show PG?;show NR?;simp only[iT,HX];show JZ?;show DJ?;show LC?;show AU?;show LM?;show AU?;show AZ?;show MB? RY;show S? ZR (JG ty (ZS ?_));show ZR (DZ (k:=2) e0 Ch wj!);show ZR (Jm8 λh2 x t2 k2=>wpAny_raiseNew_none hh (ZR (UE t2 isSubtype_stop (ZS (hQ h2 (DL! (k2 b o (JNh e))))))))
open E
abbrev ax(h:Heap)(it:Addr)(es:Dp!)(as:X!):B!:=∀(j:Nat)(a:Addr),as[j]?=D! a->it<a/\∃e:DictEntry,es[j]?=D! e/\f_ h a e.key e.val
def ax.to(x:JHM)(k:JhW (it<b) Hj!):lv! h' :=λj a e=>let#[l,d,e1,e2]:=x j a e;#[l,d,e1,k a _ l e2]
def ax.more(x:JHM)(hi:JPp)(l:it<a)(p:f_ h a es[as.length].key es[as.length].val):ax h it es (bQ!):=λj b e=>by rcases Nat.lt_trichotomy j as.length with hj|hj|hj;(.rw[GJ hj] at e;show x j b e);(.subst hj;(have e':a=b:=PY!);subst e';show#[l,_,by simp[hi],p]);.show Bh? (DY (by simp;assumption))
open S
def Vn(hh:Gf!)(l1:S<it)(n1:d≠S)(n2:d≠it)(hz:JPs)(res:Value) : ∀(k:Nat)(s:Shared)(as:X!)(c:Nat),as.length+k=es.size->W_ xz it d as.length M7! ep->IB!->w! Cd! S (XL! Eo! (BW! Ds!).toArray c)->lv! xz->as.Nodup -> JbR (JNM (b≠S) (b≠it)) (ax h' it es OZ) (R (.ok (.ret res)) Bn!) (fC! (Eu! "list.extend.loop" #[[SB S,SB it,res],[]]))
 | 0,s,as,c,hk,iw,rd,hS,ps,nd,q=>by show Kq?;rw[OU HY _];show(GA! (On! pyNext it) (Jlw hh iw rd ((BQ hk.symm)) λh' kp=>ZS (q h' as c x7! nd (λb o _ hb e=>kp b o hb e) (kp S _ (BU l1) hS) (ps.to (DL! (ct! (EY hb)))))))
 | k+1,s,as,c,hk,iw,rd,hS,ps,nd,q=>by have hi:JPp:=AH K3! (BQ hk);have al:JPZ:=let#[_,_,_,_,_,e]:=iw;Bk!;show Kq?;rw[OU HY _];show GA! (On! pyNext it) (Jih iw rd hi λh1 iw1 p1 k1=>?_);have qO:=k1 S _ (BU l1) hS;(have sz:gb! (BW! Ds!).toArray.size:=Sc);show GA! (tS! gp!) (gq! qO A! JCX (l! sz (AA K3! (hk▸hz))) (by rw[Array.size_push,sz];lia));have up:JPh (h1.update S (RH! gp!)).get?:=DL! ((CC _ _ (JE! hb)).trans e);show Vn hh l1 n1 n2 hz res k (Mq! (h1.update S (RH! gp!))) (as++[s.heap.objs.size]) (c+1) (by simp;lia) (aS! ZE iw1.to (λo e=>up it o (EY l1) e)) (rd.at λo e=>up d o n1 (k1 d o n2 e)) ?_ ?_ ?_ (JP6 (q h' OZ c' a1 a0 (λb o hb hc e=>a2 b o hb hc (up b o hb (k1 b o hc e))) a3 a4));(.show(NU qO _).trans ?_;simp[seqObj]);(.show ax.more (ps.to (DL! (up b o (EY (OH l1 hb)) (k1 b o (EY hb) e)))) hi al (up _ _ (EY (OH l1 al)) p1));.show KV! #[nd,Sc,λa ha b hb z=>?_];(have e:b=s.heap.objs.size:=by simpa using hb);have#[j,hj]:=KW! ha;have#[_,_,_,e2]:=ps j a hj;show HV! AU e2 (by rw[z,e];show EH _)
open E
open S
def Yw(hh:Gf!)(hv:su!)(hm:IB!)(hz:JPs)(h:∀h' as it,JK2->as.Nodup->s.heap.objs.size<=it->mb!->lv! h'->R (BW! Ds!) Bn!) : No! (model DC! w) A (K4! collect v) R E:=by
 have lv:v<s.heap.objs.size:=let#[_,e,_]:=hv;Bk!;have ld:d<s.heap.objs.size:=let#[_,e,_]:=hm;Bk!;unfold collect;show S? wpAny_runValue (PQ PySem.F.entry_proto_collect ?_);rw[OU PySem.F.plain_proto_collect _];show GA! (newList []) (DA (ZS #[JP1 JQC _,PQ PySem.F.entry_list_iadd ?_]) jo!);rw[OU JQC _];generalize vA:uP! JlC=h0;have gS:w! h0.get? sK (lP! 0):=AY! vA EP!
 have k0:jA! (Fx! h0.get?):=B4! (AY! vA N8!)
 have uW:h0.IsItemsView v d:=let#[o,e,r]:=hv;#[o,k0 v o e,r];have hm0:iZ! h0:=hm.at λo e=>k0 d o e;have z0:h0.objs.size=JJ!:=ZY! vA KW
 have low:jA! JOe:=B4! Bk!;obtain⟨S,hS⟩:∃S:Addr,S=s.heap.objs.size:=BR!;rw[<-hS] at gS z0 lv ld low ⊢;have lS:S<h0.objs.size:=S! z0 (Q_ _)
 show HP! (jS! K1! (JBe S Ue! (EQ S)) gr!) ?_;have fin:∀(R':b7!),JbR mb! JYF (R' (.ok (K4! .ret S)) Bn!) (∀h1 c1,JQi h1 h0.objs.size->iZ! h1->w! Md! S (lP! c1)->(JC5)->Mp! K1! A JZg R' Gv!):=λR' q h1 c1 a1 a2 a3 a4 =>Vn hh lS (BU ld) (BU (OH ld lS)) hz _ M7! Gv! [] c1 Ch a1 a2 (by simpa using a3) (λj a e=>bk!) DV λh' OZ c' q1 q0 q2 q3 q4=>q h' OZ c' q1 q0 (B4! (q2 b o JFJ (BU (OH (HU! low) lS)) (HU! a4))) q3 q4;show Kh?;show ZR (W5! (T:=XQ!) (Heap.IsItemsView.typeIs (s:=gr!) uW) ?_);have n1:A9! (Builtin.List.listSameRef (EQ S) Ue!):=by simp[Builtin.List.listSameRef,EY lv]
 have n2:JPT Eo!:=o0
 have n3:JPT IQ!:=o0
 simp only[n1,n2,n3,Bool.or_false,DN,GA];show ZR (Jii (s:=gr!) uW hm0 λh1 iw k1=>?_);show S? EO (W.kdx_hint (s:=Gv!) (let#[o,e,c,_]:=uW;#[o,k1 v o e,c]) ?_);have qQ:=P! k1 gS;have loop:∀h2 c2,(JPh h2.get?)->w! h2.get? S (lP! c2) -> Mp! K1! A JZg (λq s'=>LW λh' OZ c'=>q=.ok (.ret (.ref S))/\s'=Bn!/\OZ.length=es.size/\OZ.Nodup/\mb!/\w! Me! S (j9! OZ.map Ds! c')/\JYF) JPa:=λh2 c2 k2 g2 =>AD! _ (JP6 #[h',OZ,c',A!,A!,a1,a0,a2,a3,a4]) h2 c2 (iw.to λo e=>k2 _ o (EY lS) e) (hm0.at λo e=>k2 d o (BU ld) (k1 d o e)) g2 (B4! (k2 b o JFJ (k1 b o (HU! k0))));show wpAny_ite_split (OW!) (λ_=>ZS #[JP1 HY _,?_]);.show S? VH (GA! (tS! (·.push .none) >>= λ_=>tS! (·.pop)) (ZR (gq! qQ A! (gq! (NU qQ _) A! JCX ?_ ?_) ?_ ?_)));(.show JO (loop _ _ (Se! (dU! (dU! e))) (NU (NU qQ _) _)) λq s' y=>?_;show Kj?;show Ms?;show JfJ);all_goals (simp[seqObj,CQ])
 .show JO (loop h1 0 (λb o _ e=>e) qQ) λq s' y=>?_;show Kj?;show Ms?;show JfJ
open E
open S
def Jil{vs:d!}{ns:i!}(p:QA!):ItemsAre JIM ns vs:=JaG (intKind_is DC! w n t)
def Ji7(x:JLG)(y:p9!):IsTupleKey JIM h ns a :=let#[o,ho,hc,n,hd]:=x;#[o,At!,n,ho,hc,hd,Jil y]
inductive PM(h:Heap)(a:Addr)(q:i!×Int):B!
 | mk ka its t (_:f_ h a (EQ ka) (XV PP t)) (_:JXW) (_:W2! ft! O!)
def PM.to(k:JCK UM!)(x:PM h a q):PM h' a q :=let#[ka,its,t,e1,#[o,ho,hc,r],e3]:=x;#[ka,At!,t,FM k e1 A!,#[o,k ka o ho hc,hc,r],e3]
def Jrt(hu:W3!)(x:cy! PM p)(y:ON! PM b q)(same:g!=O!->wP=PP)(h:C (RN! g! O!) s) : JpK A (keyLt' (tuples' Os) Bw! OX!) C Jhh:=by
 have#[ka,its,t,e1,e2,e3]:=x;have#[kb,gY,u,f1,f2,f3]:=y;show W.kat_lt e1 A! f1 A! (gY! (wpAny_eqBool_tuple hu (Ji7 e2 e3) (Ji7 f2 f3) (gZ! (λe=>ga! (gY! (fW! (gZ! (λ_=>ga! (gX! ?_)) Cx!)))) λe=>W.kat_no (AC W.kat_one (HT.YK e2 f2 e3 f3 hu h)))));.have e:=BI e;rw[e,So] at h;show h
 .rw[same (BI e)] at z;simp at z
abbrev Mx(h:Heap):by! yO!:=Ma! (PM h)
def Jcz{as:X!}{L:yO!}(p:Mx h as L):Jev (λka its=>v=mW! ka/\JXW):=by induction p with | nil=>show M6? | cons r _ ih =>have#[ka,its,t,e1,e2,e3]:=r;have#[fs,a1,a2,a3]:=ih;show N5? (SB ka) e1 A! A! A!;rcases ZM hv with rfl|hv;(.show#[ka,At!,A!,e2]);.show a3 v hv
def Jay(x:Mx h as L)(hi:gc!):G_ λa q=>as[i]?=D! a/\L[i]?=D! q/\Ji4 i At=A2!/\l9!=O!/\PM h a q:=by
 show A6? x;have#[a,ha]:=iW! as hi;have#[q,hq]:=dB! L (hl▸hi);show#[a,q,ha,hq,?_,?_,Bf x i a q ha hq];.rw[JS,ZH,ha];rfl
 .rw[JS,ZH,hq];rfl
def Jf9(hu:W3!)(ho:JSj)(UW:as.length<64)(x:ON! Mx as L)(nd:oh!)(h:JZj OU! OU!) : vg!:=by
 show A6? x;have cN:gb! dm!:=UP!;have key:∀i,gc!->∃h:i<(CM! be).length,JsH ((CM! be)[i]):=λi hi=>#[Jk!,JlW gs!];have one:∀i j,gc!->j<as.length->l9!=OU! j []->i=j:=λi j hi hj e=>by have#[l1,e1]:=UV i hi;have#[l2,e2]:=UV j hj;rw[e1,e2] at e;show(MW nd).mp e
 show Ph? (λi j=>RN! (OU! i []) (OU! j [])) (λz=>UU (one i j (by show cN▸hi) (by show cN▸hj) z));have x':Mx h' as L:=Ax (λb q y=>y.to λb o e c=>ct! (λz=>by rw[z,ho] at e;cases e;show HM! (show Jae from c) Op)) x;have#[fs,f1,f2,f3]:=Jcz x';show QA? Za! (l! f2 (cN▸(AV h2))) (λi j hi hj C hC=>?_);.have#[ka,its,rfl,o,e,c,_]:=f3 v hv;have z:W.Looks K1! h' (K4! typeOf ka) o.cls:=(W.Looks.ld e).andThen .now;rw[c] at z;show z
 .rw[cN] at hi hj;have#[a1,q1,g1,g2,g3,g4,g5]:=Jay x' hi;have#[a2,q2,k1,k2,k3,k4,k5]:=Jay x' hj;unfold W.kas_ask;rw[g3,k3];dsimp only at hC;rw[g4,k4] at hC;show Jrt (s:=Bn!) hu g5 k5 ma! hC;have e:=one i j hi hj (by rw[g4,k4,z]);subst e;rw[g2] at k2;cases k2;rfl
open E
abbrev lay(H:Hp):kz!->Hp
 | []=>H
 | p::r=>cL! rI! g! wP
def xb:JKD (b∉yT!) (lay H ps b=H b)
 | [],_=>rfl
 | p::r,h=>by have h1:b≠g!:=JDy EF!;change(upd rI! g! (ii wP)) b=_;rw[Ad h1];show xb (cN! h)
def Jj1:JKD za! (∀p∈ps,lay H ps g!=D! qU!)
 | [],_,p,hp=>R8! hp
 | q::r,nd,p,hp=>by show AS?;show DQ?;(.show Ab);.have ne:g!≠O!:=qP! #[p,hp,z];change(upd rI! O! (ii PP)) g!=_;rw[Ad ne];show Jj1 OJ.2 p hp
open S
abbrev Jx2(X:F!)(AB:Db)(a:Addr):B!:=JKO/\JOo/\(JCD)/\TU! (g!≠a)
def Qah(I:H!)(h:Qs!):Jx2 X AB a :=let x:=I.UB (H':=Q5!) h A!;#[xj! (AA I.sz h),LQ!,x.2.2.2.2.1,x.2.2.2.2.2]
def Jj4:∀{ps:kz!},H!->za!->(∀p∈ps,Jx2 X AB g!/\BJ! g!/\∀H',iO! H' g! qU!)->n8! do!
 | [],I,_,_=>I
 | p::r,I,nd,h=>by show AS?;have#[#[a1,a2,a3,a4],a5,a6]:=C7! p;show Jba (Jj4 I OJ.2 JRj) (l! (xb OJ.1) a5) a1 a2 a3 a4 (a6 _)
open E
inductive RecAt(H:Hp)(a:Addr)(q:Dz!):B!
 | mk ka (_:jb! ri!) (_:l0!)
def Jvh{P:Program}{w:World}{H:Hp}{h1:Heap}{n:Nat}{as:X!}{L:R!}(p:Jea (n<=a)) : ∃ps:kz!,yT!=as/\(∀p∈ps,n<=g!/\∀H',EN P w H' h1 g! qU!)/\LL! (λp q=>∃ka,wP=ri!/\l0!) ps L:=by induction p with | nil=>show#[[],A!,Dv! (by(cases hp)),U!] | @cons a q _ _ r _ ih =>have#[la,ka,t,e1,e2]:=r;have#[ps,b1,b2,b3]:=ih;show#[(a,ri!)::ps,A5! AO b1,EU!,Lq! #[ka,A!,e2] b3];show DQ?;(.show#[la,λH'=>JOy (by change DM! 2;rw[CQ];show LT!) [SB ka,TB! PP] A! P2! e1]);.show b2 p hp
open S
variable {X:Cx Kx}
inductive N3(xs:C!)(H:Hp)(Q:VK):B!
 | mk v d (L rs:R!) (_:xs=[SB v]) (_:Bq! v (rT v d)) (_:Cn! d Dp L) (_:L.length<64) (_:rs.Perm L) (_:FQ!) (_:∀(r:Addr)(as:X!)(H':Hp),db->aT!->JK! r FF!->JI2->YQ! r)
def Px(hc:BY!)(hu:VK!):Vc! N3:=by
 show CQ?;have#[v,d,L,rs,rfl,hv,hd,UW,pm,pw,q]:=h;show Fz?;show J?;show G4? (Dp L);have vw:su!:=sX! v hv;have hes:es.size=ys.length:=LZ g4;have hyl:ys.length=L.length:=by have:=Tt!;show Bl?;show gt!
 have ent:∀(j:Nat)(e:DictEntry)(q:Dz!),es[j]?=D! e->L[j]?=D! q->G_ λka t=>e.key=SB ka/\e.val=TB! PP/\l0!:=λj e q h1 h2=>by rw[entry_at g4 j] at h1;cases hy:ys[j]? with | none=>rw[hy] at h1;cases h1 | some y =>rw[hy] at h1;cases h1;have#[r1,r2,r3]:=Bf rel j kC! y (T7! h2) hy;have#[t,r3]:=r3;show#[y.2.1,t,A!,r3,r2]
 have ndL:oh!:=(NC! be).nodup_iff.mp (JQh (wk!) pw);show v4! (by show D6?;show GA! (checkCount "sorted" 1 1 _) (SN! (Yw (HP! _ (I.ok.hd hc)) vw vX! (by rw[hes,hyl,CQ];show lM!) λh1 as it hl qB hit kp prs=>?_));show CZ? JQj (I.kept kp);(have eC:JMN:=Q!);(have fct:Jea Qs!:=Fi eC λj a q e1 e2=>by have#[la,e,e3,e4]:=prs j a e1;have#[ka,t,k1,k2,k3]:=ent j e q e3 e2;rw[k1,k2] at e4;show#[AV (AH hit la),ka,t,e4,k3]);have#[ps,b1,b2,b3]:=As! Jvh P FU! w X.w fct;have cM:∀a,Qs!->L9!:=ND! (Qu! ha);have I2:DY! do! JQj:=Jj4 I1 JO8 (Dv! #[Qah I (b2 p hp).1,JOr,(b2 p hp).2]);(have sm:Cp! do!:=XJ! (by rw[xb (Cx!)];(.show e);.have#[p,hp,rfl]:=ZN z;rw[JOr] at e;cases e));(have yS:Be! (RecAt (lay H ps)) as L:=by rw[<-b1];show Fi (Cw! (Bf! b3)) wl!;show X? ZH;cases hp:ps[j]? with | none=>show X? hp;cases e1 | some p =>show X? hp;cases e1;have#[ka,k1,k2]:=Bf b3 j p q hp e2;show#[ka,A5! (Jj1 JO8 p (ZP hp)) k1,P! sm k2]);(have yV:JTk h1:=Fi (Cw! eC) λj a q e1 e2=>by rw[ZH] at e2;cases hq:L[j]? with | none=>rw[hq] at e2;cases e2 | some q0 =>rw[hq] at e2;cases e2;have#[_,ka,t,k1,k2]:=Bf fct j a q0 e1 hq;have#[its,rv,it2,_]:=I1.tuple (DQ! k2);show#[ka,CJ!,t,k1,it2,SQ! (intsAre_of (ns:=[q0.1.1,q0.1.2]) rv)]);(have eK:SW! CM! kL!=CM! λq=>JNq:=Li!);(have ndK:zd! CM! kL!:=by (have e:(CM! λq=>([q.1.1,q.1.2]:i!))=lR! JlN:=Li!);rw[eK,e];show JUV (by have#[a1,a2]:=a;have#[c1,c2]:=b;simp at z;rw[Ah!,z.2]) ndL);show Ly?;show Nh?;have yU:JTk JoA:=Ax (λa q y=>y.to λb o e _=>N8!) yV;show Ja? (Jf9 (o5! (yr!<cLine)) g1 V! yU ndK wb!);show GB?;have fK:lay H ps Gr!=none:=JmR;show Op?;(have eR:x2! p.map=rs:=by show Nl (lt:=λa b:T2×Int=>LI a.1 b.1) (λa z=>by rw[F8] at z;lia) (λa b h1 h2=>by rw[F8] at h1 h2;lia) ?_ ?_ (Bz! (HH (f:=HX!) (R:=LI)) pw);(·(have e2:x2! JGr=L:=by show QA λj=>?_;rw[ZH];by_cases hj:XN!;(.rw[show JFM by simp[eC,hj]];simp[hj]);.rw[show JsQ by simp[eC];show IV! Am!,DY (Jix IV!)];rfl);have e7:=pp.map λi=>L.getD i (Tx!,0);rw[e2] at e7;show e7.trans pm.symm);.rw[HH];show List.Pairwise.imp_of_mem (λ{i j} hi hj z=>?_) po;have li:=inr i hi;have lj:=inr j hj;rw[eK] at z;simpa [LI,SV! gs!,SV! XN!] using z);(have eV:JdL:=JaS);(have yR:JkH (IR do! Gr! (JB! (p.map jN!).map)) JH1:=by rw[<-eR];show Fi (by rw[ZA,ZA]) wl!;rw[ZH] at e1 e2;cases hp:p[j]? with | none=>show X? hp;cases e1 | some i =>rw[hp] at e1 e2;cases e1;cases e2;have li:=inr i (ZP hp);have#[ka,k1,k2]:=Bf yS i JCy (L.getD i (Tx!,0)) (by simp[li]) (by simp[SV! gs!]);show#[ka,V8! fK k1,V8! fK k2]);show GE? (ZX! I2.laid Gr! (JBF jN! DN!) Es! (JcI) Bh! (JbK (Qe _))) (q _ JH1 _ (Ai sm (Aj fK)) hn Ab yR);(.show NP?;lia);.rw[<-eV];show e)
open E
def Vi(f:α->β):∀(xs:T!)(j:Nat),(Cb! f).eraseIdx j=JoK f
 | [],_=>rfl
 | _::_,0=>rfl
 | x::xs,j+1=>aH! (f x :: ·) (Vi f xs j)
open S
variable {prog:Program}{w:World}{K:Type}[DecidableEq K]{knd:HeapKind prog w K}{A:Around}{E:Value->Shared->Prop}{s:Shared}
def Jb6{d a:Addr}{xs:Ht!}{k:K}{p:fa!}{j:Nat}{Q:HF! (Ku! DictEntry)}(hu:eY!)(aU:fB!)(hm:e2!)(hz:IK!)(hj:JQ5)(hQ:JeD (Q (re (Qn! knd (k,p))) JtR)) : De! (Builtin.Dict.takeOut d Bw!):=by
 have#[o,es,ep,ho,hc,hd,he,his,hn]:=hm;unfold Builtin.Dict.takeOut;show EO (ZR (knd.pyHash hu aU (ZR (JQ3 (s:=mt!) hu aU ho hd he his hn (λno=>DF! hj (no j p)) λi q hi=>?_))));obtain rfl:=idxH_unique hn hi hj;rw[hj] at hi;cases hi;show ZR (DK (s:=mt!) ho hd ?_);rw[entry_at he i,hj];show ZR (JQ4 (hz:=S! (LZ he) hz) (s:=mt!) ho hd (ZS (hQ _ _ _ _ (ET _ ho (P_ (IQ hd _))) (hc.mapDictKeys _) (IQ hd _) ?_ is!)));have e1:(es.eraseIdxIfInBounds i).toList=es.toList.eraseIdx i:=Sc
 rw[e1,he];show P! Vi _
def Jn7{d a:Addr}{xs:Ht!}{k:K}{p:fa!}{j:Nat}{Q:zC!}(hu:eY!)(aU:fB!)(hm:e2!)(hz:IK!)(hj:JQ5)(hQ:JeD (Q (.done (.ret wP)) JtR)) : De! (Builtin.«dict.pop» #[[GC!,A2!],[]]):=by
 have ty:=hm.typeIs;have#[o,es,ep,ho,hc,hd,he,his,hn]:=id hm;have ne:es.isEmpty=false:=by have h1:=LZ he;have h2:Mx!:=BP! hj;cases h3:es.isEmpty with | false=>rfl | true=>rw[MY] at h3;lia
 unfold Builtin.«dict.pop» Builtin.Dict.keyAndDefault;show S? ZR (KC ty (ZS ?_));show AE?;rw[AD (show ¬(keyPart (Ds! a)).isSome=true from AQ)];show ZR (DK ho hd (ZR (ZS ?_)));show C6? ne;show ZR (Jb6 hu aU hm hz hj λh' o' g7 g8 a1 a2 a3 a4 a5=>?_);show ZR (XT! (ZS (hQ h' o' g7 g8 a1 a2 a3 a4 a5)))
open E
open S
variable {κ:Type}[DecidableEq κ]
def W8:∀{kvs:A7!} {k:κ} {v:V} {j:Nat},EH! FY!->JEw->D6 z! k=kvs.eraseIdx j
 | [],_,_,j,_,h=>B1!
 | p::r,k,v,0,nd,h=>by show Aj? (p=(k,v));show AS?;rw[Jmb (by rw[h]),W9 (by rw[h] at OJ;show OJ.1)];rfl
 | p::r,k,v,j+1,nd,h=>by show Aj? (Dc! (r[j]?) k v);show AS?;have ne:¬Sq!:=qP! #[(k,v),ZP h,KX!];rw[Jbs ne,W8 OJ.2 h];rfl
def Ji5:∀{kvs:A7!} {k:κ} {v:V},VA!->∃j:Nat,JEw
 | [],k,v,h=>GQ!
 | p::r,k,v,h=>by show Al?;(.rw[Oc e] at h;show#[0,by rw[<-e,<-ZO h];rfl]);.rw[Od e] at h;have#[j,hj]:=Ji5 h;show#[j+1,by simpa using hj]
open E
open S
variable {X:Cx Kx}{AB:List (Addr×Obj)}{σ:L2.St}{H:Hp}{s:Shared}{A:Around}{E:Value->Shared->Prop}{a b:Addr}
def Jga{kvs:Ag!}{xs:IH!}(p:Ju!):QE! Cb! FY!:=eK! wm r.1.symm
def Jvx{kvs:Ag!}{k:F4!}{v:V}{Q:KE}(hu:J7!)(I:H!)(e:P9!)(eb:Pf!)(l:VA!)(h:JHV (DY! (S0! a ke!) s')):JFt [A2!,Cs!]:=by
 show Hx?;show Eq? IK! Tt!
 have#[j,hj]:=Ji5 l;have hjx:Mx!:=Jg6 Tt! hj
 have#[x,hx]:=Aw hjx;have#[r1,r2,r3]:=Bf rel j _ _ hj hx;have#[k',p]:=x;have r1:k=k':=r1;subst r1;show Bw? FY! (by have#[_,_,_,_,_,_,_,_,nd]:=id dd;rw[<-Jga rel];show nd)
 have cI:EH! JoK:=by rw[<-Vi,Jga rel];show nd.sublist (Ab! List.eraseIdx_sublist)
 show DB MF IZ! JB8 (Jn7 (HD hu) mM! dd hz hx λh' o es ep a1 a2 a3 a4 a5=>Bj! (FM h ?_ r3)) (Ab! JB2);rw[W8 nd hj];show Lk? a5 #[o,a1] #[?_,hd,xs.eraseIdx j,KT.keeps (Jc0 j rel) m2!,o,es,ep,a1,a2,a3,a4,cI];.show AA (ye! List.length_eraseIdx) z
 .show Kb?;show ec
abbrev Jt7(td ty:TE):TE:=vk! (V_ λkvs k v b=>Np! H2 a BA! z!/\PP!/\Nn! H2 (ii (k.map kV))/\VA!/\JRH BA!)
def Km(hu:GY!)(ho:IE!)(he:VD!)(m:JM3):JMT Jt7:=by show P?;show LX?;show CM?;subst ex;show z?;show De?;show DU?;rw[RE!];show DN? (λiv s2 #[y,H2,I2,ry,kvs,k,v,b,ea,ey,eb,l,q2]=>U9!);subst ey;obtain rfl:iv=Ds! b:=ry;show Jvx hu I2 ea eb l JMr
open E
abbrev Kb(l:L2!)(a:Addr)(h:E!):L2!:=FS λq=>JqN
def T9(l:L2!)(a:Addr)(h:E!):JUS JUA:=by
 unfold Kb;rw[AZ];show Bp?;change JKY=WP;by_cases e:WP=a;.rw[AF e];show BB!
 .rw[AD e]
def Jni(l:L2!)(a:Addr)(h:E!):JUA (J4!)=FS J4!:=by
 unfold Kb;rw[AZ];show Bp?;change(tk (JqN).1,AK! JKY)=_;by_cases e:WP=a;.rw[AF e,<-e]
 .rw[AD e]
def Jo8(m:q∈Kb l a h):(∃q0∈l,q0.2.1=a/\q=(q0.1,a,h))\/(NE!/\WP≠a):=by
 unfold Kb at m;have#[q0,h0,e]:=Ee!;by_cases e1:q0.2.1=a;.rw[AF e1] at e;show W! #[q0,h0,e1,BB!]
 .rw[AD e1] at e;rw[<-e];show r? h0 e1
open S
def BF.ZX(x:KM)(hq:gv!)(l:E!):JIZ WP JSH:=by
 have#[_,_,_,d1]:=x.aF;have#[n1,n2,n3,n4]:=d1 q hq;have mem:WP∈CS!:=by unfold BX;show sx!
 have np:=x.SR mem;show AF?;show RC? n1.symm n2.symm ?_ (k3! n4.symm) H2! ?_;.rw[Ad n3.symm];change Bq! Aj! (BA! ((Kb Ax! WP l).map J4!));rw[Jni];show x.dl
 .rcases Jo8 hr with⟨q0,_,e1,e2⟩|⟨h1,h2⟩;(.rw[e2];show Ab);.rw[Ad h2];show x.hl r h1
 ·(have e2:WH! JSH:=by unfold BX;rw[T9]);rw[e2];show AV!
open E
abbrev Cb(l:E!)(t:T2):E!:=if Ig! then l else l++[t]
abbrev Jq(l:E!)(t:T2):E!:=D0! JBl
def Jl6(l:E!)(t:T2):JNV (Zc! (q=t)) t:=by
 by_cases h:Ig!;.rw[AF h];cases e:JjH (q=t) with | none=>show I? (BP.mp e t h) Ch | some u =>have:=EX e;(have:u=t:=by show AP?);show M?
 .rw[AD h];show XO! (Fb! (by have:¬u=t:=λz=>h (z▸hu);show AP?))
def Md(l:E!)(t:T2):JNV (Ck (FS Hk!) (tk t)) kJ!:=by
 rw[Er (k:=gw!) (f:=Tf!),Jl6];by_cases h:Ig!;.rw[Ed!,Ed!];rfl
 .rw[FO!,FO!];rfl
def Gb(l:E!)(t:T2):JKP (JKh Hk! V.bl GM) Cb t:=by
 unfold Cb;by_cases h:Ig!;.rw[AF h];unfold putK;rw[Oe,Md,Ed!,AF (RQ! ((re (V.bl GM)).isSome=true)),AZ];show Bp?;change(if tk q=tk t then JjW else JjW)=_;by_cases e:tk q=tk t;(.rw[AF e]);.rw[AD e]
 .rw[FO!,Ce! Ml k gw! f Tf! _ (wm! z hq),ZF];rfl
def Lj(l:T!)(k:CG!)(f:FP!)(t:T2):uG! FS ji! t D0! (Kt! (k q≠t)) ji!:=by
 unfold D6;rw[SN];congr 1;show LP λq _=>?_;change Go (po!≠tk t)=Go (k q≠t);by_cases e:k q=t;.rw[e];simp
 .have e2:¬po!=tk t:=JB3;simp[e,e2]
abbrev Bm(l:R!)(t:T2)(v:Int):R!:=JsO (FS λq=>JjX) (l++Eb! t)
def E3(l:R!)(t:T2)(v:Int):JKh FR! AU! v=(Bm l t v).map FR!:=by
 show K3?;.rw[AF h];unfold putK;(have e1:((FS FR!).any λkv=>N9! Gg! tk t)=true:=by show BS? Ja!;show KA.mpr #[kC!,Ps!,bl!]);rw[e1,Aq!,AZ,AZ];show Bp?;change(if Nt!=tk t then(Nt!,AO! v) else kC!)=(tk JGZ,AO! (JjX).2);show AI?;(.rw[AF e,AF (by rw[e])]);.rw[AD e,AD JB3]
 .rw[FO!,Ce! Ml k HX! f GL! _ JOC,ZF];rfl
open S
open E
abbrev isT (H:Hp) (tb:T2):IJ!->A8!
 | .ref a=>@decide (EM! (ii (tv tb))) (Classical.propDecidable _)
 | _=>false
open S
open E
open S
variable {prog:Program}{w:World}{A:Around}{R:Result->Shared->Prop}{s:Shared}{l:Addr}{items:Array Value}{n:Nat}{x:Value}
open E
open S
open E
open S
open E
open S
open E
def Jw6:YK! Ih! KY!:=ZV
abbrev Fc(c:Int)(d:Addr):EX!:=dM! KY! d (As Ih! (Az! c) [])
def O5(c:Int)(d:Addr):Fc c d=([(Ih!,AO! c),(KY!,AK! d)]:EX!):=by grind [As,V,Jw6,Fc]
def F6(c:Int)(d:Addr):Z3! (Fc c d).lookup Ih! (Az! c):=by unfold Fc;rw[Bj,AD Jw6,Bj,Aq!]
def Fm(c:Int)(d:Addr):w! (Fc c d).lookup (EB! KY!) (EQ d):=by unfold Fc;rw[Bj,Aq!]
def Dx(c:Int)(d:Addr){m:Str}(h1:¬m=KY!)(h2:¬m=Ih!):TX! (Fc c d).lookup:=by unfold Fc;rw[Bj,AD h1,Bj,AD h2];all_goals rfl
def Jle(c y:Int)(d:Addr):As Ih! (Az! y) (Fc c d)=Fc y d:=by grind [O5,V,As,Fc]
abbrev kvsOf(ls:k!):BU!:=Ew! λl=>(SD! AB!,AK! l.2)
structure JX(C:Addr)(H:Hp)(p d:Addr)(c:Int)(ls:k!):B! where
 ob:nB! (Yd! (Fc c d))
 dc:OI! pM!
 le:Ii! (AB!<=c)
 nd:EH! Ew!
def JX.keep(x:JHg)(h1:∀o,JP! o->cZ! H')(h2:∀o,OI! o->K2! H' d):JX C H' p d c ls :=#[Jo! (h1 _ e),h2 _ x.dc,x.le,AV!]
def JX.ne(x:JHg):RU!:=by show AF?;show JpJ e x.dc
def Pd(ls:k!):A1! Fg! ls=ls.length:=UP!
def Pc:uO! Fg! ls=(ls.find? nE!).map λl=>AK! l.2:=by
 unfold Ck kvsOf;show Cq? ge!;congr 1;congr 1;funext l;change N9! (SY! AB!) Bm! n=Go (AB!=n);by_cases e:AB!=n;.rw[e];simp
 show I9?
def Jvj(h:th!):uO! Fg! ls=none:=r9! JKt
def Jgn{l1 l2:k!}{n:Int}{t:Addr}(nd:JDz):Dc! ((JjN).find? (nE!)) n t:=by
 rw[ZF,AO] at nd;have h:wo!:=XW! (nv! (lg! AB! (BK hl) n HL!) (this e))
 rw[JRm];have e1:l1.find? (nE!)=none:=Ox! (Fh! JKt)
 rw[e1];simp
def Jgr(nd:JDz):D6 (Fg! Jrk) (Bm! n)=Fg! (RV!):=by
 rw[ZF,AO] at nd;have h1:wo!:=XW! (lg! AB! (BK hl) n (EF!) e);have h2:∀l∈l2,¬AB!=n:=XW! ((IY! sD!).1 (by have m:=BK (f:=λx:Int×Addr=>BZ!) hl;rw[e] at m;show m));have all:∀ls:k!,(Ii! (¬AB!=n))->D6 (Fg! ls) dA!=Fg! ls:=λls h=>by show W9 Th!;unfold kvsOf at m;rw[AZ] at m;have#[l,hl,e]:=Ee!;show h l hl (XV! e)
 unfold kvsOf;rw[ZF,AO,ZF];unfold D6;rw[LB,E_];have e0:kp! (((SD! (n,t).1,AK! (n,t).2):Key×V).1≠U5!):=Sc
 rw[e0];have a1:=all l1 h1;have a2:=all l2 h2;unfold D6 kvsOf at a1 a2;rw[a1,a2];rfl
def xa(h:th!):JqH ls dA! t (ls++[(n,t)]):=JUc (Jvj h)
structure EL where
 share:GE
 hs:G!
 po:G!
 iq:G!
 fi:G!
 en:G!
 pd:G!
 c:GE
 ls:k!
 qs:j!
 NO:k!
 IB:k!
 GV:k!
def J0:YK! D1! Ck!:=ZV
def N7:zM! Ck!:=ZV
def M9:zM! D1!:=ZV
def Q6:oZ! Ck!:=ZV
def N8:oZ! D1!:=ZV
def Td:oZ! Bo!:=ZV
def Na:b9! Ck!:=ZV
def J7:b9! D1!:=ZV
def N9:b9! Bo!:=ZV
def Q7:b9! Ij!:=ZV
def Q8:Ur! Ck!:=ZV
def Oa:Ur! D1!:=ZV
def Tf:Ur! Bo!:=ZV
def Jaf:Ur! Ij!:=ZV
def Q9:Ur! Ik!:=ZV
abbrev Fb(W:EL):EX!:=[(Ck!,Ix D2!),Hl! D1! DS!,Hl! Bo! Bp!,Hl! Ij! B5!,Hl! Ik! Ex!,Hl! KU! D3!]
def Jz(W:EL):Z3! (Fb W).lookup Ck! (Az! D2!):=by unfold Fb;rw[Im]
def Dy(W:EL):VQ! D1! DS!:=by unfold Fb;rw[Bw J0,Im]
def Ep(W:EL):VQ! Bo! Bp!:=by unfold Fb;rw[Bw N7,Bw M9,Im]
def Tc(W:EL):VQ! Ij! B5!:=by unfold Fb;rw[Bw Q6,Bw N8,Bw Td,Im]
def Jmv(W:EL):VQ! Ik! Ex!:=by unfold Fb;rw[Bw Na,Bw J7,Bw N9,Bw Q7,Im]
def Jmw(W:EL):VQ! KU! D3!:=by unfold Fb;rw[Bw Q8,Bw Oa,Bw Tf,Bw Jaf,Bw Q9,Im]
def Dq(W:EL)(h:JNW [Ck!,D1!,Bo!,Ij!,Ik!,KU!]):TX! (Fb W).lookup:=by show JY?;have#[h1,h2,h3,h4,h5,h6,_]:=h;unfold Fb;rw[Bw h1,Bw h2,Bw h3,Bw h4,Bw h5,Bw h6];rfl
def Jtz(W:EL):dM! KU! D3! (As Ik! (EQ Ex!) (JhN B5! (EQ Bp!) (h2! D1! DS! Ck! (Az! D2!) [])))=Fb W:=by unfold Fb;rw[Eu];rw[CX! J0,Eu];rw[CX! N7,CX! M9,Eu];rw[CX! Q6,CX! N8,CX! Td,Eu];rw[CX! Na,CX! J7,CX! N9,CX! Q7,Eu];rw[CX! Q8,CX! Oa,CX! Tf,CX! Jaf,CX! Q9,Eu]
abbrev B7:md! X!
 | []=>[]
 | q::l=>JJ9
def Ip:∀(l m:j!),B7 (l++m)=B7 l++B7 m
 | [],m=>rfl
 | q::l,m=>by change JqB++B7 (l++m)=(JqB++B7 l)++B7 m;rw[Ip l m,AY]
def DS:∀{l:j!},b∈B7 l↔∃q∈l,b=O!\/b∈BX PP
 | []=>#[λh=>by simp[B7] at h,λ#[q,h,_]=>B1!]
 | q::l=>by change b∈JJ9↔_;rw[NY,BO,DS];show b?;(.rintro(h|⟨r,hr,h⟩);(.show#[q,EF!,h]);.show#[r,ZD _ hr,h]);.rintro⟨r,hr,h⟩;rcases ZM hr with rfl|hr;(.show N?);.show G? #[r,hr,h]
abbrev Ci(p:Addr)(W:EL):X!:=[p,W.hs,W.po,W.pd,W.iq,W.fi,W.en]
abbrev Bx(p:Addr)(W:EL):X!:=Ci p W++B7 ut
structure AW(CW CH CP:Addr)(H:Hp)(p:Addr)(W:EL):B! where
 ob:nB! (R5! CW (Fb W))
 hs:Bq! DS! (Ai! (gy! Ta!))
 ho:∀q∈W.qs,BF CH H O! PP
 po:JX CP H Bp! Il! W.c Fi!
 iq:n4! B5! W.NO
 fi:n4! Ex! W.IB
 en:n4! D3! W.GV
 nd:(Bx p W).Nodup
abbrev JE(p:Addr)(W:EL)(H H':Hp):B!:=ar! GO!
open S
variable {CW CH CP p:Addr}{H H':Hp}{W:EL}
def AW.keep(x:CZ!)(k:JpR bH!):JBR:=by have t:∀{b},UJ!->bH!:=λh=>Ao! h;show#[Jo! (FM k JhT e),cc! x.hs,ly! (FM k (Bu! (RW! (JH! hb))) e),lI! JtM JtM,cc! D4!,cc! x.fi,cc! Im!,AV!]
def AW.same(x:CZ!)(s:db):JBR:=JHj
def AW.some_at(x:CZ!)(hb:bH!):∃o,EK!/\(JJ4)/\wq!:=by
 show BM?;.show CS?;show Cv?;(.show AF?;show#[_,e,Nx!,N0!]);(.show CB? x.hs);(.have#[dx,e]:=x.po.ob;show#[_,e,Nx!,N0!]);(.show CB? x.po.dc);(.show CB? D4!);(.show CB? x.fi);.show CB? Im!
 .show Cw?;show Ev?;(.show Is?;show#[_,e,Nx!,N0!]);.show I7?;show#[_,e,Nx!,N0!]
def AW.br(x:CZ!)(e:JlA):GO!:=λm=>by have#[o,e',h,_]:=x.some_at m;show j?;cases e';show h _ A!
def AW.QH(x:CZ!)(e:Bg!):GO!:=λm=>by have#[o,e',_]:=x.some_at m;show j?;cases e'
def JE.FQ(x:CZ!)(f:JW!):BV! :=#[RK! (f a _ e (x.br e)),λa ob u e=>f a _ e JVE]
def Jve{A X X' B:X!}(h:Jw! (A++(X++B)))(hx:X'.Nodup)(k:∀b∈X',b∈X\/(b∉A/\b∉B)):Jw! (A++(X'++B)):=by
 have#[a1,a2,a3]:=KZ! h;have#[b1,b2,b3]:=KZ! a2;show KV! #[a1,KV! #[hx,b2,wr!],wr!];.show F? (k y hy);(.show b3 y h z hz e);.show BF! (e▸hz)
 .show AT?;(.show F? (Dl! k);(.show a3 y hy z jZ! e);.show bn (e▸hy));.show a3 y hy z (Bu! hz) e
def AW.step(x:CZ!){i:Nat}{q:Addr}{G G':BZ}(hi:oH!)(S:BF CH H' q G')(f:XT q G H H')(nw:MN!) : JSX (gz! a7!):=by
 have#[JK,_]:=ZJ hi;have e1:W.qs=pH!++HD!::pJ!:=by have:=GN i ut;rw[<-this];congr 1;(.rw[GN]);.rw[GN];show(List.drop_eq_getElem?_toList_append (l:=ut) (i:=i)).trans (Db! hi)
 have e2:a7!=pH!++HG!::pJ!:=A5! List.set_eq_take_append_cons_drop (AF JK)
 generalize pH!=l1 at e1 e2;generalize pJ!=l2 at e1 e2;have hm:HD!∈W.qs:=ZP hi;have nd:=x.nd;unfold Bx at nd;rw[e1,Ip] at nd;have eA:JeV HD! (q::CS!):=cP!
 rw[eA] at nd;have#[a1,a2,a3]:=pF!;have#[b1,b2,b3]:=KZ! a2;have apart:∀b,(UJ!\/uy!)->b≠q/\b∉CS!:=UF (by (have no:b∉q::CS!:=λm=>by rcases hb with hb|hb|hb;(.show QT! a3 (F3! hb) lC!);(.show QT! a3 (Bu! hb) lC!);.show QT! b3 m hb);show#[Zl! no EF!,cN! no])
 have kp:JJJ UJ! uy!:=DL! (f b o e (bF! apart) (apart b hb).2);have t:∀{b},UJ!->b∈Ci p W\/uy!:=λh=>LC!;have hsm:gy! (Ta!)=(In! i HG!).map Ta!:=by rw[e2,e1,ZF,ZF];rfl
 show#[#[Jo! (FM kp JhT e),?_,H2!,lI! JtN JtN,si! D4!,si! x.fi,si! Im!,?_],Ie! ?_];.have:=FM kp (t (b:=DS!) iA!) x.hs;show H? hsm;show this
 .show Bk? a7!;show c? e2;(have oth:r∈l1\/r∈l2->BF CH H' h! r.2:=λh=>by (have hW:r∈W.qs:=Uf! (Vo! M4! (Ao! z) (F7! (BL! z))));show(x.ho r hW).keep (DL! (ct! (M4! (λz=>v! (K8! RW! #[r,z,hb])) λz=>v! (AT (RW! #[r,z,hb]))))));show BN?;(.show oth (y! hr));.rcases ZM hr with rfl|hr;(.show S);.show oth (AT hr)
 .change(Ci p W++B7 (In! i HG!)).Nodup;rw[e2,Ip];(have eB:JeV HG! (q::BX G'):=cP!);rw[eB];show Jve nd (JRk S.SR S.nd) Hh!;show Bj?;(.show y! (EF!));.show F? (Dm! nw);(.show E? (BL! h));.have no:=x.QH h;unfold Bx at no;rw[e1,Ip] at no;show R? #[λm=>no ?_,λm=>no ?_];(.rcases ZI m with m|m;(.show h? m);.show ZC _ lC!);.show ZC _ (Bu! (ZC (q::CS!) m))
 .have KR:b∉B7 ut:=λm=>hb (Bu! m);show f b o e (JXR (W! z)) (JXR b2!)
def AW.df(x:CZ!):(W.po≠W.pd/\W.po≠p/\W.po≠W.hs/\W.po≠W.iq/\W.po≠W.fi/\W.po≠W.en)/\(W.pd≠p/\W.pd≠W.hs/\W.pd≠W.iq/\W.pd≠W.fi/\W.pd≠W.en)/\(W.iq≠p/\W.iq≠W.hs/\W.iq≠W.fi/\W.iq≠W.en)/\(W.fi≠p/\W.fi≠W.hs/\W.fi≠W.en)/\(W.en≠p/\W.en≠W.hs):=by have nd:=Uj! AV!;simp only[Ci,BC,BO,CA,F',not_or,DV,and_true,not_false_eq_true] at nd;have#[#[a1,a2,a3,a4,a5,a6],#[b1,b2,b3,b4,b5],#[c1,c2,c3,c4],#[d1,d2,d3],#[e1,e2],f1]:=nd;show#[#[c1,H1! a2,H1! b1,c2,c3,c4],#[H1! a3,H1! b2,d1,d2,d3],#[H1! a4,H1! b3,e1,e2],#[H1! a5,H1! b4,f1],#[H1! a6,Mh! b5]]
def AW.JY(x:CZ!)(hb:UJ!)(hq:q∈W.qs):b≠O!/\b∉BX PP:=by have h:=Dm! (KZ! AV!).2.2;show#[JV9 H4! z,JV9 b2! A!]
def AW.LD(x:CZ!)(S:JX CP H' Bp! Il! c ls)(f:JCi (b≠W.po) (b≠W.pd)) : JSX { W with c:=c,ls:=ls }:=by
 have#[#[a1,a2,a3,a4,a5,a6],#[b1,b2,b3,b4,b5],_]:=x.df;show#[#[Jo! (WI! e a2 b1),WI! x.hs a3 b2,ly! JUl,S,WI! D4! a4 b3,WI! x.fi a5 b4,WI! Im! a6 b5,AV!],Ie! JUl];show CI? Bp!
 show CI? Il!
 .rintro rfl;show hb (F3! iA!)
 show Dm?
def AW.zA(x:CZ!):uh! B5! { W with NO:=l } B5!:=by
 have#[#[a1,a2,a3,a4,a5,a6],#[b1,b2,b3,b4,b5],#[c1,c2,c3,c4],_]:=x.df;show GK? (b≠W.iq) B5!
 show#[#[Jo! (FM f e (JE! c1)),FM f x.hs (JE! c2),ly! (TQ! ?_),lI! (λo e=>FM f e a4) (λo e=>FM f e b3),Ab,FM f x.fi (JE! c3),JFo c4,AV!],Ie! (TQ! ?_)];show CI? B5!
 show Dm?
open E
abbrev iC(W:EL)(h:Int):B!:=h<0\/nI!
abbrev M_(W:EL)(h:Int)(q:Addr)(G:BZ):B!:=0<=h/\W.qs[h.toNat]?=D! HD!
def M_.at(i:By!)(x:CZ!):BF CH H q G:=x.ho HD! (ZP Uf)
def M_.lt(i:By!):0<=h/\h<W.qs.length:=by have#[z,_]:=ZJ Uf;have:=i.1;show#[i.1,Q!]
def M_.VY(i:By!):L2.VY (gy! Ta!) h=D! (DN! q):=sk! i.1 Uf
def lookup_mem:∀{l:iS!},JPU->(y,k)∈l
 | [],h=>B1!
 | (a,b)::l,h=>by rw[HR] at h;by_cases e:y=a;(·(have q1:Ac! (y==a):=O8! (J_ a));rw[q1] at h;have h:b=k:=ZO h;rw[e,h];show EF!);.have q1:CA! (y==a):=Wp! e;rw[q1] at h;show ZD _ (lookup_mem h)
def rR{l:iS!}{cl:Bl!}{y:Str}(hc:∀p∈l,wP=.cell\/wP=Eq!->jR! g!)(h:JRO):KD!:=by
 show Cp?;.show JXy y!
 .show JXy AT
def Jzs{a b c:Str}{cl:Bl!}{y:Str}(h:TS! JGN JGN):KD! :=e4! (by show CT?;rcases hp with rfl|rfl|rfl<;>rcases hk with hk|hk<;>cases hk)
def Jzt{a b c d e f:Str}{k1 k2 k3 k4:NameKind}{cl:Bl!}{y:Str}(hc:db!)(hd:JDf)(he:jR! e)(hf:jR! f)(h:TS! JeO JeO):KD! :=e4! (by show CT?;rcases hp with rfl|rfl|rfl|rfl|rfl|rfl;(.show Qx?);show C2?;(.show hc);(.show hd);(.show he);.show hf)
open S
open E
structure Lies(H:Hp)(L:X!):B! where
 nd:L.Nodup
 all:∀b∈L,JsV
def Lies.keep(x:eM!)(k:fA!):Io! H' L:=#[AV!,UF (let#[o,e]:=Dm! x.all;k b o e)]
def Lies.new(x:eM!)(h:Bg!)(h':JsW)(k:fA!):Io! H' (b::L) :=#[XD! #[λm=>(by have#[o,e]:=x.all b m;rw[h] at e;cases e),AV!],M5! (by rcases ZM hc with rfl|hc;(.show h');.have#[o,e]:=so!;show k c o e)]
open S
open E
def Lies.add(x:eM!)(nd:X.Nodup)(h:∀b∈X,Bg!)(h':∀b∈X,JsW)(k:fA!):Io! H' (X++L) :=#[KV! #[nd,AV!,λb hb c hc e=>by have#[o,z]:=so!;rw[<-e,Dm! h] at z;cases z],M5! (by rcases ZI hc with hc|hc;(.show h' c hc);.have#[o,e]:=so!;show k c o e)]
def Lies.perm(x:eM!)(p:L.Perm L'):Io! H L':=#[p.nodup_iff.mp AV!,UF (x.all b (XK! hb))]
abbrev Kp(p:Addr)(H H':Hp):B!:=JF4
def Kp.trans(a:Kp p H H1)(b:Kp p H1 H2):Kp p H H2:=λc o e h=>b c o (a c o e h) h
def ju:Kp p H ps!:=λb o' e h=>S! (Ad h) e
def Kp.ex(k:Kp p H H')(hp:∃o,cZ! H'):fA!:=B4! (by by_cases z:b=p;(.rw[z];show hp);.show#[o,HR! k z])
def Jwv(h:¬x=y):mf!:=AG (HT! h g0!)
def aE(k:tb D σ H)(hv:JH5 wd:=by rfl)(ne:¬wd=c:=by show Bt?):Jef:=JQA (Jwv ne) Bs
def j7(k:ta D σ H)(hv:JH5 c:=by rfl):Jef:=JQA (AI A!) B3
def AW.YI(x:CZ!)(e:JDT)(h:b≠W.hs):GO!:=λhb=>by show BM?;(.show CS?;show Cv?;(.have#[dx,e']:=x.ob;show j?;cases e');(.show h A!);(.have#[dx,e']:=x.po.ob;show j?;cases e');(.have e':=x.po.dc;show j?;cases e');(.have e':=x.iq;show j?;cases e');(.have e':=x.fi;show j?;cases e');.have e':=x.en;show j?;cases e');.show Cw?;have ne:=(x.ho q hq).VL e;show hb.elim ne.1 ne.2
abbrev Jxb(G:BZ):BU!:=[rA! RX! KT!,dI! BE! G.h,dI! wn Aj!,dI! CN! wp,dI! Cj! BG!,rA! Ch! G.BB,rA! Ci! Gs!]
inductive LstAt(H:Hp)(b:Addr)(ts:E!):B!
 | mk (as:X!) (_:Bq! b FF!) (_:Ga!)
def CF.keep(k:BV!)(x:Ga!):a1!:=az! k.BV x
structure sZ(H:Hp)(p:Addr)(G:BZ):B! where
 ob:JP! (.dK (Jxb G))
 dh:LstAt H G.h AE!
 dO:JTC
 dl:JUO
 dr:JTD
 hl:RP! (LstAt H WP BN!)
 nd:Jw! (p::CS!)
open S
variable {p:Addr}{H H':Hp}{G:BZ}
def Gm{α β:IN}{f:α->β}:∀{l:T!},aI! f->∀{a b:α},a∈l->b∈l->f a=f b->a=b
 | [],_,_,_,ha,_,_=>os!
 | x::l,nd,a,b,ha,hb,e=>by show A7?;rcases ZM ha with ha|ha<;>rcases ZM hb with hb|hb;(.rw[ha,hb]);(.show LK? nd.1);(.show LL? nd.1);.show Gm nd.2 ha hb e
open E
@[reducible]abbrev HL:=L2!
abbrev XF(l:HL):DB! (T2×E!):=FS qx!
abbrev Mz(l:HL)(t:T2)(h:E!):HL:=FS λq=>vV!
abbrev B8(l:HL)(t:T2):E!:=((Gt! (Kt! Da!)).map Ip!).getD []
def Jnk(l:HL)(t:T2)(h:E!):JUS (Mz l t h).map:=by
 show Lt? (vV!).2.1 WP;.rw[AF e]
 .rw[AD e]
def Jnj(l:HL)(t:T2)(h:E!):wv (Mz l t h).map=LW!:=by
 show Lt? (vV!).1 O!;.rw[AF e]
 .rw[AD e]
def O9(m:q∈Mz l t h):(Da!/\BN!=h)\/NE!:=by
 have#[q0,h0,e]:=Ee!;show B? (q0.1=t);.rw[Ap!] at e;subst e;show E? #[c,A!]
 .rw[Ef!] at e;subst e;show G? h0
def xn(h:Ea!):∃a,lm!=D! (t,a,c7!):=by cases e:d4! with | none =>show Ey?;show DZ?;show I? e2 yA! | some q =>(have h1:Da!:=JBW);show#[WP,?_];(have:c7!=BN!:=by unfold B8;rw[e];rfl);rw[this,<-h1]
def Jaq(ka:aI! Go!)(kt:aW!)(f:lm!=D! (t,a,hl))(h:E!):Kb l a h=Mz l t h:=by
 have m:=BH f;unfold Kb Mz;show C_ B0!;show AI?;.have:=Gm kt hq m e;rw[this,Aq!,Aq!]
 .have:¬WP=a:=λz=>e (by rw[Gm ka hq m z]);rw[AD this,AD e]
structure Ok(G:BZ)(n:Nat):B! where
 hn:G.hand.Nodup
 hz:G.hand.length<=n
 on:oj!
 oz:G.AL.length<=n
 ke:uK!
 rn:zb!
 rz:G.AK.length<=n
 ln:RP! (q.2.2.Nodup/\q.2.2.length<=n)
 new:TV! (jE!/\bS!)
 hk:Ka! JnX
 lk:JiQ JnX
 rk:JA1 UV!
def Ok.mono(x:f8)(h:n<=m):Ok G m :=JVr (AA x.hz h) (AA x.oz h) (AA x.rz h) (Aw! #[(Iq! q hq).1,AA JsS h])
abbrev KQ(G:BZ):BZ:={ G with BJ:=Kx! }
abbrev XD(G:BZ)(a:Addr):BZ:={ G with BB:=EO!,hand:=Of!,AL:=MK!,holds:=Zd! }
def EA:u∈Cb l t↔u∈l\/u=t:=by
 unfold Cb;by_cases h:Ig!;.rw[AF h];show#[y!,λz=>NB! id λz=>S! z h]
 .rw[AD h];simp
def IL:u∈Jq l t↔u∈l/\u≠t:=by unfold Jq;rw[AE];simp
def U4(t:T2)(h:l.Nodup):(Cb l t).Nodup:=by
 unfold Cb;by_cases e:Ig!;.rw[AF e];show h
 .rw[AD e];show Gy h e
def Mr(l:E!)(t:T2):CC! Cb l t bU!:=by
 unfold Cb;by_cases e:Ig!;.rw[AF e];show DO _
 .rw[AD e];simp
open S
def Ok.KQ(x:f8):Ok (KQ G) n:=JVr x.hz x.oz x.rz Iq!
def Ok.hand(x:f8)(h1:l.Nodup)(h2:g1!)(h3:ws!):Ok gf! n:=#[h1,h2,x.on,x.oz,x.ke,x.rn,x.rz,Iq!,x.new,h3,x.lk,Gw!]
def Ok.holds(x:f8)(h1:l.Nodup)(h2:g1!)(h3:ws!):Ok { G with holds:=Mz Ax! t l } n:=by
 show#[x.hn,x.hz,x.on,x.oz,(Jnj ..).trans x.ke,x.rn,x.rz,B0!,x.new,x.hk,B0!,Gw!];.show RG?;(.rw[e];show#[h1,h2]);.show Iq! q hq
 .show RG?;(.rw[e];show h3);.show x.lk q hq
def Ok.XD(x:f8)(a:Addr):UA! (XD G a):=by
 show MJ?
 have eo:yU!=HJ!++[(KT!,G.BB)]:=cO!
 show#[?_,?_,?_,?_,?_,x.rn,by have:=x.rz;change G.AK.length<=Bd!;show CB Am!,B0!,?_,?_,?_,Gw!];.show Gy x.hn λm=>nw (x.hk _ m A!)
 .change(Of!).length<=Bd!;rw[ZE];have:=x.hz;change G.hand.length+1<=Bd!;show FL Am!
 .change Zm! Zr!;rw[eo];show Gy x.on nw
 .change(Zr!).length<=Bd!;rw[ZE];have:=x.oz;change G.AL.length+1<=Bd!;show FL Am!
 .change(G.holds++[(HH!,a,([]:E!))]).map (λ(q:T2×Addr×List T2)=>O!)=yU!;rw[eo,ZF,x.ke];rfl
 .show BL?;(.show#[(Iq! q hq).1,CB JsS]);·show Dk?;show M?;show#[DV,AL!]
 .intro t ht;have ht:Fz! (Zr!).map:=ht;change jE!/\t.2<EO!;show d? eo;show B6?;(.have:=Cv! x.new;show#[NJ!,by have:=this.2;show BW this]);·show Fk?;show M?;show#[A!,JL! (G.BB<EO!) Df!]
 .intro t ht e;show RY?;rw[eo];show B6?;(.show h? (x.hk t ht e));.show ZC _ ht
 .intro q hq t ht e;show RY?;rw[eo];show BL?;(.show h? (x.lk q hq t ht e));·show Dk?;show d? this;cases ht
def Ok.fresh(x:f8):JEN/\(wt!)/\we!:=by
 show MJ?
 show#[λt ht e=>JC4 (x.hk t ht (by rw[e])),λq hq e=>JC4 Ps!,λq hq e=>nw (by rw[<-e,<-x.ke];show Ps!)]
def Ok.OM(x:f8):G.holds.length<=n:=by show Cn? x.ke;show U? ZA ZA;show M?;show x.oz
def Ok.get(x:f8)(t:T2):(B8 Ax! t).Nodup/\(B8 Ax! t).length<=n/\wv! (NI! u.1->u∈HJ!):=by unfold B8;cases e:JAs Da! with | none=>show#[DV,AL!,JN1] | some q =>have m:=BH e;show#[(Iq! q m).1,(Iq! q m).2,x.lk q m]
def Ok.find(x:f8)(h1:Ir!)(h2:jE!):∃a,Nw! JTE Da!=D! (t,a,ah!):=Ud! xn x.ke (x.hk t h1 h2)
open E
abbrev Ah(l:R!)(t:T2):GE:=u2!
def Gc(l:R!)(t:T2)(v:Int):JHo (JsO LW! (LW!++[t])):=by
 show K3?;.rw[Ed!,Ed!,AZ];show Bp?;change JGZ=O!;show AI?;(.rw[AF e]);.rw[AD e]
 .rw[FO!,FO!,ZF];rfl
def Ok.oV(x:f8)(hf:GP!)(v:Int):UA! JOG:=by
 have x1:=x.mono (DO n);show#[U4 _ x.hn,by have:=Mr AE! tb;have:=x.hz;change(Cb AE! tb).length<=Bd!;lia,x1.on,x1.oz,x1.ke,?_,?_,x1.ln,x1.new,Lx!,x1.lk,?_];.change EH! (Bm AN! tb v).map;rw[Gc];show Ep?;(.rw[Ed!];show x.rn);.rw[FO!];show Gy x.rn h
 .have h0:=aH! List.length (Gc AN! tb v);have:=x.rz;change(Bm AN! tb v).length<=Bd!;rw[ZA] at h0;rw[h0];show Ep?;(.rw[Ed!,ZA];show CB Am!);.rw[FO!,ZE,ZA];change G.AK.length+1<=Bd!;show FL Am!
 .show A4?;(.show x.hk t ht e);.show HM! JPC hf
 .change Ey! (wv (Bm AN! tb v).map) UV!;rw[Gc];intro t ht;show Ep?;(.show d? Ed!;show Cv! Gw!);.show d? FO!;show B6?;(.show Gw! t ht);·(have:Gx!:=by simpa using ht);show M?;show hf
open S
def Jpw(G:BZ)(a:Addr):JWu=CS!++[a]:=by unfold BX XD KQ;simp
open E
def Pk(h:Ea!):JMY:=by cases e:d4! with | none =>show Ey?;show DZ?;show I? e2 yA! | some q =>(have h1:Da!:=JBW);(have:BI! l=PP:=by unfold Ah;rw[e];rfl);rw[this,<-h1]
def Jjp(h:Ea!)(v:Int):JHo LW!:=A5! Gc Ed!
def Jfh(h:Ea!)(v:Int):(Bm l t v).length=l.length:=JEh (FW! List.length (Jjp h v)) ZA
structure Wk(G:BZ):B! where
 nn:ww!
 hr:Ka! (UV!->GK!)
open S
def Ok.AL(x:f8)(h:FL!)(v:Int):Ok wx! n:=by
 have e:=Jjp h v;show#[x.hn,x.hz,by change EH! (Bm AI! tb v).map;rw[e];show x.on,by change(Bm AI! tb v).length<=n;rw[Jfh h];show x.oz,by change yR!=wv (Bm AI! tb v).map;rw[e];show x.ke,x.rn,x.rz,Iq!,?_,?_,?_,Gw!];.change Ey! (wv (Bm AI! tb v).map) _;rw[e];show x.new
 .change Ka! JR1;rw[e];show x.hk
 .change JiQ JR1;rw[e];show x.lk
open E
def Vx(f:cR!):∀{l:T!} (x:Int),aI! f->FD! D0! (λe=>f e==x) 1
 | [],_,_=>AL!
 | a::l,x,nd=>by show A7?;rw[E_];by_cases e:f a=x;(.have no:(D0! λe=>f e==x)=[]:=List.filter_eq_nil_iff.mpr (RM! (ZC! nd.1 #[b,hb,by rw[e];simpa using z]));rw[AF (by simpa using e),no];show ZG _);.rw[AD (PY!)];show Vx f x nd.2
open S
variable {prog:Program}{w:World}{K:Type}[DecidableEq K]{knd:HeapKind prog w K}{A:Around}{E:Value->Shared->Prop}{s:Shared}
abbrev Tame(knd:HeapKind DC! w K):B!:=∀{A:Around} {E:KE} {s:Shared} {k:K} {a:Addr} {Q:b6!},fB!->(∀b,Q b s)->De! (K4! Builtin.Dict.quietEq a)
def Jip{id:String}{d:Addr}{ob:Obj}{es:Dp!}{ep:Nat}{xs:Ht!}{Q:HF! Dp!}(tm:Tame knd)(g:JCx d)(dat:ob.data=.dict es ep)(ent:es.toList=Cb! (Qn! knd))(keys:∀x∈xs,ON! knd.is BZ! LQ!)(hh:OO! Cb! JKA)(q:Q es s):De! (Builtin.Dict.entriesForEmpty id d):=by
 have hn:OO! RY! (λe=>e.hash):=HO! ent AZ hh
 unfold Builtin.Dict.entriesForEmpty;show ZR (DK g dat (ZR ?_));rw[<-Array.forIn_toList];show UG _ (λrest _ s'=>s'=s/\∀e∈rest,e∈es.toList) _ ?_ ?_ _ _ (Bc! (λe he=>he));.rintro e rest b s' ⟨rfl,sub⟩;have me:=SM! sw e;rw[ent] at me;have#[x,hx,ex]:=ZN me;(have ek:e.key=SB LQ!:=by rw[<-ex];rfl);rw[ek];show ZR (tm (keys x hx) λbq=>?_);(have small:¬JWY > 1:=by have h1:=Vx (λz:DictEntry=>z.hash) e.hash hn;(have h2:JWY=A1! es.toList.filter (λz=>z.hash==e.hash):=ZY! DR Array.toList_filter);rw[h2];show CV.mpr h1);cases bq with | true =>show LP?;show ZS JXD | false =>simp only[Bool.not_false,HX];rw[AD small];show ZS JXD
 .rintro b s' ⟨rfl,_⟩;show ZS q
def Tz{d a:Addr}{xs:Ht!}{k:K}{v:Value}{Q:Do!}(room:eY!)(key:fB!)(m:e2!)(z:IK!)(q:JRx (Wv! xs k a v)):De! (dictSetHashed d Bw! (knd.hash k) v):=by
 have#[ob,es,ep,g,ex,dat,ent,keys,nd]:=m;have sz:=LZ ent;unfold dictSetHashed;show EO (ZR (JQ3 room UV g dat ent keys nd (λno=>?_) λj p hj=>?_));.show S? VH (JQ4 (hz:=S! sz z) g dat (Jeb (ep+1) IQ ex.mapDictKeys (IQ dat _)));(.rw[uu!,ZF,<-ent];simp[entryOfKey]);(.rw[uu!] at hx;rcases ZI hx with hx|hx;(.show vM! (keys x hx));·(have e:x=(k,a,v):=by simpa using hx);rw[e];show vM! UV);.rw[uu!,ZF];show Gy nd (not_mem_keys_of_get no)
 .show ZR (VH (ZR (wpAny_updateDict g dat (wpAny_point (Jeb ep JTf ex.mapDict (JTf dat _))))));(.rw[storedH_old (atKey_of_get nd hj)];have e:=modify_map_putAt (Qn! knd) (λe:DictEntry=>{ e with val:=v }) k v km! nd hj;rw[<-ent] at e;rw[<-e];simp);(.rw[JZI] at hx;have#[y,hy,e]:=ZN hx;(have e1:BZ!=wT/\LQ!=y.2.1:=by rw[<-e];unfold putAt;show B? (wT=k);(.rw[AF c];show#[A!,A!]);.rw[AD c];show#[A!,A!]);rw[e1.1,e1.2];show vM! (keys y hy));.rw[JZI,keys_map_putAt];show nd
abbrev Ek(xs more:Ht!):Ht!:=more.foldl (λacc x=>JMZ acc) xs
def Rk(xs more:Ht!){i:Nat}{x:K×fa!}(h:more[i]?=D! x):Ek xs (more.take v6)=JMZ (Ek xs (more.take i)):=by unfold Ek;rw[XY!,h,P'];rfl
def Jeq(xs:Ht!)(k:K)(a:Addr)(v:Value):(Wv! xs k a v).length<=xs.length+1:=by cases e:FZ! xs k with | none=>rw[storedH_new e,ZE];show Bv! | some p=>rw[storedH_old e,ZA];show DO _
def Nq:wy! (CC! Ek xs DO! JTl)
 | [],xs=>Bv!
 | x::r,xs=>JZh Ek vf! Nq (Jeq xs BZ! LQ! x.2.2) Ek vf! (xs.length+(r.length+1))
def Vf:wy! (Zm! (xs++more)->Ek xs DO!=xs++more)
 | [],xs,_=>GF! AM xs
 | x::r,xs,nd=>by (have e:FZ! xs BZ!=none:=by cases c:FZ! xs BZ! with | none=>rfl | some p =>exfalso;unfold atKey at c;cases f:xs.find? (λy=>JI! wT BZ!) with | none=>rw[f] at c;cases c | some y =>(have h1:wT=BZ!:=SQ! (EX f));have h2:=BH f;rw[ZF,AS] at nd;show nd.2.2 _ (BK h2) _ (BK HL!) h1);change Ek vf! r=xs++x::r;rw[storedH_new e];(have e2:xs++[(BZ!,LQ!,x.2.2)]++r=xs++x::r:=cP!);rw[JOv Vf r,e2]
def Jh8{id:String}{d o:Addr}{xs more:Ht!}{Q:Do!}(tm:Tame knd)(room:eY!)(ne:d≠o)(lo:CA! (o==sysModules))(hd:e2!)(ho:s.heap.DictOfH knd o DO!)(z:DM! JTl)(hh:xs=[]->Jmm JKA)(q:JRx (Ek xs DO!)):De! (Builtin.Dict.mergeDict id d o):=by
 have#[od,esd,epd,gd,exd,YD,ze,JGW,ndd]:=_root_.id hd;have#[oo,SA,epo,go,exo,UC,bX,YZ,ndo]:=_root_.id ho;have so:=LZ bX;unfold Builtin.Dict.mergeDict Builtin.Dict.showsAll;rw[AD (xy!),AD (S! lo AQ)];show ZR (SN! (DK go UC ?_));show AE?;split;.show ZR (DK gd YD ?_);split;(.rename_i em;(have ex:xs=[]:=by have h1:=LZ ze;rw[MY.mp em] at h1;show Gn! h1.symm);subst ex;have em':Ek [] DO!=more:=Vf DO! [] ndo;rw[em'] at q;show ZR (Jip tm go UC bX YZ (hh A!) ?_);split;(·(have zz:SA.size<=m9!:=by rw[so];have:DM! (0+more.length):=z;show AA Tq! (AA z Pb!));show ZR (wpAny_updateDictKeysTo gd YD (ZS (q _ #[_,_,epd+1,ET _ gd (P_ (IQ YD _)),exd.mapDictKeys _,IQ YD _,bX,Ok!,ndo] is!)) zz);show knd.keeps (YZ x hx) gd YD is!);.rename_i nz;(have e0:more=[]:=by have:SA.size=0:=MY.mp (by simpa using nz);show H? so;show Gn! this);subst e0;show ZS (q _ hd zQ!));.show O8?;rw[UH];show Ld?;show QC?;(.show Qc?);.show Lf?;show NA?;rw[ej,so,B_] at VX;show ZS (q h' VX sb)
 .show O8?;rw[UH];show Ld?;show QC?;(.show Qc?);.show Lf?;show NA?;rw[ej,so,B_] at VX;show ZS (q h' VX sb)
open E
def Jhb{prog:Program}{w:World}{K:IN}[DecidableEq K](knd:KeyKind DC! w K):Tame (WV! knd):=λhk q=>by unfold Builtin.Dict.quietEq;show ZR (f4! (IsTupleKey.typeIs hk) F.slot_tuple_eq.lookup (ZS (q _)))
abbrev Pi(w:World)(k:F4!):GE:=JpG (k.map (Jxe w))
abbrev Fz(kvs more:Ag!):Ag!:=more.foldl (λacc kv=>Dx! acc Gg! kv.2) z!
def Jpg{more:Ag!}{ms:IH!}(p:KT H DO! ms):∀{kvs:Ag!} {xs:IH!},Ju!->KT H JpU (Ek xs ms):=by induction p with | nil=>show id | @cons p q _ _ h t ih =>intro kvs xs r;have e:O!=g!:=h.1.symm;have r1:=KT.put r g! h.2.1 h.2.2;change KT H (Fz (Dx! z! g! wP) _) (Ek (Wv! xs O! WP BN!) _);rw[e];show ih r1
def Jsl{kvs:Ag!}{xs:IH!}(p:Ju!):(Cb! λx=>(WV! (Bp P w)).hash BZ!)=FY! JoU:=eK! wm (Db! h!)
def Ve:∀(more kvs:Ag!),CC! Fz z! DO! (kvs.length+more.length)
 | [],_=>Bv!
 | q::r,kvs=>JZh Fz JSi Ve (Gz z! O! PP) Fz JSi (kvs.length+(r.length+1))
open S
variable {X:Cx Kx}{AB:List (Addr×Obj)}{σ:L2.St}{H:Hp}{s:Shared}{A:Around}{E:Value->Shared->Prop}
def Jbi{id:String}{d o:Addr}{kvs more:Ag!}{Q:zC!}(hu:W3!)(I:H!)(ed:dZ!)(eo:JTQ)(ne:d≠o)(z:JtO)(hh:kvs=[]->Jmm (λq=>Pi X.w O!))(q:∀s',JUM s'->Q JoR s'):Y0! (Builtin.Dict.updateFrom id d (EQ o) [] At):=by
 have#[zd,ld,xs,rd,dd]:=j9 DI! ed;have#[zo,lo,ms,ro,dO]:=Pq DI! eo;show Ez? rd;have l2:=Bf! ro;unfold Builtin.Dict.updateFrom;show AX? W5! g3!;show C5?;show AW?;unfold Builtin.Dict.merge Builtin.Dict.readDirectly;show S? ZR (UE g3! isSubtype_dict_dict ?_);show LP?;show ZR (f4! g3! F.slot_dict_iter.lookup (ZS ?_));simp only[J_,HX];show S? ZS (Jh8 (Jhb _) hu ne lo dd dO V! (Lu!) λh' dE sb=>?_);.rw[Jsl ro];show hh ?_;rw[e] at l1;show Gn! l1
 .have#[ob,es,ep,g,h2,h3,h4,_,h5]:=dE;(have I':JUM Bn!:=by show Pw (t':=Es!) I (l! ed Wq!) sb #[ob,g] #[?_,ld,_,(Jpg ro rd).keeps m2!,ob,es,ep,g,h2,h3,h4,h5];(.have:=Ve DO! z!;show AA Am! Am!);.rw[Ad (Ri ec ed (JhI))];show ec);show FX? (Builtin.Dict.addKeywords d []);show ZR (ZS (ZS (q _ I')))
open E
open S
variable {X:Cx Kx}
inductive Jw0(w:World)(x:V)(vs:C!)(H:Hp)(Q:VK):B!
 | mk (d o:Addr) (kvs more:Ag!) (_:x=GC!) (_:vs=[SB o]) (_:dZ!) (_:JTQ) (_:d≠o) (_:JtO) (_:(kvs=[]->JIb)) (_:Q wS (S0! d JpU))
def Jsd(hu:GY!):hZ X JUK (Jw0 X.w):=by show Ac?;have#[d,o,kvs,more,rfl,rfl,ed,eo,ne,z,hh,q]:=h;show J?;show CO?;cases ru;have#[_,_,xs,rd,dd]:=j9 DI! ed;show DB JUN IZ! PySem.F.entry_dict_update ?_ (Ab! PySem.F.args_dict_update_2);unfold Builtin.«dict.update» Builtin.Dict.selfAndRest;show JA?;show Jbi (id:=JUK) (HP! (X.A.in1.units<cLine) (HD (knd:=JVv) hu)) I ed eo ne z hh λs' I'=>#[_,A!,wS,_,I',A!,q]
inductive Jg5(w:World)(xs:C!)(H:Hp)(Q:VK):B!
 | mk (o:Addr) (more:Ag!) (_:xs=[SB o]) (_:Cn! o BA! DO!) (_:JIb) (_:∀p,Hf!->Ny! p (S0! p (Fz [] DO!)))
def Jit(hu:VK!):HQ X (DE! KO!) (Jg5 X.w):=by
 show a?;have#[o,more,rfl,eo,hh,q]:=h;show Am?;show J?;show callType_codes (Q₁:=λobj ER=>obj=LO!/\ER=Mq! (IS! (h3! KO! .dict Ep!))) F.kt_called_dict (F.kt_typeCall_dict_1 _) F.entry_dict_init (kt_code_dict_new _ ES!) ?_;rintro obj ER ⟨rfl,rfl⟩;show CC?;have I1:=JVB (λ_ _ z=>F6! z);have e1:JIE sK []:=Ab;have#[_,_,xs,rd,dd]:=j9 I1.EE e1;show#[IZ!,F.args_dict_init_2 _ _,?_];unfold Builtin.«dict.__init__» Builtin.Dict.selfAndRest;show JA?;have ne:s.heap.objs.size≠o:=λz=>by rw[<-z,hn] at eo;cases eo
 have eo1:JIE o DO!:=WF ne.symm eo
 have#[zo,_]:=j9 DI! eo;have lH:X.A.in1.in1.units<cLine:=by (have h1:X.A.in1.in1.units=yr!:=by first|rfl|simp[units_in1]);lia
 show Jbi (id:="dict.__init__") lH I1 e1 (BK! eo1) ne (l! BR (OB zo _)) (λ_=>hh) λs' I'=>#[A!,LO!,_,by rw[Iw] at I';show I',A!,q _ hn]
open E
abbrev hN(a b:Nat):GE:=JU0 a b
def Ji{as:T!}{bs:CE!}(p:ez!){a:α}{b:β}(r:R a b):Ma! R (bQ!) (bs++[b]):=JIF
def Rq{α:IN}(b:Pr!){ts:T!}{i:Nat}{t:α}(h:Vj!):Jec:=by rw[XY!,h,LB];cases e:b t<;>simp[e]
def Jx(b:Pr!)(ts:T!)(i:Nat):JWZ:=L0!
inductive LG(p:Addr)(b:dT!)(ts:E!)(H:Hp)(i:Nat)(ys:C!)(H2:Hp):B!
 | mk (bs:X!) (_:ys=pv!) (_:Ha!) (_:HS!) (_:T6! H2 (Gy! i).filter b)
open S
variable {p:Addr}{b:T2->Bool}{ts:List T2}{H:Hp}{tt:TT}{caps:List (Str×Nat)}{σ:L2.St}{Q:Hp->Prop}
def LG.start(hp:Hf!):lx! 0 [] (YX! p []):=#[[],A!,Aj hp,Ab,U!]
def v_(hp:Hf!)(hz:bW!)(ht:tN!){i:Nat}{ys:C!}{H2:Hp}{a:Addr}{t:T2}{N:HN!}(pv:lx! i ys H2)(hi:Vj!)(ha:Jkx)(n:∀ys H',lx! v6 ys H'->N ys H') : Jkv (λc H4=>kq! (B0 0 (Hg!::R6!) H4 jj!) (N ys H4)):=by
 have#[bs,ey,sm,IU,th]:=pv;have e1:=Rq b hi;have ln:ys.length<=ts.length:=by rw[ey,ZA,JmD];show Jx b ts i
 show ht H2 a t _ sm ha (ZP hi) ?_;cases c:b t with | false =>show X? c;show C5?;show n ys H2 #[bs,ey,sm,IU,by rw[e1];simpa using th] | true =>rw[c,Aq!] at e1;rw[AF A!];(have s2:Cp! JPt:=λd o e=>jG! hp (sm d o e));(have kt:DQ H2 JPt:=JZ! IU);show#[_,A!,IU,Jhp (AA ln hz),P! n #[bs++[a],Z7! ey,s2,Ab,?_]];rw[e1];show Ji (Kb! kt th) (AC Ra! ha)
def Qw{K:W.Frag}{l:Addr}{as:X!}(hp:Hf!)(hz:bW!)(hl:JFP)(th:Ga!)(ht:tN!)(k:JM2) : Jt! (Jn! (Je! (XR K l).stop GE! (XR K l).go (XR K l).TX (PL! (B0 0 (Ye!) H4 LP!) GR!))):=by
 show Qa? Dz;show Ku? (OZ! sm hl)
 show P6?
 show OK?
def Qx{α:IN}{d:Addr}{l:T!}{key:CG!}{val:FP!}{ob:Obj}(hp:Hf!)(hz:l.length<=900)(hd:OI! (.IC ob (BA! (FS λq=>(tk (UV q),val q)))))(ht:∀(H2:Hp) (a:Addr) (t:T2) (Q':GN!),Ha!->Jkx->t∈FS UV->Q' (b t) H2->Jkv Q')(k:∀(H2:Hp) (bs:X!),Ha!->ac! (JB! Qm!)->T6! H2 (FS UV).filter b->GE!) : Jt! (Jn! (Je! (dY d pA! ob).stop GE! (dY d pA! ob).go (dY d pA! ob).TX (PL! (B0 0 (Ye!) H4 LP!) GR!))):=by
 have aJ:FD! FS UV 900:=Cw! hz
 show#[λi m ys H2=>m=l.length-i/\i<=l.length/\JE5 i ys H2,#[g5!,Sc,AL!,LG.start hp],?_];show CR?;have#[bs,ey,sm,IU,WB]:=id pv;have hd2:=P! sm hd;show#[IU,?_];by_cases JK:g6!;.show EW? (JOn JK);have#[e,a,kk,v,ex,ek,ha]:=y;subst e ex;rw[ZH] at ek;have#[q,hq]:=Aw JK;rw[hq] at ek;have ek:(tk (UV q),val q)=(kk,v):=ZO ek;have e1:kk=tk (UV q):=m4! ek;rw[e1,wx] at ha;show v_ (N:=λzs H'=>∃m',m'<l.length-i/\(m'=l.length-v6/\ww<=l.length/\JE5 v6 zs H')) hp aJ ht pv JEv ha aD!
 .have e:i=l.length:=il! hi JK;subst e;show C8? (JOn Bv!);(have e2:(FS UV).take g5!=FS UV:=ZY! (ZA (f:=UV)) B_);rw[e2] at WB;show k H2 bs sm (AY! ey IU) WB
open E
abbrev OL(nx:qf!):sB->E!->Ay! E! E!
 | 0,ahead,found,R=>ahead=[]/\R=found
 | n+1,ahead,found,R=>G_ λa t=>ahead=UT!/\((t∈found/\OL nx n a It! R)\/(t∉found/\OL nx n (a++nx t) (OG!) R))
def OL.len:JHx (ahead.length<=n)
 | 0,_,_,_,h=>n3! bn
 | n+1,_,_,_,#[a,t,e,h]=>by rw[e,ZE];rcases h with⟨_,h⟩|⟨_,h⟩;(.have:=h.len;change bX!<=Bd!;show FL Am!);.have:=h.len;show H? ZE;change bX!<=Bd!;lia
def OL.sub:JHx ((g7! DT!)/\XZ! DT!)
 | 0,_,_,_,h=>by rw[bn,BF!];show#[λ_ z=>z,λ_ z=>by cases z]
 | n+1,_,_,_,#[a,t,e,h]=>by rw[e];show E0?;(.show#[Xa!,Jz!];show Ar?;(.show h.sub.2 u hu);·show IT?;show M?;show Xa! t ht);.show#[JGe Xa!,Jz!];show Ar?;(.show h.sub.2 u (F3! hu));.show Xa! u (Bu! hu)
def OL.closed:JlO (l4!->(g7! (bV! (u∈found\/u∈ahead)))->Rc! (bV! (u∈R)))
 | 0,_,_,_,h,c=>by rw[BF!];rw[bn] at c;show λt ht u hu=>(c t ht u hu).elim id JiA
 | n+1,_,found,_,#[a,t,e,h],c=>by rw[e] at c;show E0?;(.show KX?;show m? (c s hs u hu);(.show E? z);.show m? (ZI z);(.show G? z);·(have:u=t:=by simpa using z);show M?;show E? ht);.show KX?;rcases ZI hs with hs|hs;(.show m? (c s hs u hu);(.show E? or!);.show m? (ZI z);(.show G? or!);.show E? (Bu! z));·(have:s=t:=by simpa using hs);rw[this] at hu;show G? (Bu! hu)
def OL.least{nx:qf!}{S:pi}(cl:∀t,S t->bV! (S u)):JlO (l4!->(g7! (S t))->(XZ! (S t))->Rc! (S t))
 | 0,_,_,_,h,f,_=>S! BF! f
 | n+1,_,_,_,#[a,t,e,h],f,g=>by rw[e] at g;have gt:=g t (Bu! Ch);show E0?;(.show h.least cl f (JGe g));.show h.least cl (Jz!) Jz!;(.show Ar?;(.show f u hu);·show IT?;show M?;show gt);.show Ar?;(.show g u (F3! hu));.show cl t gt u hu
def Nk:∀{l:T!},l≠[]->G_ λa t=>l=UT!
 | [],h=>QR!
 | [x],_=>#[[],x,A!]
 | x::y::l,_=>by have#[a,t,e]:=Nk (l:=y::l) Ch;show#[x::a,t,k9!]
def OL.ex{nx:qf!}{keys:E!}{B:Nat}(sub:∀t,bV! (u∈keys))(sz:∀t,A1! nx t<=B):∀(m:Nat)(ahead found:E!),(XZ! (t∈keys))->A1! g8! (SB! (t∉found))*(B+1)+ahead.length<=m->G_ λn R=>n<=m/\l4!
 | m,ahead,found,ha,hm=>by by_cases e:ahead=[];(.show#[0,It!,AL!,e,A!]);have#[a,t,ea]:=Nk e;(have l1:ahead.length=bX!:=EJ! ea ZE);have uz:∀u∈a,u∈keys:=JGf ha ea;have ht:t∈keys:=JO1 ha ea;match m,hm with | 0,hm=>show I? hm V! | m+1,hm =>by_cases hf:t∈found;(.have#[n,R,h1,h2]:=OL.ex sw sz m a It! uz (JKe (l1▸hm));show#[Bd!,R,JFA,a,t,ea,HY! hf h2]);·(have lt:sJ!<JHP:=by (have e1:(g8! λu=>Go (u∉OG!))=(g8! λu=>Go (u∉found)).filter JBl:=by rw[JU5];show LP λu _=>?_;show Lw? (u∈found) (u=t));rw[e1];show List.length_filter_lt_length_iff_exists.mpr #[t,Ll! ht (by simpa using hf),Sc]);have l2:=sz t;(have key:sJ!*(B+1)+FG! (a++nx t)<=m:=by rw[ZE];have:(sJ!+1)*(B+1)<=JHP*(B+1):=EV _ lt;show U? Nat.add_mul Nat.one_mul;lia);have#[n,R,h1,h2]:=OL.ex sw sz m (a++nx t) jU! (Fb! ((ZI hu).elim (uz u) (sw t u))) UV;show#[Bd!,R,JFA,a,t,ea,E9! hf h2]
abbrev R_(hl:HL)(t:T2):E!:=(B8 hl t).filter JBm
abbrev Pb(G:BZ):E!:=dd! o2!
abbrev startT(G:BZ):E!:=(ti!).filter (SB! oQ!)
abbrev keepR(G:BZ)(R:E!):BZ:=JOI O5! O5!
abbrev Bl(G:BZ)(t:T2):A8!:=Go Ir! || N5! hA! TH!
abbrev IS(G:BZ):BZ:=hB! (Iu! λq=>ZH!)
open S
def Vu(s:JJm):JaH JU8:=by unfold BX;show((((s.map _).cons₂ _).cons₂ _).cons₂ _).cons₂ _
def BF.bw(x:KM){hl:HL}(s:JJm):JQU hl JU8:=by show BV?;show CD? Aj!;show AF?;show Ob? (Aw! (WF (d1 q (s.subset hq)).2.2.1 (x.hl q (s.subset hq)))) (x.nd.sublist (Vu s))
open E
def Jpv{d:Addr}{kvs:Ag!}{ob:Obj}{g:TG}{tb:TS}{D:Ends}{σ:L2.St}{H:Hp}(Pv:of!)(h0:Pv!)(hf:JRi BA!)(hs:∀i a k v σ H,rP!->z2!->Yp!->kk! Bw!)(hd:JGE) : V2! O0! (UG! (Qh! (dY d z! ob).stop (dY d z! ob).go O0! (dY d z! ob).TX)):=by
 show Pj?;.show Ej? #[fz,JK] w2!;have#[e,a,k,v,ex,ek,ha]:=y;subst e ex;show hs i a k v σ _ ek ha pv
 show My?
abbrev Fa(l m:E!):E!:=m.foldl Cb l
def Vg:∀{m l:E!} {t:T2},t∈Fa l m↔Ig!\/t∈m
 | [],l,t=>by simp[Fa]
 | u::m,l,t=>by change t∈Fa QS! m↔_;rw[Vg,EA,BO,or_assoc]
def Yk:nJ! (CC! Fa l m (l.length+m.length))
 | [],l=>Bv!
 | u::m,l=>by have h1:CC! Fa QS! m _:=Yk m QS!;have h2:=Mr l u;change CC! Fa QS! m (l.length+(m.length+1));lia
def Yj:nJ! (Jw! (l++m)->Fa l m=l++m)
 | [],l,_=>GF! AM l
 | u::m,l,nd=>by (have nu:u∉l:=λz=>by rw[AS] at nd;show nd.2.2 u z u (EF!) A!);(have e2:l++[u]++m=l++u::m:=cP!);change Fa QS! m=_;(have e3:Cb l u=l++[u]:=by unfold Cb;rw[AD nu]);rw[e3,JOv Yj m,e2]
def Kr:nJ! (JKP (Fz (FS Hk!) (m.map Hk!)) Fa m)
 | [],l=>rfl
 | u::m,l=>by change JO5 (Dx! (FS Hk!) (tk u) kJ!) m.map=_;rw[Gb];show Kr m QS!
def Rn{α:IN}{l:T!}{k:CG!}{f:FP!}{t:T2}:((Gt! yy!).map f).isSome=Go nD!:=L0!
def rV{H:Hp}{d a:Addr}{α:IN}{l:T!}{k:CG!}{f:FP!}{t:T2}(hd:Rd H d (BA! (FS ji!)))(ha:p3!):∃o,GF H d Bw! o/\o.isSome=Go nD! :=#[_,JMv hd A!,S! Er Rn]
def Jsi(a:T!)(t:α):(UT!)[FG! UT!-1]?=D! t:=Yn! ZE
def Jm4(th:CF H as (UT!)):G_ λ(bs:List Addr)(c:Addr)=>as=bs++[c]/\CF H bs a/\Jg9 c t:=by
 show A6? th;have ne:as≠[]:=λz=>by rw[z] at hl;simp at hl
 have#[bs,c,e]:=Nk ne;subst e;have l2:bs.length=a.length:=by rw[ZE,ZE] at hl;simpa using hl
 show#[bs,c,A!,?_,?_];·(have go:∀{xs:X!} {ys:E!} {x:Addr} {y:T2},JGS->CF H (xs++[x]) (ys++[y])->CF H xs ys:=by intro xs;induction xs with | nil=>intro ys x y h _;(cases ys with | nil=>show U! | cons _ _=>simp at h) | cons x0 xs ih=>intro ys x y h q;cases ys with | nil=>simp at h | cons y0 ys =>cases q with | cons h1 q=>show am h1 (ih aO! q));show go l2 th
 .show Bf th hC! c t Ch (by rw[l2];simp)
def yC{as:X!}{ts:E!}{bs:X!}{us:E!}(p:Ga!)(q:CF H bs us):CF H (as++bs) (ts++us):=q8 p q
def Ky{α:IN}(k:CG!)(l:T!){ts:E!}{i:Nat}{t:T2}(h:Vj!):JGp (Gy! (ww)) (D0! λq=>decide (k q∉Gy! i)).filter (k q≠t):=by rw[JU5,XY!,h];show LP λq _=>?_;show Lw? (k q∈Gy! i) (k q=t)
def Ez(k:CG!)(l:T!)(f:dT!):EI! D0! (λq=>f (k q)) k=(FS k).filter f:=oo!
def P6{α:IN}{l:T!}{k:CG!}{f:FP!}{t:T2}(h:nD!):∃v,s6!=D! v:=by rw[Er];have:=Rn (l:=l) (k:=k) (f:=f) (t:=t);show H? (AI h);show KZ.mp this
abbrev Ap(G:BZ)(ts:E!):BZ:=JOI Hr! Hr!
def Jiq(G:BZ):Ap G []=G:=by
 have a1:Nw! g9! JBz=G.AL:=r0!
 have a2:Nw! Xb! JBz=G.holds:=r0!
 unfold Ap;rw[a1,a2]
def IM{α:IN}{k:CG!}{l:T!}(nd:aI! k){q:α}(hq:NE!):Gt! (JWS)=D! q:=by cases e:Gt! JWS with | none=>show DZ?;show BU? | some r =>(have h1:k r=k q:=ag!);rw[Gm nd (BH e) hq h1]
abbrev C9(hand:E!)(qs:HL):E!:=qs.foldl (λl q=>Fa l BN!) Iv!
def L_:∀{qs:HL} {hand:E!} {t:T2},t∈C9 Iv! qs↔t∈hand\/∃q∈qs,TH!
 | [],hand,t=>by simp[C9]
 | q::qs,hand,t=>by change t∈C9 (Fa Iv! BN!) qs↔_;rw[L_,Vg,or_assoc];simp
def Ro:∀{qs:HL} {hand:E!},(∀q∈qs,q.2.2.length<=B)->CC! C9 Iv! qs (hand.length+qs.length*B)
 | [],hand,_=>by simp[C9]
 | q::qs,hand,h=>by have h1:CC! C9 JWn qs _:=Ro (JKE h);have h2:=Yk BN! Iv!;have h3:=C7! q;change CC! C9 JWn qs (hand.length+(qs.length+1)*B);rw[Nat.add_mul,Nat.one_mul];lia
def Jdz(hand:E!){qs:HL}{i:Nat}{q:Jhy}(h:qs[i]?=D! q):C9 Iv! (qs.take v6)=Fa (C9 Iv! (qs.take i)) BN!:=by unfold C9;rw[XY!,h,P'];rfl
def Jl2(G:BZ)(t:T2):(MZ! (fD!))=Bl G t:=by
 unfold Bl;by_cases h:fD!;.rw[AI h];rcases L_.mp h with h|⟨q,hq,h⟩;(.simp[h]);.show RJ? hA! (JH! OK!);show M?;simp
 .rw[AG h];have h1:t∉G.hand:=λz=>h (L_.mpr (y! z));(have h2:A9! (iu! hA! TH!):=by rw[zx!];intro q hq z;show h (L_.mpr (AT (JH! xx!))));simp[h1,h2]
def Jd3{α:IN}{b:Pr!}{ts:T!}{i:Nat}{t:α}(h:Vj!):Jec:=Rq b h
def Qp(b:Pr!)(ts:T!)(i:Nat):JWZ:=Jx b ts i
def Rg:∀{l:T!} {i:Nat} {t:α},XC!->l[i]?=D! t->t∉l.take i
 | [],_,_,_,h=>B1!
 | x::l,0,t,_,_=>Sc
 | x::l,i+1,t,nd,h=>by show A7?;show Aj? (l[i]?=D! t);rw[hD!];intro z;show m? (ZM z);(.show JP8 (ZP h));.show Rg nd.2 h z
abbrev KS(H:Hp):by! R!:=Lp! (λa q=>∃c,jb! [SB c,Ix PP]/\Jg9 c O!)
def KS.keep(k:BV!)(x:KS H as bs):KS H' as bs:=Ax (Xc! (by have#[c,e1,e2]:=h9;show#[c,qL!,VU!])) x
def Jj2{H:Hp}{val:T2->V}:∀{l:E!} {as:X!},qm H (FS λq=>(tk q,val q)) as->Yz! l
 | [],as,h=>x5! U!
 | t::l,as,h=>by cases h with | cons h1 h2=>show am (AY! wx h1) (Jj2 h2)
def Jbp{α:IN}(k:CG!){l:T!}{ks R:E!}(h:∀q∈l,k q∈ks):JGp tP! D0! (k q∈R):=LP (Aw! (by show B? (k q∈R);(·(have:k q∉tP!:=λz=>by show Cd? z;simp[c] at this);simp[c]);.have:k q∈tP!:=Ll! dC! TW!;simp[c,dC!]))
def Jd6{G:BZ}{R:E!}(ke:uK!):Ap G (dd! kY!)=lb!:=by
 have h1:=Jew JrX AI! Ps!;have h2:=Jew (JS!) Ax! (AY! ke Ps!)
 unfold Ap keepR;rw[h1,h2]
def Qa1(ts:E!)(h:b∈BX Bs!):Tg!:=by have:JaH Bs!:=Vu (G:=g2! (Ap G ts).AL) IG;show this.subset h
open S
def Jn4(h:bY!)(v:Int):Bm l t v=l++Eb! t:=by unfold Bm;rw[AD h]
def Et(h:bY!):PB!=0:=by unfold Ah;rw[XO! uj!];rfl
def xU:∀{l m:E!},XC!->(∀x∈l,x∈m)->l.length<=m.length
 | [],_,_,_=>AL!
 | x::l,m,nd,h=>by show A7?;have hx:=C7! x;have ih:l.length<=A1! m.erase x:=xU nd.2 (IW! (JSD (λ(z:y=x)=>JP8 hy) y (BL! hy)));rw[JV0 hx] at ih;have:0<m.length:=LR hx;change bU!<=m.length;lia
open E
def Jkq(h:(BX G).Nodup):OO! RO! Go!:=by unfold BX at h;simp only[BC] at h;show h.2.2.2.2
open S
variable {p:Addr}{H H':Hp}{G:BZ}
open E
open S
variable {G M:BZ}{n:Nat}{R:List T2}
def Jvg(ok:f8){q:Jhy}(hq:gv!){t:T2}(ht:TH!)(e:oQ!):t∈R_ Ax! O!:=by
 show Bw? RO! tq!
 have f:=IM (k:=JS!) nd hq;have:B8 Ax! O!=BN!:=pb! f
 unfold R_;show M?;show Mf! #[ht,PY!]
def Ok.keepR(ok:f8)(st:Ey! (Rd! G) DT!)(cl:Rc! (∀u∈R_ Ax! t,u∈R)):JBr:=by
 have mem:∀t,CT!->DT!->JW9:=Xd! (S! JMW (Ll! h1 nq!))
 have sub:∀t,JW9->CT!:=Gz! n5!;show#[Kc!,ok.hz,ou! JV2,cu! ok.oz,?_,Iw!,ok.rz,Aw! (Kd! q jI!),JFI (sw t ht),Lx!,λq hq t ht e=>?_,ok.rk];.show F7? O5! O5!;rw[JSv DT!,JMW,Fk!]
 .have h1:=sF!;show mem t h1 (st t ?_);unfold startT;show Mf! #[Ao! ht,by rw[Fk!];simpa using h1]
 .have#[bC,aK]:=Dt! hq;have h1:=ok.lk q bC t ht e;show mem t h1 (cl O! (by simpa using aK) t (Jvg ok bC ht (l! Fk! h1)))
def Ok.IS(ok:f8):Ok (FX.IS G) n :=#[Kc!,ok.hz,ok.on,ok.oz,Fk!,ou! ok.rn.sublist,cu! ok.rz,Kd!,NM!,ok.hk,ok.lk,aL! ok.rk (it! ht)]
def Jk1(G:BZ):Ey! (Rd! G) oQ!:=w4!
def Jo5(hl:HL)(t:T2):∀u∈R_ hl t,u∈JlX:=Fb! (JmX hu)
open E
open S
open E
open S
open E
def Tu(h:n<=100000):XA!:=dG!
abbrev jF:i!->A8!
 | []=>true
 | [_]=>true
 | x::y::l=>n7!&&jF (y::l)
def Jmz:∀{l:i!} {x:Int},jF (x::l)=true->∀y∈l,x<y
 | [],_,_,y,hy=>by simp at hy
 | z::l,x,h,y,hy=>by unfold jF at h;rw[GW] at h;have h1:=BI bn;show E1?;(.show h1);.show Int.lt_trans h1 (Jmz BF! y hy)
def Jmy:∀{l:i!},BQ! jF l->XC!
 | [],_=>DV
 | [x],_=>Sc
 | x::y::l,h=>by have h':=h;unfold jF at h';rw[GW] at h';show XD! #[λm=>Int.lt_irrefl _ (Jmz h x m),Jmy h'.2]
abbrev gD:DB! (Nat×Nat):=(List.range 12).flatMap λn=>lA! 60 (λj=>(n,j))
abbrev bo:i!:=gD.map λp=>hN g! wP
abbrev qx(x:Int):JJr
 | []=>[x]
 | y::l=>BX! (x<y) (x::y::l) (y::qx x l)
def Jbb(x:Int):∀l:i!,(qx x l).Perm (x::l)
 | []=>.refl _
 | y::l=>by unfold qx;split;(.show .refl _);.show Lj! (Jbb x l).cons y (List.Perm.swap x y l)
abbrev rC:JJr
 | []=>[]
 | x::l=>qx x (rC l)
def Jao:∀l:i!,(rC l).Perm l
 | []=>.refl _
 | x::l=>(Jbb x (rC l)).trans ((Jao l).cons x)
def Jrp:jF (rC bo)=true:=ZV
def Jrq:bo.Nodup:=(Jao bo).nodup_iff.mp (Jmy Jrp)
abbrev XS(t:T2):B!:=0<=Bb!/\Bb!<12/\0<=t.2/\t.2<60
def Jl3(ht:XS t)(hu:XS u)(e:fF! t=fF! u):t=u:=by
 have qP:∀v:T2,0<=v.1->0<=v.2->fF! v=hN bJ! bK!:=λv h1 h2=>by change JpG [hashInt v.1,hashInt v.2]=JU0 bJ! bK!;rw[BN h1,BN h2]
 have#[a0,a1,a2,a3]:=ht;have#[b0,b1,b2,b3]:=hu;rw[qP t a0 a2,qP u b0 b2] at e;have m:∀v:T2,0<=v.1->v.1<12->0<=v.2->v.2<60->(bJ!,bK!)∈gD:=λv h0 h1 h2 h3 =>Re! #[bJ!,ci!,St! bK! ci!];have:=Gm (f:=λp:Nat×Nat=>hN g! wP) Jrq (m t a0 a1 a2 a3) (m u b0 b1 b2 b3) e;have e1:=aH! Prod.fst this;have e2:=aH! Prod.snd this;simp only at e1 e2;show RF! V! V!
def Jgi:∀{ts:E!},Xe!->(∀t∈ts,XS t)->OO! Gu! (λt=>fF! t)
 | [],_,_=>DV
 | t::ts,nd,hr=>by show A7?;show XD! #[Th!,Jgi nd.2 (Fb! (hr u (BL! hu)))];have#[u,hu,e]:=Ee!;show nd.1 ((Jl3 (hr t HL!) (hr u (BL! hu)) BB!)▸hu)
def Vp{w:World}{l:E!}(nd:l.Nodup)(hr:XX! (XS t)):((FS Hk!).map JoU).Nodup:=S! AZ (Jgi nd hr)
abbrev Jqr(o:Obj):B!:=UM!/\fs!/\G_ λxs k=>o.data=IL! xs k
open S
inductive Sb(K:W.Frag)(xs:C!)(H:Hp)(Q:VK):B!
 | mk p ys (_:c2!) (_:rN!) (_:∀l o,JZD (Jqr o) (.IC o (ii ys)))
def Yg{X:F!}:JSs Sb:=by show a?;have#[p,ys,rfl,hq,q]:=h;show Am?;show J?;show Es?;show CN?;show OV?;show JL?;show Nc? (DY! (EG! h'.objs.size (.IC (qy! CJ!) (ii ys))) JUE) (.IC _ qT!) #[EP!,hz,At!,r',og!];show#[yL!,_,I2,A!,FM q lf! #[A!,A!,_,_,A!]]
open E
open S
open E
open S
open E
open S
variable {X:Cx Kx}
open E
def Jqi{z:Str}{p:Addr}{tt:TT}{te:TE}{caps:C2!}{σ:L2.St}{H:Hp}{Q:H6!}(Pv:Pp!)(h0:Qg!)(hl:JGF (i<=z.length))(hs:∀i c ys H2 (N:HN!),JYk (XF!=D! c) JXU JXU)(hd:JkF My!) : Jt! (Jn! (Je! (kL z).stop GE! (kL z).go (kL z).TX (PL! at! GR!))):=by
 show Cb? (kl! (z.length-i) (i<=z.length)) My!;show CR?;show Hf?;by_cases JK:i<z.length;.show EW? JK;have#[e,c,hc,ex]:=y;subst e ex;show hs i c ys _ (JkT (z.length-i) (z.length-v6) (ww<=z.length)) hc pv aD!
 .have e:i=z.length:=il! hi JK;subst e;show E? #[Bv!,hd ys H2 pv]
def Jso(c:Nat):(!(Builtin.Str.occurrences (EB! Xf!) (one c) 0 (Str.length Xf!) 1).isEmpty)=Em c:=by rw[StrLaws.found_one,NZ];rw[hE!];have e:(Xf!:Str).cps.toList=JfN:=rfl;rw[e,show JfN=List.range' 48 10 from rfl,List.mem_range'_1];simp only[Em,GW,decide_eq_true_eq];lia
def zT{a b:Str}{cl:Bl!}{y:Str}(h:TS! JZz JZz):KD!:=by
 simp only[HR,List.lookup_nil] at h;split at h;.simp at h
 .split at h<;>simp at h
abbrev qr(P:Program)(w:World)(K:W.Frag)(a:Addr)(kvs:BU!):B!:=Zb!/\∃vs,Dk!/\∀h:FS!,Ug!->h.DictOf Y8! a vs
open S
variable {X:Cx Kx}{x:Str}{a:Addr}{kvs:List (Key×V)}{e:Expr}{ty:TE}{p apos IK:Pos}
abbrev Jub(kvs:BU!)(ty:TE):TE:=h4! ty (λy H2=>∃k,ed!/\Q ((Ck z! k).getD wS) H2)
def Jog{X:F!}(hu:GY!)(hg:El!)(hm:Br! X.mg Bw!)(D:qr FU! X.w Kx a z!)(he:VD!)(m:M1 X j7! Mv! apos e IK)(hd:DA!:=by decide):A0! (.Call (Mr! j7! Mv! apos) [e] [] IK) (Jub z! ty):=by
 show P?;have#[hn,vs,rel,dk]:=D;show NM m.base m.je m.line DP FO TJ (Jm I hg hm ?_ hd);have dd:=dk xz DJ!;show#[IZ!,λb eb=>?_,?_];.cases eb;have#[o,_,_,e,ex,_]:=dd;show Fl?
 rw[RE!];show GQ A! (HK (HZ (h6! he (λiv s2 #[y,H2,I2,ry,k,ey,q2]=>U9!))));subst ey;have d2:=dk s2.heap I2.OX;show QI FO d2.typeIs JA (Ab! RB) (JZF hn) #[_,d2.mapOf,#[_,H2,I2.tok _,ks! (mz! wS At),q2]]
open E
abbrev fm(b:Bool):Str:=Yl! Cg! CO!
abbrev mU(K:W.Frag)(p:Str×GI!)(q:Key×V):B!:=O!=En! g!/\∃t,PP=SE!/\JWc p.2.map
def Jkd{K:W.Frag}:∀{l:Pa!} {kvs:BU!} {v:Str} {fs:GI!},JHc->JMD->∃t,Ck z! (En! v)=D! ZQ!/\JWc Qo!
 | _,_,_,_,.nil,h=>B1!
 | (a,gs)::l,q::kvs,v,fs,.cons #[e,t,e2,k] r,h=>by rw[HR] at h;cases c:v==a with | true =>rw[c] at h;cases h;show#[t,?_,k];unfold Ck;rw[CN,AI (show JMF by rw[e,gA! c])];change D! PP=_;rw[e2] | false =>rw[c] at h;(have ne:¬JMF:=λz=>by rw[e] at z;show DF! (GF! Sum.inr.inj z) (ne_of_beq_false c));have#[t',q1,q2]:=Jkd r h;show#[t',?_,q2];unfold Ck at *;rw[CN,AG ne];show q1
abbrev PF(H:Hp)(v:V)(a:Arg):B!:=match a with
 | .n i=>v=K9!
 | .t i j=>∃t,v=SE!/\JhK QJ!
def PF.same{H H':Hp}(s:db){v:V}{a:Arg}(h:PF H v a):PF H' v a:=by cases a with | n i=>show h | t i j=>have#[t,e1,e2]:=h;show#[t,e1,P! s e2]
def PF.put{H:Hp}{v:V}{a:Arg}{p:Addr}{ys zs:C!}(h:PF H v a)(hp:Cn! p Ai! ys):PF (YX! p zs) v a:=by cases a with | n i=>show h | t i j =>have#[t,e1,e2]:=h;show#[t,e1,WF (Ri e2 hp JPO) e2]
def Um:∀(i:Nat){fs:GI!}{ws:Z!}{as:bo!}{f:Bool}{w:Str}{a:Arg},JZJ JFL (Jd f w=D! a) (JqG v6 v6=D! (bQ!))
 | 0,f0::fs,w0::ws,as,f,w,a,h,h1,h2,h3=>by show BQ?;subst h1 h2;simp[Gj] at h ⊢;subst h;rw[h3];rfl
 | 0,[],_,_,_,_,_,_,h1,_,_=>xz!
 | 0,_::_,[],_,_,_,_,_,_,h2,_=>x0!
 | i+1,[],_,_,_,_,_,_,h1,_,_=>xz!
 | i+1,_::_,[],_,_,_,_,_,_,h2,_=>x0!
 | i+1,f0::fs,w0::ws,as,f,w,a,h,h1,h2,h3=>by show BQ?;rw[hD!,hD!] at h ⊢;unfold Gj at h ⊢;cases e:u9! with | none=>show AK? | some b =>show AR?;cases e2:JqG i i with | none=>show BE? e2 | some bs =>rw[e2] at h;cases h;rw[Um i e2 h1 h2 h3];rfl
def Jo{l:iS!}{cl:Bl!}{y:Str}(h:l.all (λp=>wP != .cell&&wP != Eq!)=true)(h2:JRO):KD!:=by
 have key:∀k,JPU->Ac! (k != .cell&&k != Eq!):=λk e=>nv! (MX.mp h (y,k) (lookup_mem e)) this
 rcases h2 with e|e;.show I? (UV _ e) Op
 show Ao? (UV _ e) Op
def Jqg{K:W.Frag}{l1 l2 p:Addr}{xs zs:C!}{te:TE}{caps:C2!}{σ:L2.St}{H:Hp}{Q:H6!}(Pv:Pp!)(h0:Qg!)(hlen:xs.length=zs.length)(hl:JoF (Oa! H2 l1/\DT K H2 l2 zs/\HS!))(hs:∀i x z ys H2 T (N:HN!),Sa!->zs[i]?=D! z->Pv i ys H2->B7! H2 T->(∀ys H,Pv (ww) ys H->N ys H) -> te (JjF x z) (E4! H2 T ii [x,z]) jj!)(hd:eC!) : Jt! (Jn! (Je! (m_ K l1 l2).stop GE! (m_ K l1 l2).go (m_ K l1 l2).TX (LW λa u v=>Bx!/\JZK /\ te (e5!) H3 LP!))):=by
 show Cb? (kl! (xs.length-i) (i<=xs.length)) IU!;show CR?;have#[q1,q2,q3]:=hl i ys H2 hi pv;show#[q3,?_];by_cases JK:i<xs.length;.have#[x,hx]:=Aw JK;have#[z,hz]:=Jmj zs;show R? #[#[xs,zs,x,z,q1,q2,hx,hz],λv H3 y=>?_];have#[T,x',z',hT,rfl,rfl,y1,y2]:=y;have ex:=y1 xs q1;have ez:=y2 zs q2;show#[T,x',z',A!,Bt! Ab,hs i x' z' ys H2 T (JkT (xs.length-i) (xs.length-v6) (ww<=xs.length)) ex ez pv hT aD!]
 show Da?
abbrev Jzr(K:W.Frag)(tl:TE):TI:=Jns (∃a,Bx!/\(((∃xs,Vq! H1)/\JF3)\/((∃xs,ak! H1)/\JF2)))
def Ju4{X:F!}{tg l:Expr}{tl:TE}(hl:Vp!):uW! Jzr:=by
 show AC?;show BI?;rintro v s1 ⟨x,H1,I1,r1,a,e,q⟩;subst e;cases r1;have fp:∀b∈yx!,kR! H1:=UF (by show H7?;subst e;show JHH)
 rcases q with⟨⟨xs,hq⟩,q⟩|⟨⟨xs,hq⟩,q⟩;.show IJ?;show fu! Wn! (JRp Jai)
 .show IK?;show fv! (JNm) (JRp Tg)
def Mu{K:W.Frag}{a p:Addr}{xs:C!}{tt:TT}{te:TE}{caps:C2!}{σ:L2.St}{H:Hp}{Q:H6!}(Pv:Pp!)(h0:Qg!)(hl:JLt)(hs:vu!)(hd:eC!) : JYh:=by
 show GI?;show Gn?
 show Da?
abbrev EC(i:Int):Str:=(Wo! i:String)
abbrev Ar(t:T2):Str:=UH! "." UF!
abbrev Cg(ws:Z!):Str:=BX! (ws=[]) G0! (UH! AW! ws)
abbrev cS(K:W.Frag)(H:Hp)(v:V)(t:T2):B!:=∃a,Ls!/\JFb
def Gf{K:W.Frag}{H H':Hp}(s:db){a:Addr}{xs:C!}(h:Dq!):ak! H':=(MK s).sq h
def cS.same{K:W.Frag}{H H':Hp}(s:db)(h:uQ!):cS K H' v t:=let#[a,e,q]:=h;#[a,e,Gf s q]
abbrev Sm(i:Int):B!:=0<=i/\i<=100000
def Cc(i:Int)(h:H7!):FD! EC i 9:=(Jgt bn (by have:=BF!;show JKb)).l
def Cy{i:Int}(h:H7!):JtQ:=by
 have h1:i.natAbs<2 ^ 20:=by have:=bn;have:=BF!;lia
 rcases JWa i.natAbs with e|e;.rw[e];decide
 .show CK ((Nat.log2_lt (EY e)).mpr h1) Op
abbrev rP(n:Int)(k:Str)(h g:Int):Str:=UH! ":" [EC n,k,EC h,EC g]
def PS.fB{X:F!}{st:Stmt}{t:TS}(h:PS X.fB st t):t8!:=λAB s σ H D I hw=>JcO (λ_ _ z=>z.NF) gL!
def Jw5{P:Program}{w:World}{X:F!}:Hk OV! X E0:=by rintro AB σ H s e s' I ⟨ex,cls,H',_,_,hE,_⟩;show hE.elim
def fk{K:W.Frag}{H:Hp}{v:V}{ds:PZ!}(h:q1! .tuple ds):G_ λa xs=>Ls!/\Dq!/\uA!:=by cases h with | BV s l r=>show#[_,_,A!,s,Fi l r]
def H_.th{K:W.Frag}{H:Hp}{v:V}{t:T2}(h:q1! RH t):uQ!:=by have#[a,xs,rfl,s,p]:=fk h;cases p with | cons r1 p=>cases p with | cons r2 p=>cases p;cases r1;cases r2;show#[a,A!,s]
def xr{K:W.Frag}{H:Hp}:∀{xs:C!} {ts:E!},P4! xs Gu! RH->JKp
 | _,[],.nil=>U!
 | _,_::_,.cons r p=>L8! r.th xr p
def xH{K:W.Frag}{H:Hp}{v:V}{hs:E!}{os:Ae!}{rs:R!}(h:JDL v):V_ λb x1 x2 x3=>v=Cs!/\Jb! b [x1,x2,x3]/\qh! x1 XP! RH/\qh! x2 DR! j8/\qh! x3 If! wN:=by have#[b,xs,rfl,sb,pb]:=fk h;cases pb with|cons z1 pb=>cases pb with|cons z2 pb=>cases pb with|cons z3 pb=>cases pb;show#[b,_,_,_,A!,sb,z1,z2,z3]
def Jqz(t u:T2):PyData.eqv (RH t) (RH u)=Go (t=u):=by have#[a,b]:=t;have#[c,d]:=u;unfold RH;simp only[PyData.eqv,PyData.eqvAll,Prod.mk.injEq];by_cases h1:a=c<;>by_cases h2:b=d<;>simp[h1,h2,PyData.eqv]
def AW.eO{CW CH CP CD pw p dx:Addr}{H:Hp}{W:EL}{v:V}(x:JXF CH)(hp:as! (Eb! NN!)):p∉Bx pw W:=λhb=>by show BM?;(.show CS?;show Cv?;(.show AF?;rw[hp] at e;cases e);(.have e:=x.hs;rw[hp] at e;cases e);(.have#[dx,e]:=x.po.ob;rw[hp,O5] at e;cases e);(.have e:=x.po.dc;rw[hp] at e;cases e);(.have e:=x.iq;rw[hp] at e;cases e);(.have e:=x.fi;rw[hp] at e;cases e);.have e:=x.en;rw[hp] at e;cases e);.show Cw?;show Ev?;(.show Is?;rw[hp] at e;cases e);.show I7?;rw[hp] at e;cases e
inductive FmL(K:W.Frag)(w:World):Ay! Pa! bn!
 | nil:FmL K w [] []
 | cons {v:Str} {fs:GI!} {r:Pa!} {es:bn!} {t:Addr} {tk:Tok} {its:BT!} {n:Nat}:JSu t Za! (IL! At! n)->DD! (Qo! Job) ft!->eo! r es->eo! ((v,fs)::r) (#[PyData.keyHash W9! v,FB v tk,SE!]::es)
def Jke{P:Program}{w:World}{K:W.Frag}:∀{l:Pa!} {es:bn!},(∀p∈l,p.2.length<=10)->eo! l es->G_ λ(kvs:List (Key×V))(vs:List (Key×Value))=>Dk!/\JYp/\(∀e∈es,∃k,JKc e.key/\e.hash=(Bp P w).hash k)/\wv Mt!=FS (λp=>(En! g!:Key))/\JHc
 | _,_,_,.nil=>#[[],[],U!,U!,JNI,A!,U!]
 | (v,fs)::l,_,hl,.cons (t:=t) (tk:=tk) (its:=its) lk hv r=>by show MK? (sY! hl) r;have hk:(Bp P w).is (En! v) (FB v tk)=true:=Rj P w v tk;have hle:=SM! hl (v,fs);have sz:JhJ:=CQ;show#[JNc::kvs,JNc::vs,Lq! ES! h1,am hk A! h2,Jx!,by rw[AO,AO,h4],Lq! #[A!,t,A!,λH=>?_] h5];(.rcases ZM he with rfl|he;(.show#[En! v,hk,A!]);.show h3 e he);·(have e:fs.length=its.size:=by simpa using Bf! hv);have JTa:fb! 10:=hle;show G? #[_,_,_,lk,A!,A!,by omega,hv]
def forms_mk{w:World}{K:W.Frag}{FA:Addr}{es:Dp!}{ep:Nat}(lk:JSu FA (EC! KO!) (.dict es ep))(h:eo! FT es.toList)(hs:CA! (FA==sysModules))(P:Program):wA!:=by show MK? ZV h;show#[z!,#[hs,vs,h1,λhp X=>#[_,es,ep,P! X lk,rF!,A!,λe he=>h3 e (by simpa using he),h2,?_]],h5];rw[h4];show Ab?
abbrev fmB:GI!->d!->A8!
 | [],[]=>true
 | b::fs,.str x _::us=>x==fm b&&fmB fs us
 | _,_=>false
def fm_vals:∀{fs:GI!} {us:d!},fmB fs us=true->Vn! Qo! Job
 | [],[],_=>U!
 | b::fs,.str x t::us,h=>by have h:=Rf! h;have e:x=fm b:=mX! bn;subst e;show am P2! (fm_vals BF!)
open S
variable {prog:Program}{w:World}{A:Around}{E:Value->Shared->Prop}{s:Shared}
open E
open S
variable {exx:Addr}{X:Cx Kx}{elt iter:Expr}{x:Str}{px pos:Pos}{ifs:List Expr}{sc:Scope}{cl:List (Str×Addr)}{caps:List (Str×Nat)}{wi:TI}{tt:TT}{te:TE}
open E
open S
variable {P:Program}{w:World}{K:W.Frag}{mg:Str->Option Value}{base:Heap}{sp:Addr->List V->Hp->VK->Prop}
open E
open E Lake.FX
open N Lake.K66
open PySem L2 FX
abbrev top(i:Nat):I!:=PySem.Challenge.pw_farhold_k66_whole_desk.main.body.getD i (.Pass vR!)
@[reducible]abbrev m7:I!:=AF! 0
@[reducible]abbrev m9:I!:=AF! 1
@[reducible]abbrev m6:I!:=AF! 2
@[reducible]abbrev my:I!:=AF! 3
@[reducible]abbrev mf:I!:=AF! 4
@[reducible]abbrev mz:I!:=AF! 5
@[reducible]abbrev mZ:I!:=AF! 6
@[reducible]abbrev mn:I!:=AF! 7
@[reducible]abbrev Uk:I!:=AF! 8
@[reducible]abbrev Ug:I!:=AF! 9
@[reducible]abbrev Oy:I!:=AF! 10
@[reducible]abbrev mh:I!:=AF! 13
@[reducible]abbrev Qc:I!:=AF! 14
@[reducible]abbrev mj:I!:=AF! 15
@[reducible]abbrev Kg:I!:=AF! 16
@[reducible]abbrev Hg:I!:=AF! 18
@[reducible]abbrev Kf:I!:=AF! 19
@[reducible]abbrev Mi:I!:=AF! 20
@[reducible]abbrev Uc:I!:=AF! 21
@[reducible]abbrev kD:I!:=AF! 22
@[reducible]abbrev Mh:I!:=AQ! 13
@[reducible]abbrev Ie:I!:=AQ! 11
@[reducible]abbrev Gi:I!:=AQ! 17
@[reducible]abbrev Ia:I!:=AQ! 18
@[reducible]abbrev Ue:I!:=Uu! 0
@[reducible]abbrev O1:I!:=Uu! 1
@[reducible]abbrev Ki:I!:=Uu! 2
@[reducible]abbrev O0:I!:=Uu! 3
@[reducible]abbrev Kj:I!:=Uu! 4
@[reducible]abbrev m8:I!:=AF! 12
@[reducible]abbrev rN:I!:=AR! 8
@[reducible]abbrev Hy:I!:=AR! 17
@[reducible]abbrev E2:I!:=AR! 18
@[reducible]abbrev Hx:I!:=AR! 19
@[reducible]abbrev Hz:I!:=AR! 20
@[reducible]abbrev Ke:I!:=AR! 21
@[reducible]abbrev Ub:I!:=AF! 17
@[reducible]abbrev Ui:I!:=AF! 11
@[reducible]abbrev kG:I!:=AF! 23
@[reducible]abbrev kF:I!:=AF! 24
@[reducible]abbrev Ud:I!:=cC! 0
@[reducible]abbrev Nc:I!:=cC! 1
@[reducible]abbrev Ig:I!:=cC! 2
@[reducible]abbrev Oz:I!:=cC! 3
@[reducible]abbrev r8:I!:=AR! 0
@[reducible]abbrev r9:I!:=AR! 1
@[reducible]abbrev r6:I!:=AR! 2
@[reducible]abbrev rp:I!:=AR! 3
@[reducible]abbrev sC:I!:=AR! 4
@[reducible]abbrev rq:I!:=AR! 5
@[reducible]abbrev Jy7:I!:=AR! 11
@[reducible]abbrev r_:I!:=AR! 6
@[reducible]abbrev Sj:I!:=AR! 7
@[reducible]abbrev Mg:I!:=AR! 9
@[reducible]abbrev Mf:I!:=AR! 10
@[reducible]abbrev Hw:I!:=AR! 12
@[reducible]abbrev Ee:I!:=AR! 14
@[reducible]abbrev Kd:I!:=AR! 15
@[reducible]abbrev Ua:I!:=AR! 16
@[reducible]abbrev Qb:I!:=AR! 22
@[reducible]abbrev Jwb:I!:=AR! 13
@[reducible]abbrev rj:I!:=Po! 0
@[reducible]abbrev wL:I!:=Po! 1
@[reducible]abbrev wb:I!:=Po! 2
@[reducible]abbrev wJ:I!:=Po! 3
@[reducible]abbrev rm:I!:=Po! 4
@[reducible]abbrev Uh:I!:=Po! 5
@[reducible]abbrev Jc:I!:=AQ! 28
@[reducible]abbrev Ib:I!:=AQ! 29
@[reducible]abbrev Ic:I!:=AQ! 30
@[reducible]abbrev Kc:I!:=AQ! 31
@[reducible]abbrev Hv:I!:=AQ! 32
@[reducible]abbrev Mj:I!:=AQ! 33
@[reducible]abbrev Kh:I!:=AQ! 34
@[reducible]abbrev rM:I!:=AQ! 36
@[reducible]abbrev xu:I!:=AQ! 37
@[reducible]abbrev wZ:I!:=AQ! 38
@[reducible]abbrev wY:I!:=AQ! 39
@[reducible]abbrev wj:I!:=AQ! 40
@[reducible]abbrev wc:I!:=AQ! 41
@[reducible]abbrev wX:I!:=AQ! 42
@[reducible]abbrev wK:I!:=AQ! 43
@[reducible]abbrev xJ:I!:=AQ! 44
@[reducible]abbrev Uj:I!:=AQ! 45
@[reducible]abbrev wW:I!:=AQ! 46
@[reducible]abbrev iD:I!:=AQ! 47
structure DJ(K:W.Frag)(C:Addr)(x qual:Str)(st:Stmt)(ps:Z!)(f:Addr)(fd:FuncData):B! where
 fn:QI!
 bd:WC!
 mt:jx K C x f
structure NT(K:W.Frag)(mg:AC!)(x:Str)(st:Stmt)(ps:Z!)(f:Addr)(fd:FuncData):B! where
 fn:JDc
 bd:WC!
 mg:Br! mg ZP!
structure MeI(K:W.Frag)(C:Addr)(x q:Str)(st:Stmt)(f:Addr)(fd:FuncData):B! where
 a:mA! x
 i:d6!
 fn:a! x q st
structure GI(K:W.Frag)(x:Str)(st:Stmt)(f:Addr)(fd:FuncData):B! where
 a:CY! x f
 fn:JDc
structure RO(K:W.Frag)(x:Str)(st:Stmt)(ps:Z!)(f:Addr)(fd:FuncData):B! extends JbV where
 b:WC!
def RO.TV{K:W.Frag}{mg:AC!}{hp:Heap}{x:Str}{st:Stmt}{f:Addr}{fd:FuncData}{ps:Z!}(m:JdF)(X:K.In hp)(G:i2! hp.Ns):K0! x st ps f fd:=#[m.fn,m.b,KI X G m.a]
structure nK(K:W.Frag)(C:Addr):B! where
 pg:JHZ
 hd:dR!
 po:qX!
 sa:ud!
 mm:qY!
 kc:JQI
abbrev Bd(x q:Str)(st:Stmt)(ps:Z!):B!:=∀(kV doc pm:Value)(an:J1!)(FH ct:Value)(us:d!),JcF JJg
def el0{P:MA!}{us:d!}(h:Ke! 0)(k:P []):P us:=by
 show Jg?;.show k
 .cases h
def mB{P:MA!}{n:Nat}{us:d!}(h:Ke! Bd!)(k:∀a vs,vs.length=n->P (a::vs)):P us:=by
 show Jg?;.cases h
 .show k a us (RJ! h)
def g_{P:MA!}{us:d!}(h:Ke! 1)(k:∀u0,P [u0]):P us:=WO! el0
def mC{P:MA!}{us:d!}(h:Ke! 2)(k:∀u0 u1,P [u0,u1]):P us:=WO! g_
def fX{P:MA!}{us:d!}(h:Ke! 3)(k:∀u0 u1 u2,P [u0,u1,u2]):P us:=WO! mC
def cR{P:MA!}{us:d!}(h:Ke! 4)(k:∀u0 u1 u2 u3,P JWo):P us:=WO! fX
def jg{P:MA!}{us:d!}(h:Ke! 5)(k:∀u0 u1 u2 u3 u4,P JWp):P us:=WO! cR
abbrev BA(x q:Str)(st:Stmt)(ps:Z!)(us:d!):B!:=∀(kV doc pm:Value)(an:J1!)(FH ct:Value),bindArgs (JJg) Tv!=Jpm
def bd1{a:Str}(h:∀u0,TG! [a] [u0]):QN! [a]:=WP! g_ [a]
def bd2{a b:Str}(h:∀u0 u1,TG! IT! [u0,u1]):QN! IT!:=WP! mC IT!
def bd3{a b c:Str}(h:∀u0 u1 u2,TG! Rg! [u0,u1,u2]):QN! Rg!:=WP! fX Rg!
def bd4{a b c d:Str}(h:∀u0 u1 u2 u3,TG! hF! JWo):QN! hF!:=WP! cR hF!
def bd5{a b c d e:Str}(h:∀u0 u1 u2 u3 u4,TG! hG! JWp):QN! hG!:=WP! jg hG!
def MeI.mth{K:W.Frag}{C:Addr}{x q:Str}{st:Stmt}{f:Addr}{fd:FuncData}{ps:Z!}(m:MeI K C x q st f fd)(h:QN! ps:=by show QD?):B8! C x q st ps f fd:=#[m.fn,m.fn.binds h,#[m.a,m.i,m.fn.kp]]
def GI.gdi{K:W.Frag}{x:Str}{st:Stmt}{f:Addr}{fd:FuncData}{ps:Z!}(m:JbV)(h:Bd x x st ps:=by show QD?):JdF:=#[m,m.fn.binds h]
inductive Rc(K:W.Frag)(vs:C!)(H:Hp)(Q:VK)(E:XK):B!
 | mk (a:Addr) (ns:i!) (_:ch!) (_:JGw) (_:nM!) (_:∀H',JP4)
abbrev Gl(R:B!)(w:World)(K:W.Frag)(mg:AC!)(C CW CP CI CD HE NH QS SF MI NW NL NR FA ao R5 Qz bF Wp V9 Ww W0 Zj Y9 Wv V4 Yz Zf Y1 Y7 Zb Zl Zg Zk Wo Wq V3 Y6 Y8 Y0 Zc Zd Za V1 K9 K2 Ld Lc K1 K4 Yy Kz K3 K8 K7 La K0 Ze Y5 Wx R6 Zi Zh Wn Wm Wj Le Lg Lf K5 Lh K6 V2 Y4 Q1 R4 Wb Wy Wf Wr V6 Y3 Y2 Vy Yx Wh Wi V5 We Wc Vz V8 Ws V7 Wa Wz Wu YT:Addr)(bK Xl R7 bJ Xz Xk X9 Yd Z8 Zy X8 Xf Zo Z4 Zq Zw Z0 cU Z5 Z9 Xy X0 Xe Zv Zx Zp Z1 Z2 Zz Xc Lw Ln Lz Ly Lm Lp Zn Lk Lo Lv Lu Lx Ll Z3 Zu Ya Xx Z7 Z6 Xw Xv Xu L8 Ma L9 Lq Mb Lr Xd Zt R9 R8 Xn Yb Xq X5 Xh Zs Zr Xa Zm Xr Xt Xg Xp Xo Xb Xj X6 Xi Xm Yc X7 YU:FuncData):B!:=∀⦃h:Heap⦄ (X:Ug!) (G:JCp)
 (aC:CY! "House" C)
 (aCW:CY! "World" CW)
 (aCP:CY! "Post" CP)
 (aCI:CY! "Inquiry" CI)
 (aCD:CY! "Desk" CD)
 (aHE:CY! "HoldError" HE)
 (aNH:CY! "NoHouse" NH)
 (aNHd:CY! "NotHeld" QS)
 (aNNr:CY! "NotNear" SF)
 (aMI:CY! "Missing" MI)
 (aNW:CY! "NoWeight" NW)
 (aNL:CY! "NoLetter" NL)
 (aNR:CY! "NoRow" NR)
 (q3:vw!)
 (q4:vy!)
 (xNH:J6! NH)
 (xNHd:J6! QS)
 (xNNr:J6! SF)
 (xMI:J6! MI)
 (xNW:J6! NW)
 (xNL:J6! NL)
 (xNR:J6! NR)
 (xHE:J6! HE)
 (sNHd:Vs! QS)
 (qaNHd:ew! QS)
 (qbNHd:cf! QS)
 (qcNHd:ev! QS)
 (qdNHd:ap! QS)
 (qeNHd:VX! QS)
 (tNHdNR:WD! QS)
 (sNNr:Vs! SF)
 (qaNNr:ew! SF)
 (qbNNr:cf! SF)
 (qcNNr:ev! SF)
 (qdNNr:ap! SF)
 (qeNNr:VX! SF)
 (tNNrNR:WD! SF)
 (sMI:Vs! MI)
 (qaMI:ew! MI)
 (qbMI:cf! MI)
 (qcMI:ev! MI)
 (qdMI:ap! MI)
 (qeMI:VX! MI)
 (tMINR:WD! MI)
 (sNW:Vs! NW)
 (qaNW:ew! NW)
 (qbNW:cf! NW)
 (qcNW:ev! NW)
 (qdNW:ap! NW)
 (qeNW:VX! NW)
 (tNWNR:WD! NW)
 (aFA:CY! "FORMS" FA)
 (hF:∀P:Program,wA!)
 (hI:Vw! C JWx m7 ao bK)
 (hPI:Vw! CP JWz Ud R5 Xl)
 (hWI:Vw! CW hH! r8 Qz R7)
 (mM:JVI)
 (mFr:JVY)
 (mPa:JVg)
 (mCa:JVU)
 (mAd:JVV)
 (mGi:JVW)
 (mPs:JVh)
 (mCl:JVJ)
 (mSt:JTt)
 (mTo:JdC)
 (mNe:JRS)
 (mSp:JVF)
 (mQH:JRe)
 (mPR:JVZ)
 (mAR:JTz)
 (mLo:JT0)
 (mGb:JTu)
 (mHo:JVR)
 (mDr:JVS)
 (mTa:JVT)
 (mQN:JSR)
 (mQG:JTx)
 (mTi:JVK)
 (mPP:JRg)
 (mPL:JVk)
 (mPT:JVl)
 (mWM:JdG)
 (mWFr:JeI)
 (mWSe:JeJ)
 (mWCl:JdH)
 (mWDe:JeK)
 (mWSt:JTs)
 (mWLe:JVi)
 (mWH:JQz)
 (mWWe:JVL)
 (mWPa:JVM)
 (mWGb:JT5)
 (mWHo:JdR)
 (mWDr:JdS)
 (mWTa:JdT)
 (mP1:H9! Xh! Mh Fl! Ze Z3)
 (mR1:RO K Xi! Ie [NO!,wn] Y5 Zu)
 (mC1:RO K Xj! rM [D5!,Ix!] Wx Ya)
 (hII:Vw! CI JXj Ue R6 Xx)
 (mIF:JVm)
 (mIS:JVn)
 (mIL:JVa)
 (mIR:JVb)
 (mLH:JVX)
 (mWAs:JdI)
 (mWAc:JVN)
 (mWAn:JVO)
 (mWLc:JVP)
 (mWAa:JT6)
 (mWLa:JVj)
 (mUn:H9! hI! Gi CP! V2 Xd)
 (mRc:H9! hJ! Ia CP! Y4 Zt)
 (hDI:Vw! CD hK! rj Q1 R9)
 (mSy:JeN)
 (mMo:JdU)
 (mAt:JdV)
 (mLk:JdW)
 (mDh:JVo)
 (mRw:RO K Xk! Jc [Rh!,G2!] V6 Xh)
 (mRd:RO K hM! Ib ["form",G3!] Y3 Zs)
 (mRn:H9! Xl! Ic G3! Y2 Zr)
 (mWt:H9! hN! Kc CO! Vy Xa)
 (mWl:H9! hO! Hv G1! Yx Zm)
 (mLi:H9! hP! Mj G2! Wh Xr)
 (mLg:H9! hQ! Kh Fe! Wi Xt)
 (mSm:RO K JYN xu [CQ!,Cl!] V5 Xg)
 (mLl:H9! "_law_list" wZ Ri! We Xp)
 (mLs:cr! "_law_say" wY NP! Wc Xo)
 (mWk:cr! "_law_walk" wj Cl! Vz Xb)
 (mPk:RO K "_law_pick" wc WE! V8 Xj)
 (mCo:cr! "_law_come" wX NQ! Ws X6)
 (mRo:RO K "_law_row" wK dh! V7 Xi)
 (mNx:RO K "_law_next" xJ [Iy!,CQ!] Wa Xm)
 (mAl:cr! JYW Uj CQ! Wz Yc)
 (mCm:RO K "_law_calm" wW dg! Wu X7)
 (hW:GI K Kf! iD YT YU)
 (cC:nK K C)
 (nC0:Hw! Cg!)
 (nC1:Hw! Ch!)
 (nC2:Hw! Ci!)
 (nC3:Hw! BE!)
 (nC4:Hw! CN!)
 (nC5:Hw! wn)
 (nC6:Hw! Cj!)
 (cCW:nK K CW)
 (nCW0:Pw! Ck!)
 (nCW1:Pw! D1!)
 (nCW2:Pw! Bo!)
 (nCW3:Pw! Ij!)
 (nCW4:Pw! Ik!)
 (nCW5:Pw! KU!)
 (cCP:nK K CP)
 (nCP0:JAY Ih!)
 (nCP1:JAY KY!)
 (cCI:nK K CI)
 (nCI0:ce! Iz!)
 (nCI1:ce! CP!)
 (nCI2:ce! Fn!)
 (nCI3:ce! G5!)
 (cCD:nK K CD)
 (nCD0:Jgw CD NN! Rs)
 (z0:C3! "len")
 (z1:C3! WW!)
 (z2:C3! IQ!)
 (z3:C3! "sorted")
 (z4:C3! "isinstance")
 (z5:C3! Eo!)
 (z6:C3! KO!)
 (z7:C3! "max")
 (z8:C3! Mo!)
 (z9:C3! "bool")
 (z10:C3! "min")
 (z11:C3! XM!)
 (z12:C3! IR!)
 (z13:C3! Q2!),R
abbrev wH(P:Program)(w:World)(K:W.Frag)(mg:AC!)(base:Heap)(C CW CP CI CD HE NH QS SF MI NW NL NR FA ao R5 Qz bF Wp V9 Ww W0 Zj Y9 Wv V4 Yz Zf Y1 Y7 Zb Zl Zg Zk Wo Wq V3 Y6 Y8 Y0 Zc Zd Za V1 K9 K2 Ld Lc K1 K4 Yy Kz K3 K8 K7 La K0 Ze Y5 Wx R6 Zi Zh Wn Wm Wj Le Lg Lf K5 Lh K6 V2 Y4 Q1 R4 Wb Wy Wf Wr V6 Y3 Y2 Vy Yx Wh Wi V5 We Wc Vz V8 Ws V7 Wa Wz Wu YT:Addr)(bK Xl R7 bJ Xz Xk X9 Yd Z8 Zy X8 Xf Zo Z4 Zq Zw Z0 cU Z5 Z9 Xy X0 Xe Zv Zx Zp Z1 Z2 Zz Xc Lw Ln Lz Ly Lm Lp Zn Lk Lo Lv Lu Lx Ll Z3 Zu Ya Xx Z7 Z6 Xw Xv Xu L8 Ma L9 Lq Mb Lr Xd Zt R9 R8 Xn Yb Xq X5 Xh Zs Zr Xa Zm Xr Xt Xg Xp Xo Xb Xj X6 Xi Xm Yc X7 YU:FuncData):B!:=JgF (FY P w K mg B3! YV 12 YT YU jm! (Rc K))
@[reducible]abbrev Ev:IN:=Program×World×W.Frag×JkQ×Heap×Addr×Addr×kc! (kc! (kc! ((MB!)×(sB->J!))))
abbrev rG(e:Ev):B!:=wH e.1 e.2.1 e.2.2.1 e.2.2.2.1 e.2.2.2.2.1 e.2.2.2.2.2.1 e.2.2.2.2.2.2.1 e.2.2.2.2.2.2.2.1 e.2.2.2.2.2.2.2.2.1 e.2.2.2.2.2.2.2.2.2.1 e.2.2.2.2.2.2.2.2.2.2.1 e.2.2.2.2.2.2.2.2.2.2.2.1 e.2.2.2.2.2.2.2.2.2.2.2.2.1 e.2.2.2.2.2.2.2.2.2.2.2.2.2.1 e.2.2.2.2.2.2.2.2.2.2.2.2.2.2.1 e.2.2.2.2.2.2.2.2.2.2.2.2.2.2.2.1 e.2.2.2.2.2.2.2.2.2.2.2.2.2.2.2.2.1 e.2.2.2.2.2.2.2.2.2.2.2.2.2.2.2.2.2.1 e.2.2.2.2.2.2.2.2.2.2.2.2.2.2.2.2.2.2.1 (K! 0) (K! 1) (K! 2) (K! 3) (K! 4) (K! 5) (K! 6) (K! 7) (K! 8) (K! 9) (K! 10) (K! 11) (K! 12) (K! 13) (K! 14) (K! 15) (K! 16) (K! 17) (K! 18) (K! 19) (K! 20) (K! 21) (K! 22) (K! 23) (K! 24) (K! 25) (K! 26) (K! 27) (K! 28) (K! 29) (K! 30) (K! 31) (K! 32) (K! 33) (K! 34) (K! 35) (K! 36) (K! 37) (K! 38) (K! 39) (K! 40) (K! 41) (K! 42) (K! 43) (K! 44) (K! 45) (K! 46) (K! 47) (K! 48) (K! 49) (K! 50) (K! 51) (K! 52) (K! 53) (K! 54) (K! 55) (K! 56) (K! 57) (K! 58) (K! 59) (K! 60) (K! 61) (K! 62) (K! 63) (K! 64) (K! 65) (K! 66) (K! 67) (K! 68) (K! 69) (K! 70) (K! 71) (K! 72) (K! 73) (K! 74) (K! 75) (K! 76) (K! 77) (K! 78) (K! 79) (K! 80) (K! 81) (K! 82) (K! 83) (M! 0) (M! 1) (M! 2) (M! 3) (M! 4) (M! 5) (M! 6) (M! 7) (M! 8) (M! 9) (M! 10) (M! 11) (M! 12) (M! 13) (M! 14) (M! 15) (M! 16) (M! 17) (M! 18) (M! 19) (M! 20) (M! 21) (M! 22) (M! 23) (M! 24) (M! 25) (M! 26) (M! 27) (M! 28) (M! 29) (M! 30) (M! 31) (M! 32) (M! 33) (M! 34) (M! 35) (M! 36) (M! 37) (M! 38) (M! 39) (M! 40) (M! 41) (M! 42) (M! 43) (M! 44) (M! 45) (M! 46) (M! 47) (M! 48) (M! 49) (M! 50) (M! 51) (M! 52) (M! 53) (M! 54) (M! 55) (M! 56) (M! 57) (M! 58) (M! 59) (M! 60) (M! 61) (M! 62) (M! 63) (M! 64) (M! 65) (M! 66) (M! 67) (M! 68) (M! 69) (M! 70) (M! 71) (M! 72) (M! 73) (M! 74) (M! 75) (M! 76) (M! 77) (M! 78) (M! 79) (M! 80) (M! 81) (M! 82) (M! 83)
def Jts:Nonempty Ev:=#[default,#[λ_ _=>0,{ strHash:=UI!,shareClass:=UI!,mergeTok:=id,idOf:=UI!,idOfShared:=λ_ _=>0,followText:=gM!,idOfImm:=UI! }],[],Q5!,default,0,0,0,0,0,0,0,0,0,0,0,0,0,0,UI!,λ_=>default]
@[irreducible] noncomputable abbrev e0:Ev:=JYc Ev Jts λe=>¬rG e
def Jsu{α:IN}(ne:Nonempty α)(p:Kv! α)(x:α)(e:x=JYc α ne λa=>¬p a)(h:p x)(a:α):p a:=JrR (λn=>by subst e;show Classical.epsilon_spec (p:=λa=>¬p a) #[a,n] h)
def Jpt(h:rG e0)(e:Ev):rG e:=Jsu Jts rG e0 (by unfold e0;rfl) h e
noncomputable section
abbrev P:Program:=e0.1
abbrev w:World:=e0.2.1
abbrev K:W.Frag:=e0.2.2.1
abbrev mg:JkQ:=e0.2.2.2.1
abbrev base:FS!:=e0.2.2.2.2.1
abbrev C:G!:=e0.2.2.2.2.2.1
abbrev CW:G!:=e0.2.2.2.2.2.2.1
abbrev CP:G!:=e0.2.2.2.2.2.2.2.1
abbrev CI:G!:=e0.2.2.2.2.2.2.2.2.1
abbrev CD:G!:=e0.2.2.2.2.2.2.2.2.2.1
abbrev HE:G!:=e0.2.2.2.2.2.2.2.2.2.2.1
abbrev NH:G!:=e0.2.2.2.2.2.2.2.2.2.2.2.1
abbrev QS:G!:=e0.2.2.2.2.2.2.2.2.2.2.2.2.1
abbrev SF:G!:=e0.2.2.2.2.2.2.2.2.2.2.2.2.2.1
abbrev MI:G!:=e0.2.2.2.2.2.2.2.2.2.2.2.2.2.2.1
abbrev NW:G!:=e0.2.2.2.2.2.2.2.2.2.2.2.2.2.2.2.1
abbrev NL:G!:=e0.2.2.2.2.2.2.2.2.2.2.2.2.2.2.2.2.1
abbrev NR:G!:=e0.2.2.2.2.2.2.2.2.2.2.2.2.2.2.2.2.2.1
abbrev FA:G!:=e0.2.2.2.2.2.2.2.2.2.2.2.2.2.2.2.2.2.2.1
abbrev ao:G!:=L! 0
abbrev R5:G!:=L! 1
abbrev Qz:G!:=L! 2
abbrev bF:G!:=L! 3
abbrev Wp:G!:=L! 4
abbrev V9:G!:=L! 5
abbrev Ww:G!:=L! 6
abbrev W0:G!:=L! 7
abbrev Zj:G!:=L! 8
abbrev Y9:G!:=L! 9
abbrev Wv:G!:=L! 10
abbrev V4:G!:=L! 11
abbrev Yz:G!:=L! 12
abbrev Zf:G!:=L! 13
abbrev Y1:G!:=L! 14
abbrev Y7:G!:=L! 15
abbrev Zb:G!:=L! 16
abbrev Zl:G!:=L! 17
abbrev Zg:G!:=L! 18
abbrev Zk:G!:=L! 19
abbrev Wo:G!:=L! 20
abbrev Wq:G!:=L! 21
abbrev V3:G!:=L! 22
abbrev Y6:G!:=L! 23
abbrev Y8:G!:=L! 24
abbrev Y0:G!:=L! 25
abbrev Zc:G!:=L! 26
abbrev Zd:G!:=L! 27
abbrev Za:G!:=L! 28
abbrev V1:G!:=L! 29
abbrev K9:G!:=L! 30
abbrev K2:G!:=L! 31
abbrev Ld:G!:=L! 32
abbrev Lc:G!:=L! 33
abbrev K1:G!:=L! 34
abbrev K4:G!:=L! 35
abbrev Yy:G!:=L! 36
abbrev Kz:G!:=L! 37
abbrev K3:G!:=L! 38
abbrev K8:G!:=L! 39
abbrev K7:G!:=L! 40
abbrev La:G!:=L! 41
abbrev K0:G!:=L! 42
abbrev Ze:G!:=L! 43
abbrev Y5:G!:=L! 44
abbrev Wx:G!:=L! 45
abbrev R6:G!:=L! 46
abbrev Zi:G!:=L! 47
abbrev Zh:G!:=L! 48
abbrev Wn:G!:=L! 49
abbrev Wm:G!:=L! 50
abbrev Wj:G!:=L! 51
abbrev Le:G!:=L! 52
abbrev Lg:G!:=L! 53
abbrev Lf:G!:=L! 54
abbrev K5:G!:=L! 55
abbrev Lh:G!:=L! 56
abbrev K6:G!:=L! 57
abbrev V2:G!:=L! 58
abbrev Y4:G!:=L! 59
abbrev Q1:G!:=L! 60
abbrev R4:G!:=L! 61
abbrev Wb:G!:=L! 62
abbrev Wy:G!:=L! 63
abbrev Wf:G!:=L! 64
abbrev Wr:G!:=L! 65
abbrev V6:G!:=L! 66
abbrev Y3:G!:=L! 67
abbrev Y2:G!:=L! 68
abbrev Vy:G!:=L! 69
abbrev Yx:G!:=L! 70
abbrev Wh:G!:=L! 71
abbrev Wi:G!:=L! 72
abbrev V5:G!:=L! 73
abbrev We:G!:=L! 74
abbrev Wc:G!:=L! 75
abbrev Vz:G!:=L! 76
abbrev V8:G!:=L! 77
abbrev Ws:G!:=L! 78
abbrev V7:G!:=L! 79
abbrev Wa:G!:=L! 80
abbrev Wz:G!:=L! 81
abbrev Wu:G!:=L! 82
abbrev YT:G!:=L! 83
abbrev bK:J!:=N! 0
abbrev Xl:J!:=N! 1
abbrev R7:J!:=N! 2
abbrev bJ:J!:=N! 3
abbrev Xz:J!:=N! 4
abbrev Xk:J!:=N! 5
abbrev X9:J!:=N! 6
abbrev Yd:J!:=N! 7
abbrev Z8:J!:=N! 8
abbrev Zy:J!:=N! 9
abbrev X8:J!:=N! 10
abbrev Xf:J!:=N! 11
abbrev Zo:J!:=N! 12
abbrev Z4:J!:=N! 13
abbrev Zq:J!:=N! 14
abbrev Zw:J!:=N! 15
abbrev Z0:J!:=N! 16
abbrev cU:J!:=N! 17
abbrev Z5:J!:=N! 18
abbrev Z9:J!:=N! 19
abbrev Xy:J!:=N! 20
abbrev X0:J!:=N! 21
abbrev Xe:J!:=N! 22
abbrev Zv:J!:=N! 23
abbrev Zx:J!:=N! 24
abbrev Zp:J!:=N! 25
abbrev Z1:J!:=N! 26
abbrev Z2:J!:=N! 27
abbrev Zz:J!:=N! 28
abbrev Xc:J!:=N! 29
abbrev Lw:J!:=N! 30
abbrev Ln:J!:=N! 31
abbrev Lz:J!:=N! 32
abbrev Ly:J!:=N! 33
abbrev Lm:J!:=N! 34
abbrev Lp:J!:=N! 35
abbrev Zn:J!:=N! 36
abbrev Lk:J!:=N! 37
abbrev Lo:J!:=N! 38
abbrev Lv:J!:=N! 39
abbrev Lu:J!:=N! 40
abbrev Lx:J!:=N! 41
abbrev Ll:J!:=N! 42
abbrev Z3:J!:=N! 43
abbrev Zu:J!:=N! 44
abbrev Ya:J!:=N! 45
abbrev Xx:J!:=N! 46
abbrev Z7:J!:=N! 47
abbrev Z6:J!:=N! 48
abbrev Xw:J!:=N! 49
abbrev Xv:J!:=N! 50
abbrev Xu:J!:=N! 51
abbrev L8:J!:=N! 52
abbrev Ma:J!:=N! 53
abbrev L9:J!:=N! 54
abbrev Lq:J!:=N! 55
abbrev Mb:J!:=N! 56
abbrev Lr:J!:=N! 57
abbrev Xd:J!:=N! 58
abbrev Zt:J!:=N! 59
abbrev R9:J!:=N! 60
abbrev R8:J!:=N! 61
abbrev Xn:J!:=N! 62
abbrev Yb:J!:=N! 63
abbrev Xq:J!:=N! 64
abbrev X5:J!:=N! 65
abbrev Xh:J!:=N! 66
abbrev Zs:J!:=N! 67
abbrev Zr:J!:=N! 68
abbrev Xa:J!:=N! 69
abbrev Zm:J!:=N! 70
abbrev Xr:J!:=N! 71
abbrev Xt:J!:=N! 72
abbrev Xg:J!:=N! 73
abbrev Xp:J!:=N! 74
abbrev Xo:J!:=N! 75
abbrev Xb:J!:=N! 76
abbrev Xj:J!:=N! 77
abbrev X6:J!:=N! 78
abbrev Xi:J!:=N! 79
abbrev Xm:J!:=N! 80
abbrev Yc:J!:=N! 81
abbrev X7:J!:=N! 82
abbrev YU:J!:=N! 83
open E
structure Txt:B! where
 cl:ao!
 nN:Hx! Cg!
 nM:Hx! Ch!
 nT:Hx! Ci!
 nH:Hx! BE!
 nO:Hx! CN!
 nL:Hx! wn
 nR:Hx! Cj!
 cg:Ot! "House" C
 zp:Lo! "NotHeld" QS
 zk:Lo! "NotNear" SF
 cMI:Lo! "Missing" MI
 cNW:Lo! "NoWeight" NW
 len:Pt!
 range:JAK
 tuple:pD!
 sorted:cb!
 uM:JAO
structure P0:B! where
 cl:WK K CP
 nL:F_ K CP Ih!
 nW:F_ K CP KY!
 cg:Ot! "Post" CP
 cNL:Lo! "NoLetter" NL
 list:pC!
structure F1:B! where
 cl:WK K CW
 nS:Pz! Ck!
 nH:Pz! D1!
 nP:Pz! Bo!
 nI:Pz! Ij!
 nF:Pz! Ik!
 nE:Pz! KU!
 cg:Ot! "World" CW
 cNH:Lo! "NoHouse" NH
structure qv:B! where
 dict:YW! KO!
 list:pC!
 max:JAL
structure Jxy:B! where
 tuple:pD!
 sorted:cb!
structure dM:B! where
 cl:WK K CI
 nM:cq! Iz!
 nS:cq! CP!
 nF:cq! Fn!
 nT:cq! G5!
 cg:Ot! "Inquiry" CI
structure hV(cls:Addr)(n:Nat):B! where
 sub:Vs! cls
 isX:mR K cls
 k7:WD! cls
structure f':B! where
 cNR:JRQ
 len:Pt!
 int:JAM
 zip:YW! IR!
 str:JAN
structure qw:B! where
 cl:WK K CD
 nW:F_ K CD NN!
 cg:Ot! "Desk" CD
structure Jqv:B! where
 mg:Ot! "FORMS" FA
 at_:wA!
def Du{n:Nat}(h:n<=20000):XA!:=dG!
@[reducible]abbrev EM := Jdy YV
@[reducible]abbrev HN := Jdy OV!
structure GG:B! where
 T:Txt
 TW:F1
 TP:P0
 TI:dM
 TF:Jxy
 Tx:qv
 TR:f'
 TK:qw
 FK:Jqv
 y5:pC!
 y1:JAK
 y7:JAL
 y0:Pt!
 y2:pD!
 y3:cb!
 sv:YW! "min"
 y11:YW! XM!
 y8:JAM
 y4:JAO
 su:JAN
 FI:JRU ao bK
 bI:Sc! bK L6!
 mQ:p6! ao
 sU:JRV R5 Xl
 vo:JBf Xl
 i5:JKz
 sS:HC K fy! hH! r8 Qz R7
 vn:pz! R7
 i4:JKy
 mM:JVI
 mFr:JVY
 mPa:JVg
 mCa:JVU
 mAd:JVV
 mGi:JVW
 mPs:JVh
 mCl:JVJ
 mSt:JTt
 mTo:JdC
 mNe:JRS
 mSp:JVF
 mQH:JRe
 mPR:JVZ
 mAR:JTz
 mLo:JT0
 mGb:JTu
 mHo:JVR
 mDr:JVS
 mTa:JVT
 mQN:JSR
 mQG:JTx
 mTi:JVK
 mPP:JRg
 mPL:JVk
 mPT:JVl
 mWM:JdG
 mWFr:JeI
 mWSe:JeJ
 mWCl:JdH
 mWDe:JeK
 mWSt:JTs
 mWLe:JVi
 mWH:JQz
 mWWe:JVL
 mWPa:JVM
 mWGb:JT5
 mWHo:JdR
 mWDr:JdS
 mWTa:JdT
 mP1:K0! Xh! Mh [Fl!] Ze Z3
 mR1:TP! Xi! Ie NO! wn Y5 Zu
 mC1:TP! Xj! rM D5! Ix! Wx Ya
 sV:JRW R6 Xx
 vp:Sc! Xx L7!
 i6:JQf
 mIF:JVm
 mIS:JVn
 mIL:JVa
 mIR:JVb
 mLH:JVX
 mWAs:JdI
 mWAc:JVN
 mWAn:JVO
 mWLc:JVP
 mWAa:JT6
 mWLa:JVj
 mUn:JTK V2 Xd
 mRc:JTL Y4 Zt
 sW:HC K fy! hK! rj Q1 R9
 vq:pz! R9
 i7:JQe
 mSy:JeN
 mMo:JdU
 mAt:JdV
 mLk:JdW
 mDh:JVo
 mRw:TP! Xk! Jc Rh! G2! V6 Xh
 mRd:JbF Y3 Zs
 mRn:K0! Xl! Ic [G3!] Y2 Zr
 mWt:JXd Vy Xa
 mWl:JXe Yx Zm
 mLi:vQ! Wh Xr
 mLg:JXf Wi Xt
 mSm:TP! JYN xu CQ! Cl! V5 Xg
 mLl:K0! "_law_list" wZ [Ri!] We Xp
 mLs:cX! "_law_say" wY NP! Wc Xo
 mWk:cX! "_law_walk" wj Cl! Vz Xb
 mPk:K0! "_law_pick" wc WE! V8 Xj
 mCo:cX! "_law_come" wX NQ! Ws X6
 mRo:K0! "_law_row" wK dh! V7 Xi
 mNx:TP! "_law_next" xJ Iy! CQ! Wa Xm
 mAl:cX! JYW Uj CQ! Wz Yc
 mCm:K0! "_law_calm" wW dg! Wu X7
 FW:HC K Kf! Kf! iD YT YU
 X1:hV QS 1
 X2:hV SF 2
 X3:hV MI 3
 X4:hV NW 4
 cHE:Lo! "HoldError" HE
 cNR:JRQ
def Jxm(k:GG->JdA):JgG:=by intro h X Gn aC aCW aCP aCI aCD aHE aNH aNHd aNNr aMI aNW aNL aNR q3 q4 xNH xNHd xNNr xMI xNW xNL xNR xHE sNHd qaNHd qbNHd qcNHd qdNHd qeNHd tNHdNR sNNr qaNNr qbNNr qcNNr qdNNr qeNNr tNNrNR sMI qaMI qbMI qcMI qdMI qeMI tMINR sNW qaNW qbNW qcNW qdNW qeNW tNWNR aFA hF hI hPI hWI mM mFr mPa mCa mAd mGi mPs mCl mSt mTo mNe mSp mQH mPR mAR mLo mGb mHo mDr mTa mQN mQG mTi mPP mPL mPT mWM mWFr mWSe mWCl mWDe mWSt mWLe mWH mWWe mWPa mWGb mWHo mWDr mWTa mP1 mR1 mC1 hII mIF mIS mIL mIR mLH mWAs mWAc mWAn mWLc mWAa mWLa mUn mRc hDI mSy mMo mAt mLk mDh mRw mRd mRn mWt mWl mLi mLg mSm mLl mLs mWk mPk mCo mRo mNx mAl mCm hW cC nC0 nC1 nC2 nC3 nC4 nC5 nC6 cCW nCW0 nCW1 nCW2 nCW3 nCW4 nCW5 cCP nCP0 nCP1 cCI nCI0 nCI1 nCI2 nCI3 cCD nCD0 z0 z1 z2 z3 z4 z5 z6 z7 z8 z9 z10 z11 z12 z13;have y0:=C5! z0;have y1:=C5! z1;have y2:=C5! z2;have y3:=C5! z3;have y4:=C5! z4;have y5:=C5! z5;have y6:=C5! z6;have y7:=C5! z7;have y8:=C5! z8;have y9:=C5! z9;have sv:=C5! z10;have y11:=C5! z11;have y12:=C5! z12;have su:=C5! z13;have gC:=C4! aC;have#[pgC,hdC,poC,saC,mkC,kcC]:=cC;have gCW:=C4! aCW;have#[ya,zN,yW,yL,yp,yx]:=cCW;have gCP:=C4! aCP;have#[yb,zO,yX,yM,yq,yy]:=cCP;have gCI:=C4! aCI;have#[yc,zP,yY,yN,yr,yz]:=cCI;have gCD:=C4! aCD;have#[yd,zQ,yZ,yO,yt,y_]:=cCD;have gHE:=C4! aHE;have gNH:=C4! aNH;have zX:=C4! aNHd;have zW:=C4! aNNr;have gMI:=C4! aMI;have gNW:=C4! aNW;have gNL:=C4! aNL;have gNR:=C4! aNR;have gFA:=C4! aFA;have#[aI,iI,FI]:=hI;have bI:=mR! L6! aI iI FI;have mQ:p6! ao:=#[mkC,aI,iI,kcC];have#[aPI,iPI,sU]:=hPI;have vo:=mR! A4! aPI iPI sU;have i5:JKz:=#[yq,aPI,iPI,yy];have#[aWI,iWI,sS]:=hWI;have vn:=JHd aWI iWI sS;have i4:JKy:=#[yp,aWI,iWI,yx];have#[aII,iII,sV]:=hII;have vp:=mR! L7! aII iII sV;have i6:JQf:=#[yr,aII,iII,yz];have#[aDI,iDI,sW]:=hDI;have vq:=JHd aDI iDI sW;have i7:JQe:=#[yt,aDI,iDI,y_];show k #[#[#[pgC,hdC,poC,saC],nC0,nC1,nC2,nC3,nC4,nC5,nC6,gC,#[zX,xNHd],#[zW,xNNr],#[gMI,xMI],#[gNW,xNW],y0,y1,y2,y3,y4],#[#[ya,zN,yW,yL],nCW0,nCW1,nCW2,nCW3,nCW4,nCW5,gCW,#[gNH,xNH]],#[#[yb,zO,yX,yM],nCP0,nCP1,gCP,#[gNL,xNL],y5],#[#[yc,zP,yY,yN],nCI0,nCI1,nCI2,nCI3,gCI],#[y2,y3],#[y6,y5,y7],#[#[gNR,xNR],y0,y8,y12,su],#[#[yd,zQ,yZ,yO],nCD0,gCD],#[gFA,hF P],y5,y1,y7,y0,y2,y3,sv,y11,y8,y4,su,FI,bI,mQ,sU,vo,i5,sS,vn,i4,mM,mFr,mPa,mCa,mAd,mGi,mPs,mCl,mSt,mTo,mNe,mSp,mQH,mPR,mAR,mLo,mGb,mHo,mDr,mTa,mQN,mQG,mTi,mPP,mPL,mPT,mWM,mWFr,mWSe,mWCl,mWDe,mWSt,mWLe,mWH,mWWe,mWPa,mWGb,mWHo,mWDr,mWTa,Af! mP1.TV,Af! mR1.TV,Af! mC1.TV,sV,vp,i6,mIF,mIS,mIL,mIR,mLH,mWAs,mWAc,mWAn,mWLc,mWAa,mWLa,Af! mUn.TV,Af! mRc.TV,sW,vq,i7,mSy,mMo,mAt,mLk,mDh,Af! mRw.TV,Af! mRd.TV,Af! mRn.TV,Af! mWt.TV,Af! mWl.TV,Af! mLi.TV,Af! mLg.TV,Af! mSm.TV,Af! mLl.TV,Af! mLs.TV,Af! mWk.TV,Af! mPk.TV,Af! mCo.TV,Af! mRo.TV,Af! mNx.TV,Af! mAl.TV,Af! mCm.TV,hW.fn,fO! sNHd qaNHd qbNHd qcNHd qdNHd qeNHd qdNHd tNHdNR,fO! sNNr qaNNr qbNNr qcNNr qdNNr qeNNr qdNNr tNNrNR,fO! sMI qaMI qbMI qcMI qdMI qeMI qdMI tMINR,fO! sNW qaNW qbNW qcNW qdNW qeNW qdNW tNWNR,#[gHE,xHE],#[gNR,xNR]]
inductive sJ(vs:C!)(H:Hp)(Q:VK)(E:XK):B!
 | mk (p t:Addr) (G:BZ) (th:T2) (_:GV!) (_:KM) (_:GZ!) (_:cW! (NI! th.1))
inductive Ow(vs:C!)(H:Hp)(Q:VK)(E:XK):B!
 | mk (p t:Addr) (G:BZ) (th:T2) (_:GV!) (_:KM) (_:GZ!) (_:((th∈G.hand/\Q wS H)\/(th∉G.hand/\OA! QS)))
inductive x5(vs:C!)(H:Hp)(Q:VK)(E:XK):B!
 | mk (p t:Addr) (G:BZ) (th:T2) (_:GV!) (_:KM) (_:GZ!) (_:((NI! th.1/\Q wS H)\/(th.1≠G.num/\JA7)))
abbrev xW(G:BZ)(ta tb:T2)(good:Ay! G! E!)(nh nn mi:B!):B! :=
 (Xm!/\nh)\/(Ak!/\UW!/\nn)\/(Ak!/\GM!/\G_ λ(a:Addr)(hl:List T2)=>JGz=D! (ta,a,hl)/\((tb∉hl/\mi)\/(tb∈hl/\good a hl)))
inductive Tt(vs:C!)(H:Hp)(Q:VK)(E:XK):B!
 | mk (p a b:Addr) (G:BZ) (ta tb:T2) (_:er!) (_:KM) (_:Jm!) (_:BS!) (_:JM9 (Q wS H))
open S
def scN:WA! Kg:={}
def x9(F:a! "is_near" "House.is_near" Kg)(T:Txt):pX! sJ:=by show D? scN;show CU?;show A?;show C?;show#[_,Af (Aq (Ju7 (Jva Hc! Aa!))),?_];show O? #[t,_,0,_,A!,A!,Bt! ht,A!,_,A!,p,C,dx,_,_,A!,hp,q!,T.nN,Jbe G,_,_,A!,A!,k]
def Ms(hd:JFp)(ht:GZ!):dr! (Yk! (th∈l) kJ!):=JQu Md
def Jy1:WA! Hg:={}
def O7(F:a! "need_in_hand" "House.need_in_hand" Hg)(T:Txt):JiD f fd Ow:=by
 show W? Jy1;show CU?;show A?;show K?;show C?;show C3? (JUq T.zp);show NQ? I0! (F9 G) G.h (Ms I1! ht);show E2?;.rw[AF h];show Bs k
 .rw[AD h];show B3 k
open E
open S
def Jy0:WA! Kf:={}
def Jfu(F:a! "need_near" "House.need_near" Kf)(T:Txt)(M1:MY!):OD! 2 JC! x5:=by
 show Os?;show W? Jy0;show CU?;show A?;show K?;show C?;show C3? (ln! (ri (Hh (mD! Fo! G1 D6!))) T.zk);show#[o?,Cc? dx hp Cu! _ A! p t G th S ht];show E2?;.rw[AI h];show Bs k
 .rw[AG h];show B3 k
def Jws:em! Mi:={}
def Qs(S:KM)(ht:GZ!)(f:JLT):JRs/\JIR/\(th,a,hl)∈G.holds:=by have:=JkI S.dl;show U? Jp0 f;show#[this,S.hl _ (BH f),BH f]
def Ja0(F:a! "need_holding" "House.need_holding" Mi)(T:Txt)(M1:MY!)(M2:Qa!)(M3:e8!):JFn Tt:=by
 show Dq?;have G3:O1! f3 lx JC! x5:=JUZ;show W? Jws;show D8?;show A?;show K?;show Q?;show C?;show Gk? (Z1! JYj (ln! (Ff (Fh hu KB QD!)) T.cMI));show NI?;rcases k with⟨h,k⟩|⟨h,h2,k⟩|⟨h,h2,ad,hl,WZ,k⟩;.show r? h k
 show AH? #[QY? (E9! h2 k)]
 .show Gf?;show y! #[QY? (W! #[h2,?_])];show#[L?,Fa?,hp,q!,CR!,E9 G,_,A!,Aj!,_,A!,g1,ad,_,A!,Ms g2 hb,_,A!,?_];rcases k with⟨h3,k⟩|⟨h3,k⟩;(.rw[AD h3];show B3 k);.rw[AF h3];show Bs k
open E
open S
abbrev Done(p:Addr)(G:BZ)(H:Hp)(G':BZ)(k:H6!):B!:=∀H',PE! G'->lZ!->k H'
inductive sH(vs:C!)(H:Hp)(Q:VK)(E:XK):B!
 | mk (p a b:Addr) (G:BZ) (ta tb:T2) (_:er!) (_:KM) (_:Jm!) (_:BS!) (_:Jmo (¬(Ak!/\BH!)) ((Ak!/\BH!/\UW!/\JA7)\/(Ak!/\BH!/\GM!/\G_ λ(ad:Addr)(hl:List T2)=>JGz=D! (ta,ad,hl)/\hl.length<=500/\JX9 c1!)))
inductive sE(vs:C!)(H:Hp)(Q:VK)(E:XK):B!
 | mk (p a b:Addr) (G:BZ) (ta tb:T2) (_:er!) (_:KM) (_:Jm!) (_:BS!) (_:xW G ta tb (λad hl=>JX9 df!) (jT! QS) (jT! SF) (jT! MI))
inductive sM(vs:C!)(H:Hp)(Q:VK)(E:XK):B!
 | mk (p a b:Addr) (G:BZ) (ta tb:T2) (_:er!) (_:KM) (_:Jm!) (_:BS!) (_:UY!) (_:JM9 (JCm SO!))
inductive sG(vs:C!)(H:Hp)(Q:VK)(E:XK):B!
 | mk (p b:Addr) (G:BZ) (tb:T2) (_:JAG) (_:KM) (_:BS!) (_:Jmo Xn! (BH!/\JCm (Jq AE! tb)))
def Fd(hd:d∈CS!)(hf:WH! G1)(e:H1=IR H d o)(S1:F8! H1 G1)(D:Done p G H w8! k) : k (IR H1 p (Yd! (B9 w8!))):=by show D _ (S1.fld dx G1.BB (G1.BJ+1)) λb o' e1 h1 h2=>?_;rw[Ad h1,e,Ad (Zl! h2 hd)];show e1
def scH:em! m6:={}
def Jbk(h:gv!):WP∈CS!:=by unfold BX;show ZD _ (BL! (BL! (BL! (BK h))))
def Jr5(F:a! Ba! "House.hold" m6)(T:Txt)(M1:MY!)(M2:Qa!)(M3:e8!):JFn sH:=by
 show Dq?;have G3:O1! f3 lx JC! x5:=JUZ;show W? scH;show D8?;show A?;show K?;show Q?;show C?;show Gk? (PM! (iC! q! I2! G2 GZ Fp! KB) (PM! JYj (Ac (Cs hu QD! KB Nd A!) on!)));show NI?;by_cases h1:Ak!;.show Hu? h1 b tb hb;by_cases h2:BH!;(.show Hu? h2 a ta ha;rcases k with⟨h,k⟩|⟨_,_,h,k⟩|⟨_,_,h,ad,hl,WZ,z,k⟩;(.show I? d3! h);(.show r? h k);.show Gf?;show y! #[h,Fa?,hp,q!,CR!,E9 G,_,A!,Aj!,_,A!,g1,_,A!,ad,_,A!,JnR g2,?_];rw[Gb];show EX? ad c1! (Jnx c1!) (JaU Cb);show T?;show Aa?;rw[Bq];show JYS c1!);.rcases k with⟨h,k⟩|⟨_,h,_⟩|⟨_,h,_⟩;(.show r? h2 k);(.show AY? h2);.show AY? h2
 .rcases k with⟨h,k⟩|⟨h,_⟩|⟨h,_⟩;(.show r? h1 k);(.show AY? h1);.show AY? h1
def scD:em! my:={}
def Jr7(F:a! Gk! "House.drop" my)(T:Txt)(M1:MY!)(M2:Qa!)(M3:e8!)(M4:JTw) : JG5 sE:=by
 have G4:HN 3 f4 vK YS! (Tt):=JcZ M3;show W? scD;show D8?;show A?;show K?;show C?;show A2? JdX (JEM (Jjy Km QD! KB));show#[P5? G ta tb S ha hb];show G8?;show AJ?
 .show Bi? k
 .show AL? #[h1,h2,ad,hl,WZ,?_];show E3?;(.show E? k);.show Gf?;show R? #[h3,_,A!,p,C,dx,_,_,A!,hp,q!,CR!,E9 G,_,A!,Aj!,Eg? _ A! g1 ad g2 (tk tb) b g2 hb (GJ! Md (AF h3))];show Lv?;show EX? ad df! (Jnx df!) (JaU Jq);show T?;show Aa?;rw[Bq];show JYS df!
def Jyr:em! mf:={}
def Jr0(F:a! Gl! "House.take" mf)(T:Txt)(M1:MY!)(M2:Qa!)(M3:e8!)(M4:JTw) : JG5 sM:=by
 have G4:HN 3 f4 vK YS! (Tt):=JcZ M3;show W? Jyr;have#[p,a,b,G,ta,tb,rfl,S,ha,hb,z,k]:=h;show A?;show K?;show C?;show A2? JdX (qN! Nd on!);show#[P5? G ta tb S ha hb];show G8?;show AJ?
 .show Bi? k
 .show AL? #[h1,h2,ad,hl,WZ,?_];show E3?;(.show E? k);.show R? #[h3,_,A!,M0? I0! (F9 G) G.h I1!];rw[Gb];show Gc?;show T?;show Aa?;rw[Bq];show JlE S9!
def tU:zA! OP! mz:={}
def Jr6(F:a! Gm! "House.free" mz)(T:Txt)(M2:Qa!) : JIW sG:=by
 show Dq?;show W? tU;have#[p,b,G,tb,rfl,S,hb,k]:=h;show A?;show K?;show C?;show A2? (mD! I2! G2 Fp!) (JEM (JoT No));show#[Q6? b tb hb];rcases k with k|⟨h,k⟩;.show G? k
 .show y! #[h,_,Ei? dx hp,Eg? q! I0! (F9 G) G.h I1! (tk tb) b I1! hb (GJ! Md Ed!)];show Lv?;show EX? G.h (Jq AE! tb) nN! (S.QF (Jq AE! tb));show T?;show Aa?;rw[Bq];show JlE nN!
open E
open S
abbrev Ir(n:Int):GE:=BX! (n=1) 1 (n / 2)
inductive Jet(vs:C!)(H:Hp)(Q:VK)(E:XK):B!
 | mk (n:Int) (_:vs=[Ho!]) (_:JDZ [He! (n-Ir n),XV (Ir n)])
def scP:Or! [Fl!,"goes"] Fl! Mh:={}
def Jll(F:a! Xh! Xh! Mh):EM 1 f fd [Fl!] Jet:=by
 show D? scP;have#[n,rfl,k]:=h;show A?;show Hk? bv (Z6! D0 (HE! Ag Ag)) (Jgp 1 scP.nd rG! (sH! (A3 sN bv No) No));show V?;show Nr (nO!) (nO!);.have c1:n=1:=V.int.inj (BI c1);subst c1;show#[show DM! 2 by decide,Dv! (k p hp)]
 ·(have c1:¬n=1:=λz=>by rw[z] at c1;simp at c1);show Me?;show#[e?,A!,_,_,A!,A!,_,A!,JJq,EU!];have:=k p hp;unfold Ir at this;show H? (AD c1);show this
abbrev R3(l:R!)(t:T2):GE:=u2!
inductive Jjd(vs:C!)(H:Hp)(Q:VK)(E:XK):B!
 | mk (p b:Addr) (G:BZ) (tb:T2) (wt:Int) (_:JAG) (_:KM) (_:BS!) (_:Jir I3! wt) (_:Lw!) (_:JZd w1!)
def Jn(hd:rk!)(ht:GZ!):dr! ((Gt! (Kt! O6!)).map GL!):=JQu e0!
def iO:zA! [DU!,"b",Fl!,"halves"] Uc:={}
def Jo0(F:a! JXH JXI Uc)(T:Txt)(MP:JVG):JIW Jjd:=by
 have GP:HN 1 fP fdP [Fl!] Jet:=hR! (Jll MP.fn);show W? iO;have#[p,b,G,tb,wt,rfl,S,hb,WZ,z,k]:=h;show A?;show K?;show C?;show RM? BG! wt (JUu S.dr)
 show Ca? iO.nd QD! (Ac (lo! KB (zk! T.cNW)) (Yy! iO.nd (A7 GP hr Ks! MP.mg MP.fn.kp MP.bd U! Bk yX!) (am! ox! (Cq! ox!))));show Qs? dx hp G6! (De G) BG! g1;show V?;show E2?;.rw[Ge! (JRN=true) (AI (by rw[h]))];show B3 k
 .rw[Ge! (A9! JRN) (AG λe=>h (V.int.inj e))];show k?;show Bf? wt Cy!;have s1:=Sl! (AU! (jf!)) (AU! (Ir wt)) ht;show AN?;have t1:Pd! (E4! H t ii vl!) t vl!:=Ab;have b1:=Uh! hb;generalize dL! t vl!=H1 at s1 S1 t1 b1;show T?;show#[A0? t,0,_,A!,A!,Bt! t1,A!,_,A!,EO? C HM IJ q! G6! (De G) BG! (iY! tb S1.dr b1 (Jhp z))];rw[E3];have S2:F8! (E4! H1 BG! Dp (Bm AN! tb (jf!))) w1!:=S1.VN _;have tr:t≠G.r:=λe=>(S1.tup_ne t1).2 (JhO e);show#[L?,EN? t _ 1 (DQ! (WF tr t1))];show k _ S2 xA!;show Ha?;show P! s1 e
open E
open S
inductive xK(vs:C!)(H:Hp)(Q:VK)(E:XK):B!
 | mk (p b:Addr) (G:BZ) (tb:T2) (wt:Int) (_:eS!) (_:KM) (_:BS!) (_:Lw!) (_:S6! (hB! (jJ! (R3 AN! tb+wt))))
def Jy6:en! kD:={}
def Jjx(F:a! "add_to_record" "House.add_to_record" kD)(T:Txt):JAu xK:=by
 show D? Jy6;show D9?;show A?;show K?;show C?;show#[_,Af (Jml (JD0 Aa! No KB)),?_];have ei:((I3! (Kt! Y4!)).map GL!).getD (AU! 0)=AU! (R3 AN! tb):=by unfold R3;cases N5! I3! Y4!<;>rfl
 show QV? (Jn S.dr hb);rw[ei];show#[Ax? _ _ A! A!,M0? G6! (De G) BG! S.dr];rw[E3];show k _ (S.VN _) xA!;show Ha?;show e
inductive xw(vs:C!)(H:Hp)(Q:VK)(E:XK):B!
 | mk (p b:Addr) (G:BZ) (tb:T2) (wt:Int) (_:eS!) (_:KM) (_:BS!) (_:Lw!) (_:S6! JGg)
def Jy5:en! Uk:={}
def Jo4(F:a! "added" JW1 Uk)(T:Txt)(M5:JTy):JCS xw:=by show PQ?;show D? Jy5;show D9?;show A?;show C?;show A2? JdZ on!;show#[_,A!,p,dx,_,A!,hp,Cu!,_,A!,_,A!,p,b,G,tb,wt,A!,S,hb,z,Jl!];show T?;show Aa?;rw[Bq];show JY2
inductive xM(vs:C!)(H:Hp)(Q:VK)(E:XK):B!
 | mk (p b:Addr) (G:BZ) (tb:T2) (wt:Int) (_:eS!) (_:KM) (_:BS!) (_:UY!) (_:Ly!) (_:Lw!) (_:((Ti!/\pq! (JCl SO! JB4))\/(GP!/\S6! JWd)))
def scC:en! mn:={}
def Jr9(F:a! "came" "House.came" mn)(T:Txt)(M1:MY!)(M5:JTy) : JCS xM:=by
 have G1:E6! f1 c9 JC! sJ:=x9 NR! T;show PQ?;show D? scC;have#[p,b,G,tb,wt,rfl,S,hb,z1,z2,z3,k]:=h;show A?;show K?;show C?;show Aw? (Jml Nd) (S8! (Bh (Hh (iq! q! Fo! G1 hr D6! No)) (Af (JrC KB Jpk)) (Yi! JdZ)) ie!);show NS? (JiK I1! z1);rw[Gb];show Gc?;show ML?
 show Ot?;show Ok?;show G9?;show T?;show#[o?,Cc? HM IJ (Ce _ ZV) _ A! p b _ tb S1 b1];rcases k with⟨h,o,WZ,k⟩|⟨h,k⟩;.rw[Ge! (JI! Is! xB!=true) (AI h)];show f?;(show Ni? o (by have:=Jn S1.dO b1;show U? (RQ! ((S9!:BZ).AL=G.AL)) WZ;show this));show#[L?,p,C,HM,_,_,A!,IJ,q!,Be? DV! (D3 _) A! wp _ A! g1 _ A! _ _ (JQw JLd)];rw[E3];have S2:=S1.NK JEp;show Mh? JEp;show Au?;show Gj?;rw[Bq];show JY3
 .rw[Ge! (A9! (JI! Is! xB!)) (AG h)];show k?;show#[_,A!,p,HM,_,A!,IJ,Ce _ ZV,_,A!,_,A!,p,b,_,tb,wt,A!,S1,b1,z3,λH2 S2 PY=>?_];show Au?;show Gj?;rw[Bq];show JkM S2.fld LK (WF h1 (PY _ _ (NP _ _ e h1 h2) h1 h2))
inductive xR(vs:C!)(H:Hp)(Q:VK)(E:XK):B!
 | mk (p b:Addr) (G:BZ) (tb:T2) (sh:Int) (_:Ya! Cs! (Ix sh)) (_:KM) (_:BS!) (_:Ly!) (_:Lw!) (_:JZU (pq! (Done p G H (JHy (o+sh)) (Q (XV sh)))) (JZd { G with BJ:=Kx!,AK:=jJ! jf! }))
def iM:A3! [DU!,"b",Ck!,"goes"] Tu! mZ:={}
def Jr1(F:a! "part" "House.part" mZ)(T:Txt)(M1:MY!)(M2:Qa!)(M6:B8! C JXH JXI Uc OP! f6 fd6)(MP:JVG) : OD! 3 Tu! xR:=by
 show Os?;show Dq?;have G6:O1! f6 fd6 OP! Jjd:=Jo0 M6.fn T MP;show W? iM;have#[p,b,G,tb,sh,rfl,S,hb,z1,z2,k]:=h;show A?;show K?;show Q?;show C?;show Gk? (Ac (Bh (Hh (iC! q! Fo! G1 GZ D6! No)) (Ac (O2 hu Aa! No KB Ec (λ_ _ _=>rfl)) (JLL KB)) (JLL (mD! M6.mt G6 M6.bd))) (JG9 3));show#[Q6? b tb hb];rcases k with k|⟨h1,h2,o,WZ,k⟩|⟨h1,h2,wt,WZ,k⟩;.show G? k
 .show P9?;rw[AI h2];show f?;(show RM? wp o (JUu S.dO));show L2? JLH;rw[E3];show JX? (o+sh) (o+sh);show T?;show#[L?,Qn? HM IJ T.nT (Cq _) HM IJ (Ed _)];rw[Bq];show#[_,A!,?_];show F4? (o+sh)
 .show P9?;rw[AG h2];show k?;show#[Ec?,_,A!,hp,Cu!,_,A!,p,b,G,tb,wt,A!,S,hb,WZ,z2,?_];show E3?;(.show E? k);.show R? #[h3,Jl!];show T?;show Aa?;rw[Bq];show O? JY2
open E
inductive PK(vs:C!)(H:Hp)(Q:VK)(E:XK):B!
 | mk (p dx:Addr) (n:Int) (_:ca!) (_:JP! pU!) (_:∀(h o l r:Addr)(H':Hp),H h=none->BJ! o->OQ!->aT!->PE! (Jhg n r)->r1!->JO!)
inductive sI(vs:C!)(H:Hp)(Q:VK)(E:XK):B!
 | mk (p:Addr) (G:BZ) (_:GW!) (_:KM) (_:UY!) (_:Ly!) (_:Jaa 500) (_:JEN) (_:(wt!)) (_:(we!)) (_:∀(t a:Addr)(H':Hp),oF!->L9!->JP2->PE! { G with BB:=EO!,BJ:=Kx!,hand:=Of!,AL:=MK!,holds:=Zd! }->lZ!->o0!)
inductive Jnd(vs:C!)(H:Hp)(Q:VK)(E:XK):B!
 | mk (p:Addr) (G:BZ) (_:GW!) (_:KM) (_:Oh! Gs!)
inductive UD(H:Hp)(v:V)(r:Dd!):B!
 | mk (a t hd:Addr) (cs:X!) (_:Ls!) (_:jb! JYM) (_:JBs) (_:Bq! hd (iL! cs.map)) (_:JIU)
def UD.keep(x:UD H v r)(k:BV!):UD H' v r:=by have#[a,t,hd,cs,e,e1,e2,e3,e4]:=x;show#[a,t,hd,cs,e,qL!,VU!,P! k.BV e3,cY! e4]
def UD.rep(x:UD H v r):q1! j8 r:=by have#[a,t,hd,cs,rfl,e1,e2,e3,e4]:=x;show NA! (DQ! e1) (am (Th e2) (JMh (JMJ e3 e4)))
inductive eD(H:Hp)(x:Addr)(hs:E!)(os:Ae!)(rs:R!):B!
 | mk (y1 y2 y3:Addr) (as:X!) (bs:C!) (ds:X!) (_:LE! x JY7) (_:Bq! y1 Jhu) (_:Yz! hs) (_:LE! y2 bs) (_:JU7) (_:(∃ob,Bq! y3 (.IC ob (iL! ds.map))/\Jqr ob)) (_:JkH H ds)
def Jfb:∀{as:X!} {rs:R!},JI1->P4! JAo If! wN
 | _,_,.nil=>U!
 | _,_,.cons #[ka,e1,e2] t=>L8! (NA! (DQ! e1) (am (Th e2) (Oc! (XV _)))) Jfb t
def Je8:∀{bs:C!} {os:Ae!},JU7->P4! bs DR! j8
 | _,_,.nil=>U!
 | _,_,.cons r t=>L8! r.rep Je8 t
def eD.rep{H:Hp}{x:Addr}{hs:E!}{os:Ae!}{rs:R!}(h:JMw):JDL J0!:=by have#[y1,y2,y3,as,bs,ds,e,e1,t1,e2,r2,#[ob,e3,_],r3]:=h;show NA! (DQ! e) (am (JMJ e1 t1) (am (NA! (DQ! e2) (Je8 r2)) (am (NA! (VF! #[_,e3]) (Jfb r3)) U!)))
inductive xS(vs:C!)(H:Hp)(Q:VK)(E:XK):B!
 | mk (p t:Addr) (G:BZ) (th:T2) (w:Int) (a:Addr) (hl hs:E!) (_:GV!) (_:KM) (_:GZ!) (_:Dc! (Nw! G.AL.find? O6!) th w) (_:JLT) (_:hl.length<64) (_:hs.Perm hl) (_:cg!) (_:JOL (UD H' J0! (th,w,hs)))
structure Rows(G:BZ)(os:Ae!):B! where
 pm:(DR! be).Perm (NH! be)
 pw:(DR! be).Pairwise LI
 at_:Jex
inductive Ov(vs:C!)(H:Hp)(Q:VK)(E:XK):B!
 | mk (p:Addr) (G:BZ) (hs:E!) (os:Ae!) (rs:R!) (_:GW!) (_:KM) (_:nQ!) (_:nR!) (_:nS!) (_:tQ!) (_:cg!) (_:tt!) (_:C9!) (_:FQ!) (_:JOL (eD H' x hs os rs))
open S
def scI:A3! L6! L6! m7:={}
def VQ(F:Uq! JWx m7)(T:Txt):HZ! L6! PK:=by
 show D? scI;have#[p,dx,n,rfl,hp,k]:=h;show A?;show Ay? JBK (qI! pj! pj! c4! c4! (S8! c4! c4!));show Ih? C q! T.nN;show B2? Ab T.nM JP7;rw[Iw];show#[o?,C,dx,_,A!,Ab,q!,T.nT,(by rw[Eu,Cd Hi,Eu];change 2<1000;decide),?_];rw[Iw];have step:∀{H1:Hp} {d:Addr} {fs:EX!} {o:HO},N3! H1 Sh!->JkS H1->ZI! d->N3! (IR H1 d o) Sh!/\JkS (IR H1 d o)/\d≠p/\oD!:=λ{H1 d fs o} e1 e2 e3=>by have uE:RU!:=Al e1 e3;show#[WF uE e1,Rj! (WF (Al (e2 b u e hb) e3) (e2 b u e hb)),uE.symm,?_];cases q:H d with | none=>rfl | some u=>rw[e2 d u q uE.symm] at e3;cases e3
 have a0:Zf! (EG! p (Yd! (As Ci! (Az! 0) Jhf))):=Rj! (Yh! hb)
 intro d1 h1;have#[b1,b2,b3,b4]:=step (o:=BA! []) Ab a0 h1;show B2? b1 I0! ?_;.show DX?;show DW?;show Dl?;show CV?;show LT!
 have c0:∀{H1:Hp} {fs:EX!},(Zf! H1)->Zf! (IR H1 p Sh!):=λe b u e1 hb=>WF hb (e b u e1 hb)
 intro d2 h2;have#[b5,b6,b7,b8]:=tO! b2 h2;show B2? b5 DV! ?_;.show GW?;show DX?;show DW?;show Dl?;show CV?;show CT _ _
 intro d3 h3;have#[b9,b10,vt,b12]:=tO! b6 h3;show B2? b9 CR! ?_;.show M4?;show GW?;show DX?;show DW?;show Dl?;show CV?;show LT!
 intro d4 h4;have#[b13,b14,b15,b16]:=tO! b10 h4;show B2? b13 G6! ?_;.have:=Ba wn (EQ d3) (As CN! (EQ d2) (JpP d1 (Az! 0) Jhf));show M4?;show GW?;show DX?;show DW?;show Dl?;show CV?;show LT!
 show No? GU!
 show Np? GU! GU!
 show MM? Pc!
 have n14:d1≠d4:=λz=>by rw[<-z,GU!,Ad gX,GU!,Ad cb,GU!,Ab] at h4;cases h4
 have n24:d2≠d4:=λz=>by rw[<-z,Pc!,Ad gV,Pc!,Ab] at h4;cases h4
 have n34:d3≠d4:=λz=>by rw[<-z,Ad vt,Ab] at h4;cases h4
 show k d1 d2 d3 d4 _ b4 b8 b12 b16 #[#[dx,?_],?_,?_,?_,?_,JN8,?_] (c0 b14);.rw[Ab,<-Jvr]
 .rw[GU!,Ad n14,GU!,Ad gX,GU!,Ad cb,GU!,Ab];rfl
 .rw[Pc!,Ad n24,Pc!,Ad gV,Pc!,Ab];rfl
 .rw[Ad vt,Ad n34,Ad vt,Ab];rfl
 .rw[Ad b15,Ab];rfl
 .simp[BX,cb,gX,n14,gV,n24,n34]
def scM:TD! JC! m9:={}
def Jr2(F:a! Fd! "House.make" m9)(T:Txt):P0! sI:=by
 show D? scM;have#[p,G,rfl,S,z1,z2,z3,f1,f2,f3,k]:=h;show A?;show K?;show Qt? scM.nd (D0 (y5! Aa!)) (Ac ie! (am! Ag (am! Fs (JFy (JG9 1)))));show C?;show#[_,Ei? dx hp,RH? q! T.nN (Jbe G) C dx hp q! T.nM (Jj7 G) Cy!];have s1:=JK0 KT! (AO! G.BB);show AN?;have t1:w! (E4! H t ii JSZ) t (ii (tv HH!)):=Ab;generalize dL! t JSZ=H1 at s1 S1 t1;show T?;show#[Qn? HM IJ T.nM (Jj7 G) HM IJ (Ed G)];rw[Jgh];have S2:=S1.fld HM (EO!) Gs!;have PY:JEd (b≠p) JYO:=wX!
 have tp:=S1.tup_ne t1;have t2:=FM PY t1 tp.1;have S2:F8! JYO JlQ:=S2;generalize Jq! H1 (LH! HM (B9 JlQ))=H2 at S2 PY t2;show Au?;show Qs? LK IU DV! (D3 _) wp (iY! HH! S2.dO t2 JLd);have e3:JRo NH! JlR AU! 0 MK! JlR:=rE! HX! GL! f2
 have S3:=S2.NK (MK!);unfold Dp at S3;rw[<-e3] at S3;have tJ:=S2.tup_ne t2;have UM:rH! H2 JYf:=ta!
 have t3:=FM UM t2 tJ.2;generalize JYf=H3 at S3 UM t3;intro a ha;have s4:=cx! ha;have S4:=S3.same s4;have a4:Np! (E4! H3 a BA! []) a By []:=Ab;have t4:=FI! t3;have af:a∉CS!:=λm=>by have#[kvs,e]:=S3.LY (b:=a) (by have:WH! { G with BB:=EO!,AL:=Zr! }:=rfl;show M?;show m);rw[ha] at e;cases e
 generalize E5! H3 a BA! []=H4 at s4 S4 a4 t4;have#[bH,lN]:=S4.ob;show I4? bH lN CR! (E9 _) Aj! S4.dl t4 (Jaa 1000) z3;have e5:Dx! (RO! Tj!) (tk HH!) (DN! a)=(Zd!).map Tj!:=rE! JS! ZN! f3
 have S5:=S4.eP HH! a4 af;unfold Fx at S5;rw[<-e5] at S5;have ak:rH! H4 Jdi:=ta!
 have t5:=FM ak t4 tJ.2;generalize Jdi=H5 at S5 ak t5;have#[dB,cL]:=S5.ob;show I4? dB cL I0! (F9 _) G.h S5.dh t5 (G.hand.length<=1000) z1;have e6:JRo Xo! JlS V.bl GM Of! JlS:=rE! gw! Tf! f1
 have S6:=S5.QF (Of!);unfold By at S6;rw[<-e6] at S6;have c7:rH! H5 Jdh:=ta!
 have t6:=Uk! t5 tJ.2;generalize Jdh=H6 at S6 c7 t6;show CW?;show Qo? UY XH UY XH;rw[Bq];have S7:=S6.fld UY (EO!) (Kx!);have RF:∀{b:Addr},aY!->Bg!:=λ{b} e=>C4 s1 e;have T_:Y9! (IR H6 p (LH! UY (B9 { G with BB:=EO!,BJ:=Kx!,AL:=MK!,holds:=Zd!,hand:=Of! }))):=λb o e hb hf=>WF hb (Uk! (ak _ _ (To! (UM _ _ (PY _ _ (PA! e) hb) hf)) hf) hf)
 show O? (k t a _ ht ?_ (Oo! tp.1 t6) S7 T_);cases q:H a with | none=>rfl | some u =>exfalso;(have nap:a≠p:=λz=>by rw[z,S3.ob.choose_spec] at ha;cases ha);have:JD! H3 u:=FM UM (PY _ _ (PA! q) nap) af;show H? ha;cases this
def scT:Va! mh:={}
def Jrz(F:a! "tick" "House.tick" mh)(T:Txt):P0! Jnd:=by show D? scT;have#[p,G,rfl,S,k]:=h;show A?;show C?;show#[_,Af (Aq Aa!),#[Af? C,dx,_,_,A!,hp,q!,T.nT,Cq G,k]]
open E
def QX{a b c:Str}{k:NameKind}{cl:Bl!}{y:Str}(hc:db!)(h:JRP):KD!:=L0!
def Jk9(s:db)(x:JI1):JI2:=Ax (Xc! (by have#[ka,e1,e2]:=h9;show#[ka,L5! s,P! s e2])) x
open S
def Jyq:WA! mj:={}
def Pa(f:α->β)(l:T!):SW! FS (λt=>(t,f t))=l:=S! AZ (LN l)
def Jry(F:a! Xg! "House.told" mj)(T:Txt):pX! xS:=by
 show D? Jyq;have#[p,t,G,th,wt,a,hl,hs,rfl,S,ht,f1,f2,UW,pm,pw,k]:=h;show A?;show K?;show C?;have g1:GF H wp ZQ! (jH! wt):=j8! (JkI S.dO) e0! f1
 have g2:JRs:=JLN S.dl f2
 have g3:JIR:=S.hl _ (BH f2);show#[_,Af (Aq (D0 (Aa No (HE! QD! (JHS QD!))))),?_];show#[L?,Af? C,dx,_,_,A!,hp,q!,DV!,D3 G,_,A!,wp,_,A!,g1,_,A!,p,C,dx,_,_,A!,hp,q!,CR!,E9 G,_,A!,Aj!,_,A!,g2,a,_,hs,A!,Jj9 g3,Yf! UW,JO9,pw,λr as hr ha=>?_];show#[r,_,A!,HY! Jf! (λx2 uQ=>#[JG3,Ok!])];have s1:=T2! BW! hr;have s2:=JpM BW! uQ;have s3:=OC! [DN! t,AO! wt,oK!] hx;have ss:=fK!;show k x _ ss #[x,t,x2,as,A!,Ab,P! ss ht,FK! Ab,az! ss ha]
def jH:TD! [DU!,BE!,Fe!,Cj!] Qc:={}
def Jox{f fT:Addr}{fd vI:FuncData}(F:zJ! "House.state" Qc)(T:Txt)(FT:HC K Xg! "House.told" mj fT vI)(bT:Sc! vI JC!)(mT:jx K C Xg! fT) : qJ! Ov:=by
 have GT:E6! fT vI JC! xS:=Jry FT T;show D? jH;have#[p,G,hs,os,rs,rfl,S,z1,z2,z3,pm,pw,R,pmr,pwr,k]:=h;show A?;show Q?;show C?;show H5? jH.nd (JHS Aa!) jH.nd (l2! (C8 (AM!:=KE!) A! JLK A! ZV A! ZV A! ZD! jL! ZG! ZV Y3! (Kz! (Ao No q! mT GT GZ bT U! A8 TM!)))) (Yy! jH.nd (YN! Br Yg T.tuple HI (YN! Be (Px A! (j6 hr)) T.sorted DX (Uw DP JNb PySem.F.type_dict_items Jo7 Aa!))) (Z6! D0 (JKl xL)));show GT? dx hp I0! (F9 G) G.h hs Jj9 I1! z1 JO9 pw (λr1 MJ zG ha1=>#[r1,_,A!,HY! Jf! (λx1 uR=>?_)]);have s1:=T2! Rk! zG;have s2:=JpM Rk! uR;have pV:=dp!;have S1:=JN! pV;have q1:w! (IR tz! x1 c0!) x1 c0!:=Ab;have oO:CF (IR tz! x1 c0!) MJ hs:=az! pV ha1;generalize IR tz! x1 c0!=H1 at pV S1 q1 oO;show T?;have e0:JNR NH! HJ!:=Li!
 show GT? HM IJ DV! (D3 G) wp yS! Jpj S1.dO z2 (l! e0 R.pm) R.pw (λr2 WG NS cz=>lV! r2 Ab B0!);have s3:=JRu;have qW:JQq tB!:=Ab;have S2:=S1.same s3;have ss2:=Ai pV s3;have oK:CF tB! WG (DR! be):=JGA cz;have oN:CF tB! MJ hs:=JGA oO;have q1b:=FK! q1;generalize JSE H1=H2 at s3 qW S2 ss2 oK oN q1b hq;have hlen:WG.length=os.length:=by have:=Bf! cz;show H? ZA;show this
 have gp:os.length<64:=by have h1:=R.pm.length_eq;rw[ZA,ZA] at h1;show h1▸z2
 show Pr? r2 (LG! WG.map) (kI C Xg! (xS) [] E0 (B0 1) S4!) KE! [AP!,Fy! x1,none,none] (λi ys H3=>YM! H3 q/\CG H2 H3/\Ma! (UD H3) ys (Rl! i)) #[Ab,Aj hq,S! OS U!] (λi ys H3 _ h=>aP! h.2.1 qW bn);.rintro i x ys H3 N hx ⟨e3,s4,pr⟩ hN;show f?;show Ah?;cases cy:WG[i]? with | none=>show Bs? cy | some ai =>rw[cy] at hx;cases hx;(have gu:i<os.length:=JAz Cf!);have#[qo,uc]:=Aw gu;have eth:=Bf oK i ai qo.1 cy (T7! uc);have#[f1,a,hl,f2,f3,f4,f5]:=R.at_ qo (ZP uc);have S3:=S2.same s4;show BW?;show#[L?,p,SD,_,A!,RJ,Cu!,_,A!,p,ai,G,qo.1,qo.2.1,a,hl,qo.2.2,A!,S3,FI! eth,f1,f2,f3,f4,f5,λx2 H5 s5 rep=>#[P! s5 e3,?_,ae! Ab GS!]];(.show En? pr;show M?;show Bu (AA (Ab! List.length_take_le) (JLE (AH (AV gu) gp))));(.have nb:b≠q:=Al e hq;rw[Ad nb];show JQ6);·show Qu? H5 (ok! H5 q oK!) (P! s5 e3);(have et:Rl! (ww)=Rl! i++[qo]:=Uy! uc);rw[et];show Ey (rep.keep kq) (Ax (λ_ _ r=>(r.keep (MK s5)).keep kq) pr)
 .rintro ys H3 ⟨e3,s4,pr⟩;rw[ZA,Cf!,B_] at pr;show Fo? q e3 (λx2 uQ=>?_);have s5:=OC! ys uQ;have ss3:=qa! ss2 s5;have S4:=(S2.same s4).same s5;have q2:Pd! vT! x2 ys:=Ab;have q1c:=EN! s5 s4 q1b;have oM:CF vT! MJ hs:=Ax (λ_ _ e=>JQ6) oN;have pr':Be! (UD vT!) ys os:=JFj s5 pr;generalize cL! H3 x2 ys=H4 at s5 ss3 S4 q2 q1c oM pr';have#[bH,lN]:=S4.ob;have vh:=S4.dr;show#[QF? C bH lN G6! (De G) (Bc! (Ss! vh)) BG! vh];have s6:=Aj (o:=rT v BG!) hv;show#[v,BG!,AN!,rs,A!,Ab,L4! vh,z3,pmr,pwr,λr3 as3 H7 s7 WY e7 pr7=>#[r3,_,A!,Co! e7,λx3 ob3 hx3 pl3=>?_]];have s8:=Aj (o:=.IC ob3 (iL! as3.map)) hx3;show#[e?,A!,_,A!,JG3,Ok!];have s9:=OC! [AK! x1,oK!,AK! x3] hx;have kR:=Ai s6 (KF! s7 s8 s9);show k x _ (Ai ss3 kR) #[x1,x2,x3,MJ,ys,as3,Ab,P! kR q1c,az! kR oM,P! kR q2,JFj kR pr',#[ob3,O9! s9,pl3],Jk9 (Ai s8 s9) pr7]
open E
open S
def iQ:Pg! [D5!,Ix!,Iy!] D5! Ix! rM:={}
inductive Jnh(vs:C!)(H:Hp)(Q:VK)(E:XK):B!
 | mk (a:Addr) (ns:i!) (k:Int) (_:vs=[A2!,Ix k]) (_:r8!) (_:nM!) (_:0<=k) (_:k<=1000) (_:∀v:GE,Oh! v)
def Jr8(F:a! Xj! Xj! rM)(hn:Pt!):HZ! [D5!,Ix!] Jnh:=by
 show D? iQ;have#[a,ns,k,rfl,hS,hl,h0,JTc,kk]:=h;show A?;have hlen:A1! BC! AU!=ns.length:=UP!;have item:∀i:GE,0<=i->i<ns.length->∃v,VY (BC! AU!) i=D! (Az! v):=λi a b=>by have#[x,hx]:=Nv! ns i.toNat V!;show#[x,sk! a hx]
 show Ay? (JjK No uB! (qb! No)) (JDQ iQ.nd (aZ! qz!) (ja! mY uB! (JEa iQ.nd (OR! (A3 E6 (A3 Fj (qb! (A3 Dc qz! uB!)) Ag) qz!)))) (Cq! (OR! (A3 Fj KB KB))));show#[HX? a (W! hS)];show Nr (nO!) (OW!);.have c1:=BI c1;have#[v,hv]:=item k h0 (by rw[Cf!] at c1;show c1);show#[AG?,a,_,_,_,A!,A!,hS,hv,kk v]
 .show#[e?,RL? Td!];show#[A0? a,EN? A! (W! hS) _ _];show Nr (λc2=>?_) (OW!);(.have c2:=BI c2;(have d9:SG! yH!:=by rw[Cf!] at c2;show c2);have#[v,hv]:=item (k*7 % yH!) (EG _ (RV (hlen▸c2))) (GX _ d9);show#[_,A!,_,A!,_,_,A!,A!,Td!,_,A!,a,_,A!,W! hS,_,_,A!,A!,b1! d9,a,_,_,_,A!,A!,hS,b1! hv,_,_,A!,A!,Td!,Gu?];show#[O3? (W! o4!)];(.have:=EG (JWL) (sr! 2147483647);show JcX Op this);.have:=GX (JWL) (JhF 2147483647);show BY this Op);.show#[O3? JP9]
open E
def xB(h1:VI!)(h2:LI b c):LI a c:=zq!
def xh(h:a≠b)(h1:¬VI!):LI b a:=Jc3
def Ox(key:CG!)(x:α):Jci
 | [],_,_=>JIt
 | y::s,h,ne=>JfR
def sorts(key:CG!):JZV
 | [],_=>JIs
 | x::l,nd=>JfK
structure Good(G:BZ):B! where
 h1:G.hand.Nodup
 h2:nQ!
 o1:oj!
 o2:nR!
 r1:zb!
 r2:nS!
 at_:∀q∈G.AL,G_ λa hl=>JkJ JTE=D! (O!,a,hl)/\hl.Nodup/\hl.length<64
structure Told(G:BZ)(hs:E!)(os:Ae!)(rs:R!):B! where
 pm:tQ!
 pw:cg!
 MA:tt!
 pr:C9!
 wr:FQ!
def IM{l:R!}(nd:aW!){q:Dz!}(hq:NE!):JkJ Gt!=D! q:=by induction l with | nil=>cases hq | cons x l ih =>show AS?;rcases ZM hq with rfl|hq;(.simp);.have ne:¬BZ!=O!:=qP! (JH! KX!);rw[CN,AG ne];show ih OJ.2 hq
def Jjk(g:Good G):∀{s:R!},(∀q∈s,q∈G.AL)->∃os:Ae!,DR! (λq=>(O!,WP))=s/\Jex
 | [],_=>#[[],A!,JN9]
 | x::s,h=>by have#[os,e,k]:=Jjk g JRj;have hx:=C7! x;have#[a,hl,f,nd,z]:=g.at_ x hx;have#[hs,p,q]:=JL8 hl (l! LN nd);rw[LN] at q;show#[(BZ!,x.2,hs)::os,A5! AO e,GT!];show E1?;(.show#[IM g.o1 hx,a,hl,f,z,p,q]);.show k y hy
def Good.told(g:Good G):LW λhs os rs=>C1!:=by
 have#[hs,p1,q1]:=JL8 AE! (l! LN g.h1);have#[so,p2,q2]:=JOt g.o1;have#[rs,p3,q3]:=JOt g.r1;have#[os,e,k]:=Jjk g (Aw! (p2.mem_iff.mp hq));have e1:QE! DR! so.map:=by rw[<-e,AZ];rfl
 rw[LN] at q1;show#[hs,os,rs,p1,q1,#[Uf! (p2.map _),Uf! q2,k],p3,q3]
inductive Jje(vs:C!)(H:Hp)(Q:VK)(E:XK):B!
 | mk (p dx:Addr) (_:GW!) (_:JP! (R5! CP [])) (_:∀(d:Addr)(H':Hp),oD!->JX CP H' p d 0 []->(JF4)->JO!)
inductive Hf(vs:C!)(H:Hp)(Q:VK)(E:XK):B!
 | mk (p d:Addr) (c:Int) (ls:k!) (k s g a:V) (_:vs=[Cm!,k,s,g,a]) (_:sW!) (_:ls.length<=2700) (_:∀(t:Addr)(H':Hp),oF!->JId [He! (c+1),k,s,g,a]->JX CP H' p d (c+1) (ls++[(c+1,t)])->(JjV (b≠d) LY!)->PF! (c+1))
inductive Ts(vs:C!)(H:Hp)(Q:VK)(E:XK):B!
 | mk (p d:Addr) (c:Int) (ls:k!) (_:GW!) (_:sW!) (_:JY6 Ew!)
inductive Jeu(vs:C!)(H:Hp)(Q:VK)(E:XK):B!
 | mk (p d:Addr) (c:Int) (ls:k!) (n:Int) (_:ca!) (_:sW!) (_:((LW λ(l1:List (Int×Addr))(l2:List (Int×Addr))(t:Addr)=>ls=JjN/\∀(H':Hp),JX CP H' p d c (RV!)->(ar! (b≠d))->o0!)\/((th!)/\OA! NL)))
open S
def Jyz:Va! Ud:={}
def Joz(F:Uq! JWz Ud)(T:P0):P0! Jje:=by
 show D? Jyz;have#[p,dx,rfl,hp,k]:=h;show A?;show#[_,Ac pj! (Af kA!),?_];show#[o?,RO? CP hp q! CR!];intro d hd;have lK:RU!:=λz=>by rw[<-z,Ab] at hd;cases hd
 have VX:oD!:=by rw[JAX] at hd;show hd
 show H0? CP lK T.nW JP7;show k d _ VX #[FB! Ab,EJ! JAX Ab,Fh! (by simp at hl),DV] (Ie! ?_);rw[EZ!,Hi! VX,EZ!];show e
def Jyx:A3! Yq! Yq! Nc:={}
def Mq(F:a! "put" "Post.put" Nc)(T:P0):HZ! Yq! Hf:=by
 show D? Jyx;have#[p,d,c,ls,kk,ss,gg,aa,rfl,S,hl,k]:=h;show A?;show K?;show F3?;have kh:RU!:=S.ne;show Ay? ie! (JCa Aa! (Aa Aa! (Aa No (JAe xL An!))) (Cq! Aa!));show#[Af? CP,dx,_,_,A!,h1,q!,CR!,cJ!,_,_,A!,A!,dx,_,h1,(by rw[O5];change 2<1000;decide),?_];rw[Jle];have h2:JAq dO!:=Ab;have d2:w! dO! d pM!:=yv! kh.symm
 show#[_,A!,p,CP,dx,_,_,A!,h2,q!,CR!,cJ!,_,A!,_,A!,_,A!,_,A!,JG4,?_];intro t ht;have npt:p≠t:=Al h2 ht;have ndt:d≠t:=Al d2 ht;have ht':oF!:=JOl (Ad npt.symm)
 have h3:∀o,JAq (IR dO! t o):=Jsn npt h2
 have d3:∀o,w! (IR dO! t o) d pM!:=Jsn ndt d2
 show#[Af? CP,dx,_,_,A!,h3 _,q!,T.nW,cK!,_,A!,p,CP,dx,_,_,A!,h3 _,q!,CR!,cJ!,d,_,A!,JLs (c+1) (d3 _) hl,?_];have zJ:JNX (Bm! (c+1):Key):=r9! (by have:=le l hl;simp;lia)
 have za:JqH ls (Bm! (c+1):Key) t (ls++[(c+1,t)]):=JUc zJ
 rw[za];show#[Af? CP,dx,_,_,A!,Oo! kh (h3 _),q!,CR!,cJ!,?_];show k t _ ht' (GJ! (Ad ndt.symm) Ab) (JSf (h3 _) Ec!) λb o e hp hb=>?_;.rcases ZI hl with hl|hl;(.have:=le l hl;show BW this);·(have e:l=(c+1,t):=by simpa using hl);rw[e];show AJ _
 .rw[ZF];show Gy nd Th!;have#[l,hl,e]:=Ee!;have:=le l hl;have e':AB!=c+1:=e;show JaZ this
 .rw[EZ!,Hi! ht',Ad hp];show e
def Jyy:Va! Ig:={}
def Jft(F:zL! JXO Ig)(T:P0):P0! Ts:=by
 show D? Jyy;have#[p,d,c,ls,rfl,S,k]:=h;show A?;show F3?;show Ag? (JQH Q3 T.list (Uw DP KY QK Ql Aa!));show#[QF? CP dx h1 T.nW cK! (Bc! (W! #[_,hd])) d hd];have ndv:d≠v:=Al hd hv;show#[v,d,_,A!,Ab,yv! ndv,Ec!];have nvl:l≠v:=λz=>by rw[z,Ab] at hl;cases hl
 have YS:OQ!:=by rw[Ad nvl] at hl;show hl
 show k l _ YS (by rw[Ab];unfold kvsOf;rw[AZ];rfl) GS!;rw[Hi! YS,Hi! hv];show e
def Jyw:zB! OY! Oz:={}
def Jlj(F:a! "taken" "Post.taken" Oz)(T:P0):N7! f fd OY! Jeu:=by
 show W? Jyw;have#[p,d,c,ls,n,rfl,S,k]:=h;show A?;show K?;show F3?;have kh:RU!:=S.ne;show DD? (JUq T.cNL) (JWq No);show#[RP? CP dx h1 T.nW cK! d _ (GF.k (k:=U5!) hd)];rcases k with⟨l1,l2,t,rfl,k⟩|⟨cM,k⟩;·(have ev:kH! Jrk dA!=D! ZQ!:=JGy);rw[ev];show k?;show#[FH? CP dx,A!,h1,q!,T.nW,cK!,d,A!,W! #[_,W! hd],_,A!,_,U5!,_,hd,A!,ev,?_];rw[Jgr nd];(show k _ (JSf h1 (Fh! (le l ?_))) wX!);(.rcases ZI hl with hl|hl;(.show h? hl);.show ZC _ (BL! hl));.rw[ZF,AO] at nd;rw[ZF];show KV! #[Uj! nd,(IY! sD!).2,λa ha b hb=>lg! a ha b (BL! hb)]
 ·(have ev:JNX dA!:=r9! (SQ! (cM l hl)));rw[ev];show B3 k
open E
open S
inductive Jjc(vs:C!)(H:Hp)(Q:VK)(E:XK):B!
 | mk (p t:Addr) (G:BZ) (th:T2) (_:GV!) (_:KM) (_:GZ!) (_:cW! (w! (I3! (kn! O6!)).map CK! 0))
def Jyt:WA! Ub:={}
def Joy(F:a! "is_spent" JXG Ub)(T:Txt):pX! Jjc:=by show D? Jyt;show CU?;show A?;show K?;show C?;show Ag? (ax! (Jjy Joh Aa! No) Ag);show QV? (Jn S.dr ht);cases e:iu! I3! O6! with | none =>rw[e] at k;show#[A!,k] | some q =>rw[e] at k;show#[A!,?_];(have e2:N9! YO! AU! 0=Go (w! (re q).map CK! R7!):=Sc);change Q (V.bl (MZ! (YO!=AU! 0))) H;rw[e2];show k
open E
open S
inductive El(vs:C!)(H:Hp)(Q:VK)(E:XK):B!
 | mk (p:Addr) (h:Int) (W:EL) (_:U4!) (_:AS!) (_:Jiu (Q (EQ q) H))
def Jno:eO! Ee:={}
def Ei(F:a! RX! "World.house" Ee)(T:Txt)(TW:F1):N7! f fd HI! El:=by
 show W? Jno;have#[p,h,W,rfl,S,k]:=h;show A?;show C?;show DD? (ln! (JGi (sl! No) Jw7 No JnP) TW.cNH) (li! No);show GF?
 show FE?;rcases k with⟨o,k⟩|⟨q,G,i,k⟩;.show Nr (λ_=>B3 k) (λc=>?_);have c:¬h<0:=cl! AI;show QZ?;rw[e0,AI (show nI! from o.resolve_left c)];show B3 k
 .have#[i1,i2]:=i.lt;rw[AG (show ¬h<0 by show IY.mpr i1)];show k?;show QZ?;rw[e0,AG (show ¬nI! by show JEO (e0▸i2))];show k?;show#[Fc?,_,A!,hp,v4,G7!,Dy W,_,A!,DS!,_,_,_,A!,A!,Un!,i.VY,k]
inductive Oo(vs:C!)(H:Hp)(Q:VK)(E:XK):B!
 | mk (p:Addr) (h:Int) (W:EL) (_:U4!) (_:AS!) (_:JE6 sI)
def Jrb:eO! r9:={}
def Jos(F:a! Fd! "World.make" r9)(T:Txt)(TW:F1)(MH:II!)(M1:iM! Fd! "House.make" m9 f1 d1)(G1:N7! f1 d1 A4! sI):OD! 2 HI! Oo:=by
 show OP? Jrb;show AJ?
 show Pu?
inductive Oq(vs:C!)(H:Hp)(Q:VK)(E:XK):B!
 | mk (p:Addr) (h:Int) (va vb:V) (W:EL) (_:vD!) (_:AS!) (_:sy! sH)
def Jrc:tw! r6:={}
def Jot(F:a! Ba! "World.hold" r6)(T:Txt)(TW:F1)(MH:II!)(M1:ii! Ba! "House.hold" m6 f1 d1)(G1:HN 3 f1 d1 YS! (sH)):lO! JhG Oq:=by
 show Gb? Jrc;show AJ?
 show Gq?
inductive Ou(vs:C!)(H:Hp)(Q:VK)(E:XK):B!
 | mk (p:Addr) (h:Int) (va vb:V) (W:EL) (_:vD!) (_:AS!) (_:sy! sE)
def Jrf:tw! rp:={}
def Jow(F:a! Gk! "World.drop" rp)(T:Txt)(TW:F1)(MH:II!)(M1:ii! Gk! "House.drop" my f1 d1)(G1:JaV sE):JKr Ou:=by
 show Gb? Jrf;show AJ?
 show Gq?
inductive Ol(vs:C!)(H:Hp)(Q:VK)(E:XK):B!
 | mk (p:Addr) (h:Int) (va vb:V) (W:EL) (_:vD!) (_:AS!) (_:sy! sM)
def Jra:tw! sC:={}
def Jop(F:a! Gl! "World.take" sC)(T:Txt)(TW:F1)(MH:II!)(M1:ii! Gl! "House.take" mf f1 d1)(G1:JaV sM):JKr Ol:=by
 show Gb? Jra;show AJ?
 show Gq?
inductive Ot(vs:C!)(H:Hp)(Q:VK)(E:XK):B!
 | mk (p:Addr) (h:Int) (vb:V) (W:EL) (_:vs=[Cm!,F2!,vb]) (_:AS!) (_:Jiu (JiH sG [SB q,vb]))
def Jre:A3! aa! aa! rq:={}
def Jov(F:a! Gm! "World.free" rq)(T:Txt)(TW:F1)(MH:II!)(M1:B8! C Gm! "House.free" mz OP! f1 d1)(G1:uN! OP! sG):OD! 3 aa! Ot:=by
 show ET?;show W? Jre;have#[p,h,vb,W,rfl,S,k]:=h;show A?;show Q?;show C?;show#[_,Af (Bc (z7! jk! Fo! G1 hr D6! KB)),?_];show#[Qr? LB! p h W S];rcases k with k|⟨q,G,i,k⟩;show AJ?
 .show Az?;show v! #[q,G,i,q,HM,_,A!,hq,Cu!,_,A!,k]
inductive E1(vs:C!)(H:Hp)(Q:VK)(E:XK):B!
 | mk (p:Addr) (h:Int) (W:EL) (_:U4!) (_:AS!) (_:JE6 Ov)
def Jnm:eO! Mf:={}
def Jlg(F:zJ! "World.state" Mf)(T:Txt)(TW:F1)(MH:II!)(M1:JqT f1 d1)(G1:uN! A4! Ov):JFm E1:=by
 show OP? Jnm;show AJ?
 show Pu?
open E
abbrev XI(G:BZ)(tb:T2)(wt:Int):R!:=if FL! then JB5 else G.AL
def Jst{l:R!}{t:T2}(h:bY!):JsP:=Ox! uj!
def Ph(hd:rk!)(ht:GZ!)(f:Jm6 O6! th v):dr! (jH! v):=by have:=Jn hd ht;show H? f;show this
open S
inductive Jjf(vs:C!)(H:Hp)(Q:VK)(E:XK):B!
 | mk (p b:Addr) (G:BZ) (tb:T2) (wt:Int) (_:eS!) (_:KM) (_:BS!) (_:Ly!) (_:S6! JHz)
def Jy4:en! Ug:={}
def Jo1{f:Addr}{fd:FuncData}(F:a! "given" JW2 Ug)(T:Txt):JAu Jjf:=by
 show D? Jy4;show D9?;show A?;show K?;show C?;show JI? (Bh (JSK No) (Af (JrC KB Jpk)) Az);show NQ? DV! (D3 G) wp (Jn S.dO hb);by_cases h:FL!;.have fo:=Pk h;rw[fo];show f?;show Lu?;show L2? (JnR S.dO);rw[E3];show JX? ku! ku!;show T?;show Aa?;rw[Bq];(have e:XI G tb wt=JB5:=by unfold XI;rw[AF h]);rw[e] at k;show F4? ku!
 .rw[Jst h];show k?;(have e:XI G tb wt=G.AL:=by unfold XI;rw[AD h]);rw[e] at k;show Qo? dx hp dx hp;rw[Bq];show JkM S.fld dx (Yh! h1)
abbrev a9(G:BZ)(tb:T2)(ID:Bool):E!:=if ID=true then SO! else G.hand
abbrev eY(G:BZ)(tb:T2)(sh:Int)(ID:Bool):R!:=Bm AI! tb (Y7!+(BX! (ID=true) (sh-1) (2*sh-1)))
inductive Jes(vs:C!)(H:Hp)(Q:VK)(E:XK):B!
 | mk (p b:Addr) (G:BZ) (tb:T2) (sh:Int) (ID:Bool) (_:vs=[Cm!,Cs!,Ix sh,AG! ID]) (_:KM) (_:BS!) (_:Ly!) (_:UY!) (_:FL!) (_:JCl mG! JZM)
def Jyu:A3! T9! T9! Oy:={}
def Jlk(F:a! "passed" JW4 Oy)(T:Txt):HZ! T9! Jes:=by show D? Jyu;have#[p,b,G,tb,sh,ID,rfl,S,hb,z1,z2,h,k]:=h;show A?;show K?;show C?;show JI? (Bh (Hh (pv 3)) (JFy (JUR KB)) (JUR s5!));have fo:=Pk h;show FO? ID;cases ID with | true =>show f?;show NS? (JiK I1! z2);rw[Gb];show Gc?;(show ML?);show Ot?;show Ok?;show G9?;show T?;show Ni? (Ah AI! tb) (Ph S1.dO b1 fo);show#[Ci? C HM,Ax? IJ q! DV! (D3 _),wp,_,A!,g1,_,A!,_,_,A!,A!,_,_,A!,A!,_,JQw (Bu (JjI (G.AL.length<=1000) z1)),?_];rw[E3];have S2:=S1.NK JLP;show Mh? JLP;show Au?;show Gj?;rw[Bq];show JY3 | false =>show k?;show Lu?;show#[o?,C,dx,_,_,A!,hp,q!,DV!,D3 _,_,A!,wp,_,A!,g1,_,Be? A! _ A! A! t9! _ _ A! A! _ _ JLH];rw[E3];have S1:F8! (E4! H wp Dp (Bm AI! tb (Y7!+(2*sh-1)))) (g2! (Bm AI! tb (JFh))):=S.NK _;show T?;show Aa?;rw[Bq];show F4? JFh
open E
open E Lake.K66
open N Lake.FX
open PySem PySem.Spec PyProof.Rows L2
def U3[DecidableEq α]:JRG (α×β) (∀{p:α×β},p∈l->Zc! (O!=g!)=D! p)
 | [],_,p,h=>GQ!
 | q::l,nd,p,h=>by show A7?;show E5?;(.rw[List.find?_cons_of_pos (Sc)]);.have ne:O!≠g!:=iy! nd.1 #[p,h,KX!];rw[List.find?_cons_of_neg (xy!)];show U3 nd.2 h
open S
def Jgg(I:H!)(e:Vg!):JQQ T4!:=by
 have ok:=SL! d e;have#[_,_,vs,_,o,es,ep,g,_]:=id ok;show M1? ob z #[g,?_];show Gi?;show F8?
 show Fg?
def Jtt(I:H!)(hg:OI! T4!)(hd:O2!):∃vs,Dk!/\Ux!/\JZs s.heap.DictAt:=by have#[g,z,lo,vs,rel,o',g7,g8,g',c',q',k',p',n']:=kQ! T4! hg;rw[g] at g';cases g';rw[hd] at q';injection q' with q1 q2;subst q1;subst q2;show#[vs,rel,lo,o,es,g,c',hd,k',p',n']
open E
abbrev kM(d:Addr)(kvs:BU!)(o:Obj):It :=
 JYU T4! (∃k,Dc! (kvs[i]?) k x) T4!
def Jek{P:Program}{w:World}{K:W.Frag}{tg:Expr}(d it:Addr)(kvs:BU!)(o:Obj)(es:Dp!)(ep:Nat)(hd:O2!):JGP kM (h.IsValIter it d i Wy! ep) where
 mem:=Sc
 obj:=KL! (by
  show BH?
  subst e
  have#[oi,e,c,q]:=st
  show LV?)
 keep:=JWT
 item:=by
  show CP?
  show g?
  show t?
  show Nq?
  show Jo?
  show NZ?
  have hy:vs[i]?=D! (vs[i]' V!):=JlW f1!
  have#[ek,rv]:=Bf rel i _ _ hx hy
  show Nr?
  show wpAny_pyNext_values_item OV da (k:=(JON).1) (v:=(JON).2) hy λh' gN sb=>?_
  show K2?
  have#[oi,e,c,q]:=id gN
  show O? (JrB q #[kvs[i].2,H,I1,rv,#[A!,kvs[i].1,hx],l! hl gN,UF (hf b hb).1])
 done:=by
  show CP?
  show g?
  show t?
  show Nq?
  show Jo?
  show Nr?
  show wpAny_pyNext_values_end (I.ok.hd hc) OV da (l! List.getElem?_eq_none_iff (hl▸hi)) JYL
 self:=Vu! wpAny_pyIter_valiter
open S
abbrev Jxi(td:TE):TI:=JFF (LW λp d kvs=>mn!/\N3! H1 IF!/\ST! H1 d z!/\∀o,R (kM d z! o) JFv)
def Jax{l:Expr}{td:TE}(hl:A0! l td):rO! Jxi td:=by
 show AC?;show BI?;rintro v s1 ⟨x,H1,I1,r1,p,d,kvs,ex,hp,hd,hR⟩;subst ex;cases r1;have#[o,g,I2]:=Jgg I1 hd;have#[z,lo,vs,rel,o',es,ep,g',c',q',k',p',n']:=HP! (EN FU! X.w H1 s1.heap d Vf!) (I1.EE d _ hd);rw[g] at g';cases g';have hlen:fx!:=Tt!;have da:JZs s1.heap.DictAt:=#[o,es,g,c',q',k',p',n'];have hv:s1.heap.IsValuesView p d:=(I1.EE p _ hp).1;show wpAny_pyIter_values hv da ?_;show G0?;show M9? JFv "dict_valueiterator" (#[ZZZ,GC!,Sb! 0,Sb! KS!,Sb! ep]);show Pg? kM (Jek d _ z! o es ep q') (by rw[Cf!];show#[_,EP!,A!,A!]);show DF?
 show K4?
open E
def Vt{d:Addr}{kvs:BU!}{ob:Obj}{g:TG}{tb:TS}{D:Ends}{σ:L2.St}{H:Hp}(Pv:of!)(h0:Pv!)(hf:JRi .dK)(hs:∀i k v σ H,rP!->Yp!->kk! v)(hd:JGE) : V2! O0! (UG! (Qh! (kM d z! ob).stop (kM d z! ob).go O0! (kM d z! ob).TX)):=by
 show Pj?;.show Ej? #[fz,JK] w2!;have#[e,k,ek]:=y;subst e;show hs i k x σ _ ek pv
 show My?
open S
open E
def xB(h1:VI!)(h2:LI b c):LI a c:=zq!
def xh(h:a≠b)(h1:¬VI!):LI b a:=Jc3
def Ox(key:CG!)(x:α):Jci
 | [],_,_=>JIt
 | y::s,h,ne=>JfR
def sorts(key:CG!):JZV
 | [],_=>JIs
 | x::l,nd=>JfK
def QX{a b c:Str}{k:NameKind}{cl:Bl!}{y:Str}(hc:db!)(h:JRP):KD! :=e4! (by show CT?;rcases hp with rfl|rfl|rfl;show C2?;(.show Qx?);.show hc)
def Jzu{a b c d:Str}{k1 k2:NameKind}{cl:Bl!}{y:Str}(hc:db!)(hd:JDf)(h:TS! JbE JbE):KD! :=e4! (by show CT?;show EA? hp;show C2?;show C2?;(.show hc);.show hd)
def Jqh{K:W.Frag}{a p:Addr}{xs:C!}{tt:TT}{te:TE}{caps:C2!}{σ:L2.St}{H:Hp}{Q:H6!}(Pv:Pp!)(h0:Qg!)(hl:JLt)(hs:vu!)(hd:eC!) : JYh:=by
 show GI?;show Gn?
 show Da?
def Jxx:∀{ds:PZ!},(∀d∈ds,d.canLay0=true/\d.depth<=n)->BQ! PyData.canLayAll0 ds/\PyData.depthAll ds<=n
 | [],_=>#[by simp[PyData.canLayAll0],by simp[PyData.depthAll]]
 | d::ds,h=>by show u? (Jxx QH!);have#[h3,h4]:=C7! d;show#[by simp[PyData.canLayAll0,h1,h3],by simp only[PyData.depthAll];show JKf #[h4,h2]]
@[reducible]abbrev HS:=E!×Ae!×R!
inductive eE(K:W.Frag)(H:Hp)(v:V)(r:Dd!):B!
 | mk (a t hd:Addr) (cs:X!) (_:Ls!) (_:aX! JYM) (_:JBs) (_:JIy hd) (_:JIU)
inductive eF(K:W.Frag)(H:Hp)(v:V)(q:Dz!):B!
 | mk (a t:Addr) (_:Ls!) (_:aX! [SE!,Ix PP]) (_:JhK O!)
inductive WH(K:W.Frag)(H:Hp)(x:Addr)(S:HS):B!
 | mk (y1 y2 y3:Addr) (as:X!) (bs ds:C!) (_:Jb! x JY7) (_:JIx y1) (_:Yz! S.1) (_:Jb! y2 bs) (_:b8! eE bs LR!) (_:Jb! y3 ds) (_:b8! eF ds S.2.2)
open S
variable {K:W.Frag}{H H':Hp}
def eE.keep(k:BV!){v:V}{r:Dd!}(h:eE K H v r):eE K H' v r:=by have#[a,t,hd,cs,e,e1,e2,e3,th]:=h;show#[a,t,hd,cs,e,I4! e1,VU!,I4! e3,cY! th]
def eF.keep(k:BV!){v:V}{q:Dz!}(h:eF K H v q):eF K H' v q:=by have#[a,t,e,e1,e2]:=h;show#[a,t,e,I4! e1,VU!]
def WH.keep(k:BV!){x:Addr}{S:HS}(h:WH K H x S):WH K H' x S:=by have#[y1,y2,y3,as,bs,ds,e,e1,t1,e2,t2,e3,t3]:=h;show#[y1,y2,y3,as,bs,ds,I4! e,I4! e1,cY! t1,I4! e2,rj! t2,I4! e3,rj! t3]
open E
open S
variable {p:Addr}{b:T2->Bool}{ts:List T2}{H:Hp}{tt:TT}{caps:List (Str×Nat)}{σ:L2.St}{Q:Hp->Prop}
def Jgo{K:W.Frag}{l:Addr}{as:X!}(hp:Hf!)(hz:bW!)(hl:JIx l)(th:Ga!)(ht:tN!)(k:JM2) : Jt! (Jn! (Je! (XQ K l).stop GE! (XQ K l).go (XQ K l).TX (PL! (B0 0 (Ye!) H4 LP!) GR!))):=by
 show Qa? Jqh;show Ku? ((MK sm).sq hl)
 show P6?
 show OK?
open E
inductive Jn2(K:W.Frag)(x:V)(vs:C!)(H:Hp)(Q:VK):B!
 | mk l b xs zs (_:UK!) (_:vs=[Cs!]) (_:MQ!) (_:Jb! b zs) (_:mu!) (_:JLo)
def Jh7{X:F!}:hZ X JEg (Jn2 Kx):=by
 show Ac?;show D4?;show J?;show CO?;cases ru;show B5?;have#[RS,r2,#[o2,e2,c2,n2,q2],z2]:=Gc! hB;have l1:=r.length;have l2:=r2.length;show Js?
 show Om?
 show DB JEl U7! JEm ?_ zP!;show CY? (JBe l OX! At);show Kh?;show ZR (W5! (T:=IQ!) #[o2,e2,c2] ?_);have ht:Ac! (fZ! IQ! == fZ! IQ!):=by rfl
 rw[AF (Yn! ht)];show ZR (gT! e2 q2 (ZR (gT! e A! ?_)));rw[AD bc];show ZR (gU! e A! ?_ JTB (show(JE1).size<=m9! by rw[Array.size_append];show GB! Am!));show ZS (Bj! #[wS,_,JU2,A!,q]);rw[ZE];assumption
abbrev rowsOf(L:Dn!):Ae!:=NS! Go!
abbrev Gs(l:R!)(t:T2):GE:=u2!
abbrev addW(a:R!)(q:Dz!):R!:=Bm a O! (t3!+PP)
abbrev Cu(L:Dn!):R!:=(NS! Ip!).foldl Ez! []
inductive Led(L:Dn!):pi
 | hand {S:HS} {t:T2} (h:S∈L) (m:t∈S.1):MP!
 | out {r:Dd!} (h:nH!) (m:FA!≠Gs (Cu L) h!):Led L h!
 | step {r:Dd!} {u:T2} (h:nH!) (m:u∈BO!) (l:Led L h!):Led L u
structure Found(L:Dn!)(ts:E!):B! where
 pw:ts.Pairwise LI
 mem:l7! oS! (¬MP!)
open E Lake.FX
open N Lake.K66
open PySem L2 FX
def Jjn(hd:Cn! d Fx l)(ht:GZ!)(f:Zc! O6!=D! (th,a,hl)):dr! (re (DN! a)):=JLN hd f
open S
abbrev eS(t t':TE):TE:=Wj! (Zw!\/F0! t' Q)
def eS.wk{t t':TE}{S:Nq! G!}(go:∀Q':VK,(∀x H',S x H'->Q' J0! H')->eS t t' σ H Q')(fin:∀x H',S x H'->JM!):eS t t' σ H Q:=go Q AD!
def Jw4{X:F!}{e:Expr}{t t':TE}(h:cv!)(h':A0! e t'):A0! e (eS t t'):=λAB s σ H Q I o=>o.elim (h AB s σ H Q I) (h' AB s σ H Q I)
inductive PD(H:Hp)(l:Addr)(a:Addr)(ts:E!):B!
 | d (_:Cn! a By ts) (_:a≠l)
 | t (cs:X!) (_:aX! (cs.map DN!)) (_:CF H cs ts)
inductive P8(vs:C!)(H:Hp)(Q:VK)(E:XK):B!
 | mk (sa l:Addr) (as:X!) (ts:E!) (hl:HL) (n:Nat) (R:E!) (_:vs=[SB sa,FH!]) (_:Bq! sa FF!) (_:Ga!) (_:bW!) (_:Cn! l Fx hl) (_:∀q∈hl,q.2.2.length<=900/\PD H l WP BN!) (_:OL (R_ hl) n (g4! ab!) [] R) (_:n<=6000) (_:∀(x:Addr)(H':Hp),oE!->db->Sj! x By R->JM!)
def pZ:Pg! [NO!,wn,"found",CO!,"ahead"] NO! wn Ie:={}
def U0(F:a! Xi! Xi! Ie):JYg f fd:=by
 show D? pZ;have#[sa,l,as,ts,hl,n,R,rfl,es,th,zt,el,hq,tq,zn,k]:=h;show A?;show K?;show Hj? pZ.nd Fs (JfL au! pZ.nd (C6 (pv 0)) (Kz! (Es (Ff (Ux hu bv No))))) (S8! (Ur hS! (Jfi An! mY!) (Yy! pZ.nd (Uw DG PySem.F.slot_list_pop PySem.F.type_list_pop Jvf An!) (Af (Bh (Ff (Fh hu xL KB)) (JKZ xL Nd (Yi! (JRA Jls An! (Jw4 (PE.XU (Jdw Sl)) (Jdw Jg))))) Az)))) (OL! 2));intro fa lW;have s1:=cx! lW;have e1:qv! (S0! fa []) []:=Ab;show I8? fa;have th1:CF H1 as ts:=jg! s1 th;show DK? sa (PA! es) (λaa lu=>?_);show Qw (b:=ab!) (AM!:=au!) lu zt (PA! es) th1 (xC!) λH2 bs sm ea tb=>?_;.have#[o,g,eo]:=Ce! rV k JS! f ZN! (BK! (AC sm (PA! el))) ha;show Eb? l o g;rw[eo];show O? q
 have naa:BJ! aa:=by cases c:H aa with | none=>rfl | some o=>rw[Uh! c] at lu;cases lu
 have uD:fa≠aa:=λz=>by rw[<-z,e1] at lu;cases lu
 show#[λm σ H'=>V_ λ(ahead:List T2)(found:List T2)(OZ:List Addr)(u3:Option V)=>σ=[Fy! sa,PD!,Fy! fa,u3,Fy! aa]/\db/\Sj! fa By It!/\JK! aa (JB! OZ.map)/\CF H' OZ ahead/\OL (R_ hl) m ahead It! R/\found.length+m<=6000/\XZ! Sz!,#[n,_,[],bs,_,A!,Ai s1 sm,L5! sm,ea,tb,tq,by simpa using zn,w4!],?_];rintro m σ H' ⟨ahead,found,OZ,u3,rfl,sh,ef,hG,pS,rc,zm,hk⟩;show#[_,A!,_,W! (Dg! (Co! hG)),?_];cases m with | zero =>have#[e0,eR]:=rc;rw[e0] at pS;have e2:OZ=[]:=Gn! (Mb! pS);rw[e2];show Bs (Bj! (k fa H' lW sh ?_));rw[eR];show ef | succ m =>have zl1:=rc.len;have#[a,t,qd,rc]:=rc;rw[qd] at pS zl1;have#[UZ,c,e2,thb,ec]:=Jm4 pS;subst e2;(have em:LG! (UZ++[c]).map=pw!++[AK! c]:=cO!);rw[em] at hG ⊢;rw[show Ac! (!(pw!++[AK! c]).isEmpty) by cases UZ<;>rfl];show B3 #[_,λFN H' h=>#[m,Q_ m,h],?_];show#[L?,Od! hG,aa,_,_,A!,A!,hG,Jsi _ _,?_];rw[show(pw!++[AK! c]).dropLast=UZ.map DN! by simp];(have s3:Cp! WJ!:=Jnr naa sh);(have YQ:DQ H' WJ!:=JZ! hG);(have dA:qv! WJ! It!:=WF uD ef);have vc:JQr WJ!:=Ab;have iK:CF WJ! UZ a:=Lr! YQ thb;have qa:=P! YQ.BV ec;generalize IR H' aa (JB! UZ.map)=H3 at s3 YQ dA vc iK qa;show#[L?,_,A!,fa,_,A!,Ms dA qa,_,A!,?_];rcases rc with⟨hf,rc⟩|⟨hf,rc⟩;(.rw[AF hf];show Bs #[a,It!,UZ,_,A!,s3,dA,vc,iK,rc,CL zm,JGf hk qd]);.rw[AD hf];show B3 #[_,A!,_,A!,fa,_,A!,IW.t (k:=tk t) dA qa (Yf! (EQ! Tu)),?_];rw[Gb,show Cb It! t=OG! by unfold Cb;rw[AD hf]];(have s4:Cp! WL!:=JIo lW);(have QO:DQ H3 WL!:=JZ! dA);have jj:qv! WL! jU!:=Ab;(have qb:JQr WL!:=WF uD.symm vc);have iJ:CF WL! UZ a:=Lr! QO iK;have vZ:=P! QO.BV qa;show Cf? (br! (OG!).map Hk!=By (OG!));generalize E5! H3 fa By jU!=H4 at s4 QO jj qb iJ vZ;have tin:Sz!:=JO1 hk qd;have#[ad,vL]:=xn tin;have mq:=BH vL;have#[q2,q1]:=hq _ mq;have q2:CC! B8 hl t 900:=q2;have q1:PD H l ad mV!:=q1;show#[_,A!,Od! qb,?_];change an! eS _;show eS.wk (S:=λpl H6=>∃au,CG H4 H6/\Sw! H6 pl au.map/\JMM) (λQ' fin=>?_) λpl H6 #[au,s6,vS,aA]=>?_;(.cases q1 with | d q1 q3 =>show y! #[AG?,l,_,A!,JZp,ad,_,A!,FI! q1,λob pl UK=>?_];show NT! Qx b JBm AM! au! l (B8 hl t) UV (λq=>q) val Tf! ob ob UK q2 Ab (JfD (Oo! q3.symm (FI! el))) (λH5 au sm5 ep5 cE=>?_);have f5:w! H5 ad (Zn! By mV!):=O9! sm5;show Fn? (E5! H5 ad By mV!) ad f5;show Ii? ad q1;(have t_:pl≠ad:=λz=>by rw[z,Ab] at UK;cases UK);show P! AD! #[au,GS!,WF t_ ep5,?_];(.by_cases hb:b=ad;(.show RI? (FI! q1));.rw[Ad hb];show yZ! sm5);·(have cE:CF H5 au (R_ hl t):=by rw[LN] at cE;show cE);show Ax (jl!) cE;rw[Ad (Ow! f5)];show e | t cs q1 q3 =>show R? #[e?,A!,l,_,A!,JZp,ad,A!,#[_,(MK s4).sq q1],λpl UK=>?_];show Jgo (K:=K) (ts:=B8 hl t) (b:=λu=>Go (u∈Fj! (JS!))) (AM!:=au!) UK q2 ((MK s4).sq q1) (lz! s4 q3) (JfD (To! el)) λH6 au s6 vS (aA:CF H6 au (R_ hl t))=>P! AD! #[au,s6,vS,aA]);.have aA:JMM:=aA;have zz:=rc.len;rw[ZE] at zz;show Ez? iJ;have l2:=Bf! aA;show#[aa,pl,_,_,A!,A!,L4! qb,vS,JLl,?_];rw[<-ZF];(have bA:DQ H6 (IR H6 aa (JB! (UZ++au).map)):=JZ! (L4! qb));show#[a++R_ hl t,OG!,UZ++au,_,A!,GS!,?_,Ab,Kb! bA (yC (lz! s6 iJ) aA),rc,?_,Jz!];(.show CA? naa s6 s4);(.rw[Ad uD];show L4! jj);(.rw[ZE];change found.length+1+m<=6000;lia);.show Ar?;(.show hk u (l! qd (Ao! hu)));.show Cd? hu;show AP?
open E
open S
def Jw2{Kx:W.Frag}{X:F!}{tg l:Expr}{tl:TE}(hl:Vp!):PI X tg l JZk:=λAB s σ H R I h=>M4! (JeX C6) (JeX Jg)
def Jvs{Kx:W.Frag}{tl:TE}{a:Addr}{xs:C!}{g:TG}{tb:TS}{D:Ends}{σ:L2.St}{H:Hp}(hv:∀R:VK,R Bw! H->F0! tl R)(Pv:of!)(h0:Pv!)(hl:(di! rp!)\/(di! rq!))(hs:vF!)(hd:rs!):Jwl JZk g tb D σ H:=by
 rcases hl with hl|hl;show AH? (Jey Kw)
 .show G? (Jey Sv)
inductive xQ(vs:C!)(H:Hp)(Q:VK)(E:XK):B!
 | mk (p ta:Addr) (G:BZ) (as:X!) (ts:E!) (_:JAH) (_:KM) (_:uK!) (_:Bq! ta FF!\/JKM) (_:Ga!) (_:S6! Bs!)
def ng:y9! [DU!,Fe!,CO!] kG:={}
def Jjv(F:a! "lose" "House.lose" kG)(T:Txt):HZ! OJ! xQ:=by
 show D? ng;have#[p,ta,G,as,ts,rfl,S,ke,et,th,k]:=h;show A?;show K?;have lt:=JmD;show#[_,Af (JhU (Jw2 (pv 1)) (Jg4 2 ng.nd) (Af (Bh (JSK KB) (PM! (JoT KB) (JBG KB)) Az))),?_];show Jvs (a:=ta) (xs:=LG! BW!) (λR r=>Bj! r) (JNJ (σ=[AP!,Fy! ta,u2]/\F8! H2 (Ap G (Gy! i))/\Y9! H2)) #[_,A!,HO! OS Jiq S,λb o e _ _=>e] (et.imp (xD! NL! (fr _ _ et (S.VL et).1 (S.VL et).2)) (xD! DQ! (fr _ _ et (S.tup_ne et).1 (S.tup_ne et).2))) ?_ ?_;.rintro i x σ H2 hx ⟨u2,rfl,S2,PY⟩;show Ah?;cases ea:as[i]? with | none=>show Bs? ea | some a =>rw[ea] at hx;have hx:LM!=x:=ZO hx;subst hx;have#[t,ht]:=iW! ts (by have:=BP! ea;show lt▸this);have ha:=Bf th i a t ea ht;have cz:=JYl PY;show Au?;have#[o,g,eo]:=Ce! rV k HX! f GL! (BK! S2.dO) cz;have f1:=JKQ AI! ht;have f2:=Ky (JS!) Ax! ht;show#[RP? C LK IU DV! (D3 _) wp o g];rw[eo];(have ks:QE! (Ap G (Gy! i)).holds.map xE!:=by show F7? JBy JBy;rw[JSv w3!,Ez (HX!) AI! (SB! w3!),ke]);by_cases h:Fz! xE!;(.rw[AI h];have#[v1,hv1]:=Jck nL! GL! h;have#[v2,hv2]:=Jck m5! ZN! (l! ks h);show B3 #[Ls? LK IU DV! (D3 _) wp S2.dO S2.dO cz hv1];rw[Lj (k:=HX!) (f:=GL!)];have S3:=S2.NK (Ol! Tp!);(have UM:Y9! JUJ:=Xp! (WF JGG (i1! PY)));have ha3:=JYl UM;show Cf? (br! (Ol! Tp!).map FR!=Dp (Ol! Tp!));have S3:F8! JUJ JOO:=S3;generalize IR H2 wp (Dp (Ol! Tp!))=H3 at S3 UM ha3;show BW?;show#[Ls? SD RJ CR! (E9 _) Aj! S3.dl S3.dl ha3 hv2];have e3:uG! (JOO:BZ).holds.map Tj! t bb! Tp! Tj! :=Ce! Lj k JS! f ZN! _ t;rw[e3];have S4:=S3.bw (hl:=N5! bb! (O!≠t)) IG;(have eG:Ap G (Gy! v6)={ JoE with AL:=JmH Ol!,holds:=JmH bb! }:=by unfold Ap;rw[f1,f2]);show#[_,A!,S! eG S4,Xp! ?_];rw[Ad λz=>h2 (by rw[z];change G.l∈CS!;simp[BX])];show i1! UM);.rw[AG h];have no1:∀q∈nL!,O!≠t:=JOC;have no2:∀q∈m5!,O!≠t:=wm! ks (BD! (JH! z));(have eG:Ap G (Gy! v6)=JoE:=by (have a1:JsI Ol! nL!:=JSV no1);(have a2:JsI bb! m5!:=JSV no2);unfold Ap at a1 a2 ⊢;rw[f1,f2,a1,a2]);show Bs #[_,A!,S! eG S2,PY]
 .rintro σ H2 ⟨u2,rfl,S2,PY⟩;rw[ZA,lt,B_] at S2;show k H2 S2 PY
open E
open S
abbrev Bt(G:BZ)(rs:R!):R!:=N5! JR4 MI!
inductive xN(vs:C!)(H:Hp)(Q:VK)(E:XK):B!
 | mk (p:Addr) (G:BZ) (n:Nat) (rs:R!) (_:GW!) (_:KM) (_:f8) (_:UR!) (_:Vk!) (_:V3!) (_:C9!) (_:FQ!) (_:∀(x:Addr)(as:X!)(H':Hp),oE!->Br! H' FF!->KS H' as (Bt G rs)->PE! (IS G)->lZ!->JM!)
def aS:TD! [DU!,Rn!,"holder",CO!,"unheld",D8!] kF:={}
abbrev Jwh:TE:=rD (Cm (B0 0) (Cm JHe F3))
abbrev Jwe:TT:=JYX JHe
def Jjw(F:zK! "House.give_back" kF)(T:Txt)(Tx:qv):P0! xN:=by
 show D? aS;have#[p,G,n,rs,rfl,S,ok,zn,ck,cj,pm,pw,k]:=h;show A?;show K?;show C?;show Aw? (JXE 1 Ro! (YN! Br (Jit (j6 hr)) Tx.dict PyProof.Rows.boot_dict Aa!)) (Jhe to! 2 Ro! (Yi! (E5 DP JUN PySem.F.type_dict_update (Jsd hu) No (Kr! qS!))) (RL.XU (Ac (JfL [(Rn!,1)] Ro! JLK rx!) (JPN te Jwh Jwe i 5 KE! Ro! JYi (Kz! (D0 (Yx! mF!))) (Jhe (C6 (pv 4)) 3 Ro! (JBG xL) (Af (OL! 5)))))));show CX?;have z2:=ok.OM;have z3:=ok.rz;show#[_,A!,p,C,dx,_,_,A!,hp,q!,I0!,F9 G,G.h,_,A!,I1!,Vp Kc! ck,λhd jZ=>?_];have e0:JO5 [] Xo!=Xo! Hk!:=by have:=Kr AE! [];show H? (P! Yj (by simpa using ok.hn));show AP?
 rw[e0];have s1:=Aj (o:=By AE!) jZ;have e1:qu! (E4! H hd By AE!) AE!:=Ab;show Cf? (br! Xo! Hk!=By AE!);show EB? (E5! H hd By AE!);show AN?;show T?;have jO:oi!:=tq!
 have cY:∀{b:Addr} {o:HO},EK!->b≠hd:=mm! jZ;have t_:p≠G.l:=JZv Aj!;show FF? HM IJ CR! (E9 G) Aj! S1.dl (λob=>?_);show Jpv (d:=Aj!) (ob:=ob) (JNJ (σ=[AP!,b4!,u2,none,none,none]/\qu! H2 (C9 AE! (hT! i))/\JiS (IR H1 Aj! (Zn! Fx Ax!)) (b≠hd) H2)) (JDS (EJ! (Ad JQF) e1)) (λi σ H2 _ h=>let#[_,_,_,fr]:=h;ll! Ab S.dl) ?_ ?_;.rintro i a kk v σ H2 hx ha ⟨u2,rfl,eh,fr⟩;show Ah?;cases eq:G.holds[i]? with | none=>show Bs? eq | some q =>rw[eq] at hx;have hx:(Nt!,AK! WP)=(kk,v):=ZO hx;have mq:=ZP eq;have e2:kk=Nt!:=m4! hx;rw[e2,wx] at ha;have hpp:ac! (LH! HM (B9 G)):=ll! (Oo! t_ IJ) hp;show Ns?;(have hqq:Np! H2 WP By BN!:=by have h0:=S.hl q mq;show ll! ?_ h0;rw[Ad (S.aF.2.2.2 q mq).2.2.1];show S1.hl q mq);(have gv:Ck (RO! Tj!) (tk O!)=D! (DN! WP):=EJ! Jp0 (FX.IM (k:=JS!) jO mq));have l0:=Kd! q mq;(have l1:(C9 AE! (hT! i)).length<=62+62*62:=by have h1:=Ro (B:=62) (qs:=hT! i) (Iv!:=AE!) (Ff! (by have:=(Kd! r (List.mem_of_mem_take hr)).2;show AA this zn));(have h2:JFT<=G.holds.length:=S! CO (MV _ _));have h3:JFT*62<=62*62:=EV _ (AA (AA h2 z2) zn);lia);show#[_,A!,v! (iB! (Bc! (Ss! eh))),_,A!,p,C,HM,_,_,A!,hpp,q!,CR!,E9 G,_,A!,Aj!,_,A!,v! #[_,Nt!,a,E9! ob gr,A!,ha,gv.symm],hd,WP,_,_,A!,A!,eh,W! hqq,(cY (S.hl q mq)).symm,?_,λ_=>Vp l0.1 (cj q mq),?_];(.rw[ZA,ZA];show AV (Tu V!));.rw[Kr,<-Jdz AE! eq];show#[_,A!,Ab,wW! (HR! fr hb)]
 .rintro σ H2 ⟨u2,rfl,eh,fr⟩;rw[ZA,B_] at eh;show Ns?;show Fn? JYe Aj! gr;show Ii? Aj! S.dl;(have s3:Cp! JXs:=B4! (by by_cases hb:b=G.l;(.show RI? S.dl);.rw[Ad hb];show FM fr (l! EZ! (P! s1 e)) (cY e)));(have e3:qu! JXs (C9 AE! Ax!):=WF JQF eh);generalize JYe=H3 at s3 e3;show F1?;show BW?;show GT? SD RJ G6! (De G) BG! (wv If!) Jpj S3.dr (ic! (AA z3 zn)) ?_ pw (λsl jo fJ tsl=>lV! sl Ab (λul hul=>?_));(·(have e4:JNR G.AK.map kV!:=Li!);rw[e4];show NC! _);have s4:=T2! jo.map fJ;have cR:JCY JSk jo.map:=Ab;have t4:CF JSk jo (If! be):=q8! tsl;generalize JFg sl jo.map=H4 at s4 cR t4 hul;(have lrs:rs.length<=62:=by show EC?;show this▸(AA z3 zn));show Qw (b:=nA!) (AM!:=[(Rn!,1)]) hul (Yf! (GB! lrs)) cR t4 (λH5 a t Q' sm ha ht q=>?_) λH5 bs sm eu tu=>?_;(.show Eb? hd _ (Ms (AC sm (To! e3)) ha);(have e5:JBd fD! (! Bl G t):=by rw[<-Jl2];show B? fD!;(.rw[Ap!,AI c];rfl);.rw[AD c,AG c];rfl);rw[e5];show O? q);have eU:(If! be).filter (nA!)=SW! Rm! PH!:=(Ez JrX rs nA!).symm;rw[eU] at tu;have s5:Cp! H5:=qa! s3 sm;have iH:∀q∈Rm! (PH!),q∈rs:=Aw! jI!;(have usz:FD! Rm! PH! 62:=by have:=BE (PH!) rs;show AA this lrs);have hbk:Bt G rs=JR4 (Kt! MI!):=rfl;(have und:zd! Rm! PH!:=by have h1:JmC:=JlI NC! Iw!;show ou! h1.sublist);generalize qH:(Rm! PH!)=us at tu iH usz hbk und;have S5:=JN! s5;have lB:=Bf! tu;rw[ZA] at lB;have val:∀q∈us,I3! (λr=>JI! h! O!)=D! q:=Aw! (FX.IM (k:=HX!) Iw! (pm.subset (iH q hq)));show DK? ul eu (λbl jc=>?_);show Dz (K:=K) (a:=ul) (p:=bl) (xs:=pv!) (tt:=Jwe) (te:=Jwh) (AM!:=KE!) (λi ys H6=>∃cs:X!,ys=LG! cs.map/\YM! H6 bl/\CG H5 H6/\KS H6 cs ((WT! i).filter (Kt! MI!))) #[[],A!,Ab,Aj jc,U!] (λi ys H6 _ h=>let#[_,_,e,sm,_]:=h;aP! sm eu e) ?_ ?_;(.rintro i x ys H6 N hx ⟨cs,ey,e6,s6,ba⟩ hN;show Ah?;cases eb:bs[i]? with | none=>show Bs? eb | some b =>rw[eb] at hx;have hx:AK! b=x:=ZO hx;subst hx;show Nl?;have hb:=Bf tu i b O! eb JEv;have hb6:=L4! hb;show F2?;show CW?;have gv:GF H6 BG! OX! (jH! PP):=Ph S6.dr hb6 (val q (ZP hq));have ft:=Jd3 (b:=gu! (Go MI!)) hq;show#[Ax? p C UY _,XH,q!,G6!,De G,_,A!,BG!,_,A!,gv,_,_,A!,A!,_,A!,?_];show B? MI!;(.rw[AI c] at ft ⊢;show B3 #[_,A!,_,A!,p,C,UY,_,_,A!,XH,q!,G6!,De G,_,A!,BG!,_,A!,gv,S3!,λx1 uR=>?_];have s7:=Sl! (AK! b) YO! uR;have x7:Pd! (E4! H6 x1 ii tX!) x1 tX!:=Ab;have e7:=P! s7 e6;generalize cL! H6 x1 tX!=H7 at s7 x7 e7;show KU? (ok! H7 bl (AK! x1)) e7;(have lcs:cs.length<=us.length:=S! (Bf! ba) (Qp _ us i));show#[e7,pB! ey (Tu (AA (AA lcs usz) Op)),EW! #[cs++[x1],Z7! ey,Ab,λd o e=>?_,?_]];(.show CA? jc s7 s6);.rw[ft,Aq!];show Ji (KS.keep aZ (KS.keep (MK s7) ba)) #[b,P! aZ.BV x7,EN! aZ.BV s7 hb6]);.rw[AG c] at ft ⊢;show Bs (AC hN #[cs,ey,e6,s6,?_]);rw[ft,cE!,AM];show ba);.rintro ys H6 ⟨cs,ey,e6,s6,ba⟩;rw[ZA,lB,B_,<-hbk] at ba;rw[ey] at e6;show F2?;have qT:=L4! eu;have tu6:T6! H6 Xq! be:=JEH tu;(have yo:bl≠G.r:=λz=>by rw[z,S5.dr] at jc;cases jc);(have zR:BJ! bl:=by cases c:H bl with | none=>rfl | some o=>rw[P! s5 c] at jc;cases jc);show#[_,A!,ul,A!,#[_,Co! qT],?_];have JGX:∀j,JGq (JqO JC6:BZ).AK (O!∉JC6):=KN!;show Ai? Kw K K a ul xs pv! (λi σ H7=>∃u3:Lg!,σ=[AP!,b4!,u2,u3,Fy! ul,Fy! bl]/\F8! H7 JJa/\JiS H6 (b≠G.r) H7) (JDS ?_) (λi σ H7 _ h=>let#[_,_,_,fr]:=h;NL! (FM fr qT (λz=>by rw[z,S6.dr] at qT;cases qT)));(·(have e8:iu! Iu! (O!∉(Xq! be).take 0)=G.AK:=r0!);rw[e8];show S6);(.rintro i x σ H7 hx ⟨u3,rfl,S7,T_⟩;show Ah?;cases eb:bs[i]? with | none=>show Bs? eb | some b =>rw[eb] at hx;have hx:AK! b=x:=ZO hx;subst hx;show Nl?;(have ud:(Xq! be)[i]?=D! O!:=TY! hq);have hb:=Bf tu6 i b O! eb ud;(have hb7:=FM T_ hb (λz=>by rw[z,S6.dr] at hb;cases hb));have#[ve,lM]:=S7.ob;(have qin:O!∈SW! Iu! (λr=>Go (h!∉JmJ)):=by show BD! #[q,Mf! #[pm.subset (iH q (ZP hq)),?_],A!];have:O!∉JmJ:=λz=>Rg und ud z;show AP?);have#[v,hv]:=P6 (l:=Iu! λ(r:T2×Int)=>Go (h!∉(Xq! λ(z:T2×Int)=>Ah!).take i)) (k:=λ(q:T2×Int)=>O!) (f:=λ(q:T2×Int)=>YO!) (t:=O!) qin;show#[_,Ei? ve lM,Eg? q! G6! (De _) BG! S7.dr Nt! b S7.dr hb7 hv];(have e9:uG! ((JJa:BZ).AK).map FR! O! Iu! JLI FR!:=S! (JKQ AN! ud) (Ce! Lj k HX! f GL! _ _));rw[e9];have S8:=S7.VN (Iu! JLI);show#[_,A!,S8,wW! (FM T_ e hb)]);.rintro σ H7 ⟨u3,rfl,S7,T_⟩;rw[ZA,lB,<-ZA (f:=HX!),B_] at S7;have bA:DQ H6 H7:=#[λb xs e=>JUo,λb o v e=>JUo];show O? (k bl cs H7 zR (T_ _ _ e6 yo) (KS.keep bA ba) ?_ (Xp! (FM T_ (AC s6 (AC s5 e)) JGG)));(have eK:IS G=JqO JlY:=by unfold IS;(have:JGq (Iu! λq=>ZH!) JB0:=LP (Aw! (by show B? (ZH!=true);(·(have nm:JB0:=λz=>by have#[r,hr,er]:=ZN z;rw[<-qH] at hr;show Cd? hr;show U? er c;cases this);rw[c,AI nm]);·show FY? (A9! ZH!);(have im:O!∈JlY:=JKU qH (Ll! (pm.symm.subset hq) (Db! c)));rw[c];simp only[im,not_true_eq_false,decide_false])));show M?);rw[eK];show S7
open E
open S
inductive xy(vs:C!)(H:Hp)(Q:VK)(E:XK):B!
 | mk (p:Addr) (G:BZ) (n m:Nat) (rs:R!) (R:E!) (_:GW!) (_:KM) (_:f8) (_:UR!) (_:Vk!) (_:V3!) (_:C9!) (_:FQ!) (_:JE3) (_:m<=5000) (_:p4!) (_:JVf JrN Cr!)
def iP:TD! [DU!,"lent","kept"] Ui:={}
abbrev Jyg:TT:=JYX (mS! CN!)
def Jo3(F:zI! JW7 Ui)(T:Txt)(Tx:qv)(MR:JVp)(ML:JT1)(MG:JTv) : qJ! xy:=by
 have GR:JYg fR dR:=U0 MR.fn;show PR?;show Ou?;show D? iP;have#[p,G,n,m,rs,R,rfl,S,ok,zn,ck,cj,pm,pw,rc,zm,a_,k]:=h;show A?;show K?;show C?;show Aw? (JrI te Jc! tt Jyg i 1 KE! iP.nd to! ZD! jL! ZG! JYi jz!) (RL.XU (Ac (JXE 2 iP.nd (Ky! GR hr MR.mg MR.fn.kp MR.bd (y5! (A3 Joo (JQH Yh Tx.list Aa!) No)))) (PM! (JZe (PE.XU (if! Jc! (bz! 2) to! ZD! jL! ZG! rx! (pv 0)))) JfM)));have z0:=ok.oz;show CX?;have z2:=ok.OM;have kg:p≠G.o:=JZv wp;show FF? dx hp DV! (D3 G) wp S.dO (λob ll gr=>?_);show NT! Qx b o2! AM! KE! l AI! UV (λq=>O!) val GL! ob ob gr JRq Ab (xC!) (λH2 bs sm el tl=>?_);.have IU:ac! JAk:=P! sm (Oo! kg hp);(have gv:Ck (NH! FR!) (tk t)=D! (AU! (Ah AI! t)):=EJ! e0! (Pk ht));show#[Fa?,IU,q!,DV!,D3 G,_,A!,wp,_,A!,JMv (E9! ob (O9! sm)) gv.symm,_,_,A!,A!,_,A!,q]
 have lP:w! H2 wp (Zn! Dp AI!):=O9! sm;show Fn? JYd wp lP;show OA?
 have nll:ll≠G.o:=λz=>by rw[z,Ab] at gr;cases gr
 have s3:Cp! um!:=JMm S.dO (P! sm (l! EZ! e))
 have fX:Sw! um! ll Qm!:=WF nll el
 have tl3:T6! um! Pb G:=JTY tl lP
 generalize JYd=H3 at s3 fX tl3;show F1?;show BW?;show FF? SD RJ I0! (F9 G) G.h (W! S3.dh) (λl1 MJ cq ky1=>?_);have t1:CF H3 MJ AE!:=Jj2 (val:=Tf!) ky1;have s4:=T2! Rk! cq;have e4:Sw! ul! l1 Rk!:=Ab;have t4:CF ul! MJ AE!:=q8! t1;have cR:=FI! fX;have tK:T6! ul! Pb G:=q8! tl3;generalize JFg l1 Rk!=H4 at s4 e4 t4 cR tK;have n1:=Bf! t4;have n2:=Bf! tK;have n3:pV! Pb 62:=by have:pV! Pb (JrV NH!):=BE _ _;show Bl?;show AA (AA this z0) zn
 show#[n? l1,ll,_,_,A!,A!,e4,cR,JLl,λcl uy=>?_];rw[<-ZF];have s5:=T2! om! uy;have e5:Sw! JYP cl om!:=Ab;have t5:CF JYP (MJ++bs) (ti!):=jg! s5 (yC t4 tK);generalize IR H4 cl (JB! om!)=H5 at s5 e5 t5;have S5:=S3.same (Ai s4 s5);have#[dB,cL]:=S5.ob;show#[o?,C,dB,_,_,A!,cL,q!,CR!,E9 G,cl,Aj!,MJ++bs,ti!,Ax!,m,R,A!,e5,t5,yJ! ZE (LO (AA z1 zn) n3),S5.dl,Aw! #[by have:=(Kd! q hq).2;show GB! (AA this zn),.d (S5.hl q hq) (S.aF.2.2.2 q hq).2.2.1],rc,GB! zm,λkp H6 hkp s6 ek=>?_];show F2?;show CW?;show#[_,A!,p,UY,_,A!,XH,Cu!,_,A!,p,C,UY,_,_,A!,XH,q!,DV!,D3 G,wp,_,A!,S6.dO,λt9 gl um=>?_];have nkp:kp≠G.o:=λz=>by rw[z,S5.dO] at hkp;cases hkp
 show NT! Qx b kY! AM! (bz! 2) l AI! UV (λq=>O!) val GL! ob t9 um JRq Ab (λH7 a t Q' pX ha ht q=>?_) (λH7 gs pX eg tg=>?_);.show Eb? kp _ (Ms (pX kp (By R) (Oo! nkp ek)) ha);(have e8:JBd DT! (Go (t∉R)):=by show B? DT!;(.rw[AF c];simp[c]);.rw[AD c];simp[c]);rw[e8];show O? q
 have ho7:w! H7 wp (.IC t9 (Dp AI!)):=O9! pX;show#[JZL,#[wp,t9,_,ho7,λo v z=>?_,A!],?_];show OA?
 have ngl:gl≠G.o:=λz=>by rw[z,Ab] at um;cases um
 have s8:CG H6 vZ!:=JMm S6.dO (yZ! pX)
 have eg8:Sw! vZ! gl gs.map:=yw! ngl
 have tg8:CF vZ! gs (dd! kY!):=JTY tg ho7
 generalize JZL=H8 at s8 eg8 tg8;have S8:=S6.same s8;show#[p,gl,G,gs,_,A!,S8,Fk!,W! eg8,tg8,xG!];rw[Jd6 Fk!] at S9;have#[aP,cp]:=S9.ob;show OI?;rw[Bq];have bN:=S9.fld aP (keepR G R).BB ((keepR G R).BJ+1);show J9? (XT p G H8 JT2)
 have bN:F8! JT2 (KQ Cr!):=bN;show MN? { lb! with BJ:=(keepR G R).BJ+1 };have#[iy,iZ]:=bN.ob;have s08:Cp! H8:=qa! s3 (KF! s5 s6 s8);show Qb? Cr!;show MO? (YC _ _ (AC s08 e) h1 h2);show Jee (AC s08 e) (λz=>h2 (List.Sublist.subset (Vu (G:=g2! (keepR G R).AL) IG) z))
open E
open E Lake.K66
open N Lake.FX
open PySem PySem.Spec PyProof.Rows L2
inductive ND(H:Hp)(t:Addr)(n:Int)(kind:Str)(s g:Int)(tb:T2)(x:Int):B!
 | mk a b (_:LE! t [Ho!,wE E0!,Ix s,Op!,A2!]) (_:JD4 Cs! x) (_:BS!)
def ND.keep(h:JdO x)(k:BV!):ND H' t n E0! s g tb x:=let#[a,b,e1,e2,e3]:=h;#[a,b,qL!,VU!,P! k.BV e3]
open E Lake.FX
open N Lake.K66
open PySem L2 FX
abbrev J0b(G:BZ)(tb:T2)(wt:Int)(G':BZ):B!:=(Ti!/\pq! (G'=JlP SO! JB4))\/(GP!/\G'=JWd)
abbrev Wt(kind:Str)(G:BZ)(tb:T2)(wt:Int)(G':BZ):B!:=(nT!/\J0b G tb wt G')\/(Fq! NU!/\G'=JGg)\/(Fq! D8!/\G'=JHz)
def Wt.BX(h:JGC):WH! G':=by rcases h with⟨_,⟨_,o,_,rfl⟩|⟨_,rfl⟩⟩|⟨_,rfl⟩|⟨_,rfl⟩<;>rfl
open S
abbrev Sz(G:BZ):B!:=UY!/\Ly!/\Lw!
inductive Hr(vs:C!)(H:Hp)(Q:VK)(E:XK):B!
 | mk (p t:Addr) (W:EL) (n s g:Int) (kind:Str) (tb:T2) (wt:Int) (q:Addr) (G G':BZ) (_:GV!) (_:AS!) (_:JdO wt) (_:kZ!) (_:JGC) (_:Sz G) (_:∀H',SP! (gz! JD2)->JW!->JO!)
def MQ:JUp "kind" RX! CO! Fl! Kd:={}
def Jhz(F:a! JXZ JXa Kd)(T:Txt)(TW:F1)(M1:ij! "came" "House.came" mn f1 d1)(G1:et! h7! xM)(M2:ij! "added" JW1 Uk f2 d2)(G2:mC! h7! xw)(M3:ij! "given" JW2 Ug f3 d3):rV! Hr:=by
 have G3:E6! f3 d3 h7! Jjf:=Jo1 M3.fn T;show mN! MQ;.have#[p,t,W,n,s,g,kind,tb,wt,q,G,G',rfl,_]:=h;rfl
 .have#[p,t,W,n,s,g,kind,tb,wt,q,G,G',rfl,S,#[a,b,e1,e2,e3],i,cm,#[z1,z2,z3],k]:=h;show Q?;show C?;show Fp? MQ.nd MQ.nd (li! Hc!) MQ.nd (k8! MQ.nd kX! (JJY (Jnw xL Fo! G1 D6! tv!) (JJY (Jnw xL I2! G2 Fp! tv!) (Yi! (YY! xL q! M3.mt G3 GZ M3.bd tv!)))));show JQ?;show#[Fc?,Ax? hp v4 G7! (Dy W),Be? t _ _ A! A! ZS! A! DS! _ _ Un! i.VY];show Dv?;show Dv?;show Az?;(have dn:Done q G H G' λH'=>JO!:=λH' S' fr=>by have#[x1,x2]:=S.step Uf S' fr (UF (y! (by rw[cm.BX] at hb;show hb)));show k H' x1 x2);rcases cm with⟨rfl,cm⟩|⟨rfl,rfl⟩|⟨rfl,rfl⟩;(.show j7 #[n? q,HM,_,A!,hq,Cu!,_,A!,_,A!,q,b,G,tb,wt,A!,i.at S,e3,z1,z2,z3,?_];rcases cm with⟨h1,o,h2,rfl⟩|⟨h1,rfl⟩;(.show E? #[h1,o,h2,dn]);.show r? h1 dn);(.show aE (j7 (JfT z3)));.show aE (aE (JfT z2))
abbrev F2(G:BZ)(tb:T2)(sh:Int)(ID:Bool):BZ:=JlP mG! JZM
abbrev dJ(p:Addr)(W:EL)(H:Hp)(x:Addr):B!:=DG! (EK!->GO!->b≠x)
inductive On(vs:C!)(H:Hp)(Q:VK)(E:XK):B!
 | mk (p t:Addr) (W:EL) (n s OD goal:Int) (tb:T2) (q:Addr) (G:BZ) (_:GV!) (_:AS!) (_:ND H t n E1! s OD tb goal) (_:M_ W OD q G) (_:Sz G) (_:FL!) (_:FM!) (_:((goal=OD/\∀(x t1:Addr)(H':Hp),j6! (u5! GM) B9! jX!->ND H' t1 Sv! NU! OD s tb D2!->JW!->hU!->je!->JHA->JM!)\/(goal≠OD/\∀(x t1 t2:Addr)(H':Hp),JpI (u5! Os) Oq! (jX!++JO4) t1 Ba! OD goal D2! (ND H' t2 (B9!+1) NU! OD s tb D2!) (JW!->hU!->je!->Nr! H' x [He! B9!,He! Oq!]->JM!))))
def QG:JUp "home" CO! "goal" "went" Ua:={}
def Jor(F:a! "pass_came" JXc Ua)(T:Txt)(TW:F1)(TP:P0)(M1:B8! C "passed" JW4 Oy T9! f1 d1)(M3:Qb!) : LU! EL! On:=by
 show Lo? T9! Jes Jlk QG;.have#[p,t,W,n,s,OD,goal,tb,q,G,rfl,_]:=h;rfl
 .have#[p,t,W,n,s,OD,goal,tb,q,G,rfl,S,#[a,b,e1,e2,e3],i,#[z1,z2,z3],ho,zl,k]:=h;show C?;show Fp? QG.nd QG.nd kX! QG.nd (JEI (JMp (JmL Aa! (ax! An! KB))) QG.nd H0! (YR! kC An! KB (af! CV! (JeS An!))) (JEL CV! (JeS Hc!) (OL! 5)));show JQ?;show Dv?;show Dv?;show Az?;show#[o?,CW,dx,_,_,A!,hp,v4,G7!,Dy W,_,A!,DS!,_,_,_,A!,A!,Un!,i.VY,q,HM,_,A!,hq,Cu!,_,A!,_,A!,p,CW,dx,_,_,A!,hp,v4,TW.nS,Jz W,_,A!,_,A!,A!,q,b,G,tb,D2!,sG!,A!,i.at S,e3,z2,z1,ho,Jl!];show DH?;show Aq?;show#[AL!,Ok!];have s2:=io! hx;have ex:Nr! (E4! H1 x Ai! []) x []:=Ab;show DR?;have jU:=QP.trans (MK s2);(have gI:hU!:=λz=>by rw[z] at hx;rw[W1.hs] at hx;cases hx);(have xnw:je!:=λb o e hb z=>by rw[<-z,HR! IT hb] at hx;cases hx);have jk:=L5! jU.BV;have dA:=P! jU.BV e3;show Av?;show ED?;have jD:x∉Bx p (gz! (u5! (MZ! (de! goal OD)))):=W2.YI ex gI;show#[e?,A!,A!,_,A!,?_];rcases k with⟨rfl,k⟩|⟨ne,k⟩;(.rw[show CA! (! JHG) by simp];show k?;show#[QO? JCU LK IU SD aK jk,NV?];show J6?;show DS?;show NM?;show GM?;show DM?;show MP?;show L0?;show LR?;show O? (k x t1 _ ?_ JbJ JrZ gI xnw Ab);show OW? W4.keep vn! (Zp! (JHG=true));show Lx? JST);.rw[show Ac! (! sG!) by simp[ne]];show f?;show#[_,A!,JCU,_,A!,p,CW,LK,_,_,A!,IU,v4,Rp!,Ep _,Bp!,SD,_,A!,aK,Oe!,_,A!,_,NV?];show J6?;show DS?;show NM?;show GM?;show DM?;show MP?;show L0?;show LR?;have l1:ND mQ! t1 Sv! Ba! OD goal tb D2!:=JbJ;(have W5:=W4.keep (H':=vn!) λb' o' KR e'=>ia! (JhP jD KR) e');have vN:JCz mQ!:=Ab;have oU:=JnQ jk;have oS:=JnQ dA;(have wf5:∀b' o',Bq! b' o'->b'∉F9!->w! mQ! b' o':=λb' o' e' KR=>by (have lZ:b'≠x:=λz=>by rw[z] at e' KR;rw[IT x o' e' KR] at hx;cases hx);rw[Ad lZ];show JST);generalize vn!=H5 at l1 W5 vN oU oS wf5;have#[dB,cL]:=W5.ob;have#[UY,qJ]:=W5.po.ob;show#[QO? (Od! vN) dB cL UY qJ oU,RH? A! _ A! CW dB cL v4 TW.nS (Jz _) (λa6 ha6=>?_)];have s6:=JnV ha6;have W6:=W5.same s6;show#[Bp!,Il!,B9!,jX!,_,_,_,_,A!,W6.po,(by rw[ZE];change _+1<=2700;show AH zl Op),λt2 H7 ht7 vP S7 T_=>?_];have#[W7,jE]:=W6.LD S7 T_;have bA:=NV! W6 jE;have ex7:JCz H7:=FM jE (AC s6 vN) jD;show#[x,_,_,A!,A!,ex7,Du (by change 1<=20000;decide),?_];(have kr:DQ H7 (ZL! H7 x kr! JAj):=JZ! ex7);show O? (k x t1 t2 _ ?_ (l1.keep (((MK s6).trans bA).trans kr)) #[a6,b,P! kr.BV vP,JPi Ab,JPi (AC s6 oS)] JrZ gI xnw Ab);show OW? W7.keep (OB! H7 x (kr!++[JAj])) (show A9! sG! by simp[ne]);show Lx? (JkN T_ (jq! s6 wf5))
open E
open S
inductive Ja(vs:C!)(H:Hp)(Q:VK)(E:XK):B!
 | mk (p:Addr) (W:EL) (_:GW!) (_:AS!) (_:JY6 hV!)
def Jhn:Va! Hw:={}
def Jfo(F:zL! JXY Hw)(TW:F1)(TP:P0)(M1:B8! CP "letters" JXO Ig A4! f1 d1):qJ! Ja:=by show Cm? A4! Ts (Jft NR! TP);show D? Jhn;have#[p,W,rfl,S,k]:=h;show A?;show C?;have#[HM,hq]:=S.po.ob;show Ag? (JkL Aa! TP.cl hr A8);show#[ID?,hp,v4,Rp!,Ep W,Bp!,HM,_,A!,hq,Oe!,Bp!,Il!,W.c,Fi!,A!,S.po,k]
structure rF(G:BZ)(i:Nat):B! where
 eq:JQK
def PR:zB! [DU!,"n",G1!,"kind"] Mg:={}
inductive Om(vs:C!)(H:Hp)(Q:VK)(E:XK):B!
 | mk (p b:Addr) (h g:Int) (W:EL) (tb:T2) (q:Addr) (G:BZ) (_:vs=[Cm!,F2!,Op!,Cs!]) (_:AS!) (_:BS!) (_:By!) (_:(G_ JZ7)) (_:Ly!) (_:Lw!) (_:W.ls.length<=2700) (_:JZU (∃o,Jir G.AL.find? o/\Nw! I3! Y4!=none/\∀(t:Addr)(H':Hp),JpI (In! h.toNat (q,JHy (o+W.share))) B9! (W.ls++j0!) t Ba! h g D2! JW! (PF! Sv!)) ((wt=0/\OA! NW)\/(wt=1/\JNA (Bm AN! tb 0) E1! Is! g)\/(2<=wt/\JNA (jJ! nP!) Ba! g (wt / 2))))
def VP:A3! [DU!,"h","g","b",RX!,Fl!] lL! r_:={}
def Jbn(h:Jm6 Da! t w9):Dc! (Nw! (Bm l t v).find? Da!) t v:=by have m:Ea!:=BD! (Dg! (BH h));unfold Bm;rw[AF m];clear m;induction l with | nil=>simp at h | cons q l ih =>rw[AO];show AI?;(.rw[AF e,CN];simp[e]);.rw[AD e,CN];rw[CN] at h;simp only[e,decide_false] at h ⊢;show ih h
def Joq(F:a! Ib! "World.send" r_)(T:Txt)(TW:F1)(TP:P0)(MH:II!)(M1:B8! C "part" "House.part" mZ Tu! f1 d1)(G1:HN 3 f1 d1 Tu! (xR))(M2:B8! C "is_spent" JXG Ub JC! f2 d2)(M3:Qb!) : lO! lL! Om:=by
 show ET?;have G2:JiD f2 d2 Jjc:=aV! Joy M2.fn T;have G3:N7! f3 d3 Yq! Hf:=aV! Mq M3.fn TP;show W? VP;have#[p,b,h,g,W,tb,q,G,rfl,S,hb,i,#[q2,yF,i2],z1,z2,z3,k]:=h;show A?;show Q?;show C?;show Qm? 4 VP.nd jk! (JEI (JkC MH.mt GH GZ MH.bd) VP.nd (i8! An! q! Fo! G1 D6! (OH! Aa!)) (ju! (Hh (z7! An! I2! G2 GZ Fp! xL)) (JeU ox! KB)) (Cq! (JeU KB CV!)));show Az?;show#[Pc? (v! #[q,G,QB? i g (v! #[q2,yF,i2,?_])])];show#[_,A!,q,HM,_,A!,hq,Cu!,_,A!,_,A!,p,CW,dx,_,_,A!,hp,v4,TW.nS,Jz W,q,b,G,tb,D2!,A!,i.at S,hb,z1,z2,?_];rcases k with k|⟨h1,h2,o,h3,h4,k⟩|⟨h1,h2,wt,h3,k⟩;show AJ?
 .show BF? #[h1,h2,o,h3,Jl!];show DH?;show Aq?;show EE?;show Gt?;(have e4:JGY I3!:=Db! h4);rw[e4];show k?;show EF?;show EG?;show Og?;have s2:=JnV ha;show DR?;show GX?;show GN?;show GO?;show k t H3 W3 #[a,b,et,O9! YQ.BV,EN! YQ.BV s2 (AC QP.BV hb)] JjB;show HS?
 .show AL? #[h1,h2,wt,h3,?_];rcases k with k|⟨rfl,k⟩|⟨h4,k⟩;(.show E? k);(.show R? #[o0,Jl!];(have eg:Hm!-Ir 1=0:=o0);rw[eg] at S1;show DH?;show Aq?;show EE?;show Gt?;(have e4:Go ((((Bm AN! tb 0).find? (kn! Y4!)).map CK!)=D! 0)=true:=by rw[Jbn h3];rfl);rw[e4];show f?;show EF?;show EG?;have qL:=Oy! hb;show#[o?,CW,SD,_,_,A!,RJ,v4,Rp!,Ep _,Bp!,bH,_,A!,gn,Oe!,_,A!,_,A!,b,_,_,_,A!,A!,Bt! qL,A!,_,A!,_,A!,S3!,ND! ?_];show J5? (AO! g);show DR?;show GX?;show GN?;show GO?;show Jb?;show JkN UM (jq! s2 IT));.show R? #[RV (JcX Op h4),Jl!];(have eg:Ir wt=wt / 2:=by unfold Ir;rw[AD (RV h4)]);rw[eg] at S1;show DH?;show Aq?;show EE?;show Gt?;(have e4:JGY (Bm AN! tb (nP!)).find?:=by rw[Jbn h3];show AG Cx!;have:nP!=0:=ZO z;lia);rw[e4];show k?;show EF?;show EG?;have qL:=Oy! hb;show Og?;rw[eg] at *;show J5? (AU! (wt / 2));show DR?;show GX?;show GN?;show GO?;show Jb?;show HS?
open E
structure rE(H:Hp)(c h:Int)(L:k!)(bs:R!):B! where
 num:ZZ!=(DH! hC!).map JpD
 OC:LL! (λ(y:Int×Addr)(q:T2×Int)=>ND H y.2 wT D8! h q.1.1 O! PP) L bs
open S
inductive Si(vs:C!)(H:Hp)(Q:VK)(E:XK):B!
 | mk (p l:Addr) (h:Int) (W:EL) (as:X!) (bs:R!) (_:Ya! F2! FH!) (_:AS!) (_:JFP) (_:l∉F9!) (_:KS H as bs) (_:bs.length<=60) (_:FM!) (_:us! (JBI (SA! hC!)) (vp! H' bs))
def Jrd:A3! ZU! ZU! Qb:={}
abbrev Jwf:TE:=kI CP "put" (Hf) [] E0 (dX K (B0 2) Bo!) (Cm (ZT! D8!) (Cm (B0 1) (Cm (VW (mS K) JbC Zx!) S4!)))
def Jou(F:zK! "World.give_back" Qb)(TW:F1)(TP:P0)(M3:Qb!):LU! ZU! Si:=by
 show Ef?;show D? Jrd;have#[p,l,h,W,as,bs,rfl,S,el,lno,bk,zb,zl,k]:=h;show A?;have lab:=Bf! bk;show QJ? Jwf JWG (C6 (pv 2)) #[A!,A!,CL!] (Jzu BR! BR! h) #[JG!,JG!,CL!] (An KB A!) (JDB (Nu! zy!) bv);show DK? l el bc!;show KA?;have nrl:l≠r:=Al el LV;have jI:r∉F9!:=S.QH LV;have S0:JXL:=by rw[Zp! xH!,AM];show S.same s0
 show Pr? l (LG! BW!) Jwf JWG [AP!,F1! h,PD!] (JMQ (w! H2 l FF!) (wz!/\JCb/\vp! H2 (bs.take i)/\KS H2 as bs/\o7!)) #[Ab,P! s0 el,[],A!,S0,oU!,bk.keep (MK s0),JFH] (aG! #[Co! h.2.1,bn]);.rintro i v ys H2 N hi ⟨er,mC,L,rfl,W2,b2,vm,QN⟩ hN;show f?;rw[ZH] at hi;cases cy:as[i]? with | none=>rw[cy] at hi;cases hi | some ai =>rw[cy] at hi;cases hi;(have hib:i<bs.length:=JAz lab);have#[q,hq]:=Aw hib;have#[cc,ea,ec]:=Bf vm i ai q cy hq;(have lL:L.length=i:=by show En? b2.OC;show H? CO;lia);show Av?;show ED?;show#[Hv? LK,PO? IU SD aK ai,Cc? _ A! (Bt! ea) A! cc _ _ _ A! (Bt! ec) A!];show JT? W2.po lL;have#[W4,TY]:=W2.LD S4 aM;have QO:=NV! W2 TY;have aO:w! H4 r ZV!:=FM TY er jI;have cR:w! H4 l FF!:=FM TY mC lno;show Ib? (ZL! H4 r JpF pS!);show#[aO,JDr,EW! #[Ab,WF nrl cR,JOQ,cO!,?_,?_,vm.keep (hW! kq),JjB]];show L1?;(.rw[DE,hq];show#[?_,Ey ?_ (Ax (λ_ _ rr=>rr.keep (hW! kq)) b2.OC)];(.have n1:=b2.num;(have n2:A1! bs.take i=i:=S! CO (JgC (AV hib)));rw[n2] at n1;rw[ZF,n1,ZE,n2];change _=yV! v6;rw[FU,ZF];congr 1;show F5?;congr 1;show rD!);.show#[ai,cc,aQ! et,JiJ ea,JiJ ec]);·(show NF?);rw[Ad lq];show TY b' o' JDC KR
 .rintro ys H2 ⟨er,mC,L,rfl,W2,b2,vm,QN⟩;rw[ZA,lab] at W2 b2;rw[B_] at b2;show k r L H2 W2 b2 QN (Zl! jI (Ao! iA!)) (λb o e _ z=>by rw[<-z,e] at LV;cases LV) er
def Ny:Jcb Cr!:=UF (by unfold BX at hb ⊢;have hb:b∈te! (EI! Xb! (kn! O5!) Go!):=hb;simp only[BO] at hb ⊢;rcases hb with h|h|h|h|h;(.show N?);(.show DG?);(.show G? JmM);(.show Hz?);.show BS? Ja!;show yf! (AT (BD! #[q,jI!,e])))
inductive J9(vs:C!)(H:Hp)(Q:VK)(E:XK):B!
 | mk (p:Addr) (h:Int) (W:EL) (q:Addr) (G:BZ) (n m:Nat) (rs:R!) (R:E!) (_:U4!) (_:AS!) (_:By!) (_:f8) (_:UR!) (_:Vk!) (_:V3!) (_:C9!) (_:FQ!) (_:JE3) (_:m<=5000) (_:p4!) (_:e6! Cr!) (_:FM!) (_:us! (j6! qD! (SA! (Bt (keepR G R) rs).length) NW!) (vp! H' JrN))
def Jnp:eO! Sj:={}
def Jli(F:zI! "World.clean" Sj)(T:Txt)(TW:F1)(MH:II!)(M1:iM! Ic! JW7 Ui f1 d1)(G1:et! A4! xy)(M2:JT4)(G2:JSw):aC! HI! J9:=by
 have GH:E6! fH dH HI! (tf! El):=FX.FY.no (Ei MH.fn T TW);show D? Jnp;have#[p,h,W,q,G,n,m,rs,R,rfl,S,i,ok,zn,ck,cj,pm,pw,rc,zm,a_,zb,zl,k]:=h;show A?;show Q?;show C?;show Az?;show Ag? (JZR (Jhi (JHU (iq! v4 MH.mt GH GZ MH.bd No) q!)));show#[_,A!,p,dx,_,A!,hp,LB!,_,QB? A! h (v! #[q,G,i,q,HM,_,A!,hq,Cu!,q,QT? m rs R rc zm])];show H8? Ny;show Nt?;show Pl?;show Or? qD! qD! Ny
 show#[QW? h];show k y L H2 W2 b2 JJS gH JJT ey
open E
open E Lake.K66
open N Lake.FX
open PySem PySem.Spec PyProof.Rows L2
abbrev RN(G:BZ)(t:T2):B!:=Ir!\/∃q∈G.holds,TH!
def G9(h:t∈B8 Ax! ta):EY!:=by unfold B8 at h;cases e:JAs (O!=ta) with | none=>show AK? | some q=>show AR?;show v! #[q,BH e,h]
abbrev dZ(m:Nat)(t:T2):B!:=XS t/\Bb!<m
structure Sd(m:Nat)(G:BZ)(n:Nat):B! where
 ok:f8
 nn:ww!
 ip:∀t,EY!->ek!
 rk:∀t,EY!->UV!->GK!
 ir:JA1 ek!
 n0:0<=G.num
 n1:G.num<m
 m0:0<=G.BB
 m1:G.BB<=n
def Ja3(h:q∈Bm l t v):q=(t,v)\/NE!:=by
 unfold Bm at h;show B? Ea!;.rw[Ap!] at h;show AQ? Ja!;by_cases d:UU!;(.rw[AF d] at e;show y! (by rw[<-e,d]));.rw[AD d] at e;show JC3 hr
 .rw[Ef!] at h;show A1?;(.show y?);.show y! (by simpa using h)
def Cf(l:R!)(t:T2)(v:Int):Fz! (Bm l t v).map/\(∀u∈LW!,u∈JAT)/\∀u∈JAT,u=t\/u∈LW!:=by
 rw[Gc];show B? Ea!;.rw[AF c];show#[c,λu hu=>hu,Fb! (v! hu)]
 .rw[AD c];show#[F7! Ch,Fb! (Ao! hu),Jz!];show Ar?;(.show G? hu);.show y! (by simpa using hu)
def Da:nU! (Ah (Bm l t v) u=tj!):=by
 have app:nU! (bY!->Ah (l++Eb! t) u=tj!):=λl t u v h=>by unfold Ah;rw[JRm];by_cases e:u=t;(.rw[AF e,e];(have:JsP:=Ox! uj!);show M?;simp);.rw[AD e];have:¬t=u:=SU! e;cases Zc! (O!=u)<;>simp[this]
 have mp:nU! (Ea!->Ah (FS JsM) u=tj!):=λl t u v h=>by induction l with | nil=>simp at h | cons q l ih =>unfold Ah;rw[AO,CN,CN];show AI?;(.rw[AF e];by_cases e2:u=t;(.rw[AF e2,e2,e];simp);.rw[AD e2];have n1:¬O!=u:=λz=>e2 (z▸e);rw[AG n1];by_cases hl:Ea!;(.have:=ih hl;show H? (AD e2);show this);·(have:(FS JsM)=l:=by show(C_ H2!).trans (List.map_id l);have:¬UU!:=iy! hl #[r,hr,z];rw[AD this];rfl);show M?);.rw[AD e];(have hl:Ea!:=by show p? ZM;(.show I? h.symm e);.show h);by_cases e2:O!=u;(.rw[AI e2];have:¬u=t:=HT! e hX!;rw[AD this]);.rw[AG e2];show ih hl
 intro l t u v;unfold Bm;show B? Ea!;.rw[AF c];show mp l t u v c
 .rw[AD c];show app l t u v c
def Df(l:R!)(P9:dT!)(t:T2):JRb=BX! (P9 t=true) PB! 0:=by induction l with | nil=>by_cases c:P9 t=true<;>simp[c,Ah] | cons q l ih =>rw[E_];show AI?;(.show B? (BQ! P9 O!);(.rw[Ap!,SH! AF e c];unfold Ah;rw[CN,CN,AI e]);.rw[Ef!,ih,zu!,zu!]);·(have e1:BI! (q::l)=PB!:=JXX);rw[e1];show B? (BQ! P9 O!);(.rw[AF c];(have:BI! (q::D0! λq=>P9 O!)=JRb:=JXX);rw[this,ih]);.rw[AD c,ih]
def Kv(h:wd!)(t:T2):0<=PB!:=by unfold Ah;cases e:lm! with | none=>show AJ _ | some q=>show h q (BH e)
open S
def Sd.of(x:B2!)(gR:UA! G')(nu:Rq!)(md:NX!)(hd:Xr! (EY!\/(ek!/\(UV!->oR!))))(hl:∀q∈G'.holds,Ey! BN! EY!)(nn:∀q∈G'.AK,0<=PP)(ir:cs! (GK!\/ek!))(ks:∀t,dk!->GK!->oR!):pp!:=by
 show#[gR,nn,Cy!,Lx!,AJ! ((ir t ht).elim (x.ir t) id),bv! x.n0,bv! x.n1,S! md x.m0,by rw[md];have:=x.m1;show BW this];.show E7?;(.show F? (Cv! hd);(.show x.ip t h);.show bn);.show x.ip t (hl q hq t ht)
 .rw[nu] at e;rcases id ht with h|⟨q,hq,h⟩;(.show F? (hd t h);(.show JTH h);.show BF! e);.show JTH (hl q hq t h)
def Sd.up(x:B2!):GH! G:=x.of (x.ok.mono (DO n)) A! A! kM! (λq hq t ht=>Zk!) I5! Zu! Xs!
def Sd.tk(x:B2!):Sd m (KQ G) n:=#[x.ok.KQ,I5!,x.ip,Gw!,x.ir,x.n0,x.n1,x.m0,x.m1]
def Sd.make(x:B2!)(hm:PR!)(hn:Tk)(a:Addr):GH! JH2:=by
 show Sd.tk #[x.ok.XD a,I5!,Cy!,Lx!,x.ir,x.n0,x.n1,by change 0<=EO!;have:=x.m0;show BW this,by change EO!<=BM! Bd!;have:=x.m1;show Int.lt_add_one_of_le this];.have h1:=x.m1;have h2:=x.n1;show E7?;(.show FS?;show B6?;(.show x.ip t oP!);·show Fk?;show M?;show#[#[x.n0,JL! (G.num<12) (BY h2 (RD! hm)),x.m0,JL! (G.BB<60) (FZ h1 (DP! hn))],x.n1]);.show It?;show BL?;(.show x.ip t JAC);·show Dk?;show d? this;cases ht
 .show E7?;(.show FS?;show B6?;(.show Gw! t oP! e);·show Fk?;show HM! (Db! this) e);.show It?;show BL?;(.show Gw! t JAC e);·show Dk?;show d? this;cases ht
def Ok.bp(ok:f8)(h:Ti!->FL!):UA! S9!:=by
 show(ok.mono (DO n)).hand (U4 _ Kc!) (by have:=Mr AE! tb;have:=ok.hz;lia) Lx!;show A4?;.show sF!
 .rw[ht];show SH! h ht e
abbrev Pp(G:BZ)(ta tb:T2):BZ:=JBS pf!
abbrev Ng(G:BZ)(ta tb:T2):BZ:=JBS q0!
abbrev Rr(G:BZ)(tb:T2):BZ:=KQ S9!
abbrev Rt(G:BZ)(tb:T2):BZ:=KQ nN!
def Sd.hold(x:B2!)(hb:BH!):GH! dY!:=by
 show KB? pf! (by show J3?;show wH! (U4 _ g1) (by have:=Mr JiM tb;lia) Lx!;show A4?;(.show g3 t ht e);.rw[ht];show x.ok.hk tb hb (JPC))
 show Pm?;.show q?;show A4?;(.show G9 ht);.rw[ht];show Yw!
 .show G? (JH! ht)
def Sd.drop(x:B2!)(ta tb:T2):GH! bB!:=by
 show KB? q0! (by show J3?;show wH! (g1.sublist IG) (by show II? JiM;unfold Jq;show AA this (AA g2 Pb!)) (JOF g3))
 show Pm?;.show q?;show G9 T8!
 .show G? (JH! ht)
def Sd.take(x:B2!)(hb:O4!):GH! rd!:=by
 show Iv? (x.ok.bp λe=>(x.ok.get ta).2.2 tb hb e) pL!;show AH? ht
 .rw[ht];show G9 hb
def Sd.free(x:B2!)(tb:T2):GH! re!:=by show Q9? ((x.ok.mono (DO n)).hand (l:=Jq AE! tb) (x.ok.hn.sublist IG) (by show II? AE!;have:=x.ok.hz;unfold Jq;lia) (JOF x.ok.hk)) (EE! (iR! T8!)) I5! Zu! Xs!
abbrev f9(G:BZ)(tb:T2)(v:Int):BZ:=KQ wx!
abbrev M0(G:BZ)(tb:T2)(v:Int):BZ:=KQ (hB! (Bm AN! tb v))
def Sd.out(x:B2!)(h:FL!)(v:Int):c5! f9 :=i4! x.of ((x.ok.AL h v).mono (DO n)) kM! Zk! I5! Zu! Xs!
def Sd.iS(x:B2!)(hf:GP!)(hi:eP!)(hv:0<=v):c5! M0:=by
 have okc:=(x.ok.oV hf v).hand (l:=AE!) x.ok.hn (CB x.ok.hz) x.ok.hk;show i4! x.of okc kM! Zk! (B0!) H5! JOR;show OZ?
 show NJ?
abbrev Hj(G:BZ)(R:E!):BZ:=KQ (IS Cr!)
def Sd.clean(x:B2!)(a_:p4!):GH! oe!:=by
 show PM?;show Cs? hk;show Li?;rw[e];unfold Bl;rcases ht with ht|⟨r,hr,ht⟩;.have ht:t∈xJ!:=ht;rw[AI ht];rfl
 .show JP? (by simpa using ht);show FQ?
def OL.ofN(ok:f8)(hn:PQ!):G_ λk R=>k<=5000/\Vt!:=by
 have l1:JDN RO!:=by rw[Fk!,ZA];have:=ok.oz;show AA this hn
 have l2:pV! Rd! 200:=by unfold startT Pb;show AA jt! ?_;rw[ZE];have h1:=ok.hz;have h2:=BE (o2!) (NH! be);rw[ZA] at h2;have h3:=ok.oz;lia
 have l3:JKn qn!:=cu! l1;have#[k,R,h1,h2]:=OL.ex (nx:=R_ Ax!) (keys:=yR!) (B:=60) (Jo5 Ax!) (λt=>AA jt! (AA (ok.get t).2.1 hn)) 5000 (Rd! G) [] (Jk1 G) (by have:A1! qn! (SB! (t∉([]:E!)))*(60+1)<=60*(60+1):=EV _ l3;lia);show#[k,R,h1,h2]
def Ok.clean(ok:f8)(rc:Vt!):JBr:=ok.keepR rc.sub.2 (rc.closed JjE)
open E
open S
abbrev Jp5(G:BZ)(tb:T2)(v:Int):BZ:=KQ { G with hand:=SO!,AL:=Bm AI! tb v }
abbrev Jp6(G:BZ)(tb:T2)(v:Int):BZ:=KQ JOG
def Sd.pI(x:B2!)(LJ:FL!)(hi:eP!)(v:Int):c5! Jp5:=by
 show Iv? (FX.Ok.AL (G:=S9!) (Ok.bp G8! λ_=>LJ) LJ v) H5!;show Ak? ht
 .rw[ht];show E9! hi (λe=>DF! (x.ok.new tb LJ).1 e)
def Sd.pJ(x:B2!)(hf:GP!)(hi:eP!)(hv:0<=v):c5! Jp6:=by
 show Q9? (x.ok.oV hf v) H5! (B0!) H5! JOR;.show A4?;(.show y! (y! ht));.rw[ht];show E9! hi (λ_=>(Cf _ _ _).1)
 show OZ?
 show NJ?
def Mn(l:R!)(t:T2)(v:Int):(Bm l t v).length<=bU!:=by
 unfold Bm;split;.rw[ZA];show Uw!
 .rw[ZE];show Bv!
open E
open E Lake.FX
open N Lake.K66
open PySem L2 FX
structure LT where
 kind:Str
 s:GE
 g:GE
 th:T2
 x:GE
abbrev QC(t:T2)(l:LT):GE:=if Kg! then(if Lz! then 1 else l.x) else 0
abbrev Cv(t:T2):TD->GE
 | []=>0
 | l::r=>U3! r
def Hq(t:T2):∀(a b:TD),Cv t CU!=Cv t a+Cv t b
 | [],b=>by simp[Cv]
 | l::a,b=>by change U3! CU!=(U3! a)+Cv t b;rw[Hq t a b];show(hY! _ _ _).symm
def Fq(t:T2)(a b:TD)(l:LT):Cv t (a++l::b)=Cv t CU!+QC t l:=by rw[Hq,Hq];change Cv t a+(U3! b)=_;lia
def Ho(t:T2)(a:TD)(l:LT):Cv t (a++[l])=Cv t a+QC t l:=by rw[Hq];change Cv t a+(QC t l+0)=_;lia
abbrev OA(t:T2)(G:BZ):GE:=JAv
abbrev He(t:T2):md! GE
 | []=>0
 | q::r=>FC! PP+He t r
abbrev F5:md! sB
 | []=>0
 | q::r=>q.2.AK.length+F5 r
def Jeo:JMB (He t lr!=dN!-FC! PP+OA t r.2)
 | [],i,q,r,h=>B1!
 | x::l,0,q,r,h=>JUv (kI! r.2) (JLz x.2)
 | x::l,i+1,q,r,h=>by show Aj? Tz!;change FC! x.2+He t lr!=JLz PP;rw[Jeo h];lia
def Jfc:∀{l:j!} {i:Nat} {q r:NF!},Tz!->JBg+q.2.AK.length=F5 l+r.2.AK.length
 | [],i,q,r,h=>B1!
 | x::l,0,q,r,h=>JUv (r.2.AK.length+F5 l+x.2.AK.length) JUf
 | x::l,i+1,q,r,h=>by show Aj? Tz!;have:=Jfc (r:=r) h;change x.2.AK.length+JBg+q.2.AK.length=JUf;lia
def Sh:r5! (∀(j:Nat) r,l[j]?=D! r->cQ!) (0<=dN!)
 | [],_=>Df!
 | x::l,k=>by have h1:=k 0 x A!;show Ct? Sh (λj r h=>k (j+1) r aO!);change 0<=kI! x.2;show Xt! h1 h2
def x_:∀{l:j!} {i:Nat} {q:NF!},Tz!->(∀(j:Nat) r,l[j]?=D! r->RT!->cQ!)->FC! PP<=dN!
 | [],i,q,h,_=>B1!
 | x::l,0,q,h,k=>by show Aj? (x=q);subst h;show Ct? Sh (λj r h=>JZN);show Ka? x.2;show JgD h2
 | x::l,i+1,q,h,k=>by show Aj? Tz!;have h1:=k 0 x A! V!;have h2:=x_ h λj r h ne=>JZN;show Ka? PP;show BY h2 (FG h1)
abbrev OE(m:Nat)(l:LT):B!:=0<=l.g/\l.g<m/\dZ m NE /\
 ((l.kind=Ba!/\be!)\/(xK!/\be!/\l.g≠Fr!)\/(bd!/\be!/\bf!)\/(Lz!/\bf!/\0<=l.x/\l.x<m/\0<=l.s/\l.s<m/\l.s≠Fr!))
def E7:ob! E1!:=ZV
def Dl:oY! E1!:=ZV
def E8:JFY:=ZV
def OE.w(h:Z9!):1<=QC NE l:=by grind [QC,Dl,E7,E8,LT,OE]
def OE.nn(h:Z9!)(t:T2):0<=QC t l:=by
 by_cases e:Kg!;.rw[<-e];have:=h.w;show BY Op this
 .unfold QC;rw[AD e];show AJ _
def Oi:∀{ls:TD},(nF!)->0<=Cv t ls
 | [],_=>Df!
 | l::ls,h=>by have h1:=(h l HL!).nn t;show Ct? Oi QH!;change 0<=U3! ls;show Xt! h1 h2
def Tj(h:nF!)(hl:NY!):1<=Cv NE ls:=by have#[a,b,e]:=HU hl;rw[e,Fq];have h1:=(h l hl).w;have h2:=As! Oi t NE ls AH! (jp (h z (by rw[e];show AT?;(.show h? hz);.show ZC _ iw!)));show BY h1 (FG h2)
structure Wl(C:pi)(m n:Nat)(sh:Int)(qs:j!)(ls:TD):B! where
 len:qs.length=m
 lA:PR!
 sd:∀(i:Nat)(q:Addr)(G:BZ),SC->B2!/\bg!
 ok:nF!
 sum:∀t,C t->eL!+Cv t ls=0
 sh:2<=sh
open S
variable {C:T2->Prop}{m n:Nat}{sh:Int}{qs:List (Addr×BZ)}{ls:List LT}
def Js7{P9:JOw}{l:j!}{i:Nat}{q:Addr}{G':BZ}(h:∀j q G,yl!->RT!->P9 G j)(hi:P9 G' i):∀j q' G,Dc! JN6 q' G->P9 G j:=by
 intro j q' G e;show Ra?;by_cases z:i=j;.rw[AF z] at e;by_cases z2:g6!;(.rw[AF z2] at e;have:HG!=(q',G):=ZO e;rw[<-(Rb! this).2,<-z];show hi);.show Bh? (AD z2)
 .rw[AD z] at e;show h j q' G e λz'=>z z'.symm
def Wl.next(x:CH!){i:Nat}{q:Addr}{G G':BZ}{OW:TD}(hi:SC)(tT:pp!)(nu:Rq!)(gR:∀l∈OW,Z9!)(yJ:∀t,C t->FC! G'+Cv t OW=FC! G+Cv t ls)(JTd:G'.AK.length+OW.length<=G.AK.length+ls.length+1):Zy! ET! OW:=by show#[S! SM x.len,x.lA,Js7 (P9:=λG j=>GH! G/\G.num=Ct!) (λj q G e _=>JRn j j) #[tT,Hu! nu (x.sd i q G hi).2],gR,λt hC=>?_,x.sh];have h1:=Rr! t hC;have h2:=yJ t hC;rw[Jeo hi];change eL!-FC! G+OA t G'+Cv t OW=0;lia
def Wl.up(x:CH!):Wl C m F5! sh qs ls:=JaT (λi q G e=>JRn i i) Rr!
def Wl.iU(x:CH!){t:T2}{j:Nat}{r:NF!}(e:qg!)(ne:Vl!):JPj:=by have#[s,nu]:=x.sd j h! r.2 e;show Et λz=>ne (JnT z)
def Wl.oX(x:CH!){t:T2}{j:Nat}{r:NF!}(e:qg!)(ne:Vl!):cQ!:=by have h1:=x.iU e ne;have h2:=Kv (vH! x.sd j e) t;unfold OA;show JgE (h1▸h2)
def Wl.there(x:CH!){l:LT}(hl:NY!)(hC:C NE){i:Nat}{q:Addr}{G:BZ}(hi:SC)(e:Fr!=cr):kv!:=by
 show Q4? (λno=>?_);have h1:=Tj G8! hl;show Oo? NE (by show B? (Fr!=Ct!);(.have:i=j:=NZ! (go! BB! c);subst this;have er:HD!=r:=ZO (hi.symm.trans ej);have h3:=Kv (vH! x.sd i ej) NE;unfold OA;rw[<-er] at h3 ⊢;have h4:Ah AI! NE=0:=Et no;change 0<=Ah AN! NE-Ah AI! NE;have h3:0<=Ah AN! NE:=h3;show JgE (h4▸h3));.show x.oX ej c)
 have h3:=Rr! NE hC;lia
def Wl.i_(x:CH!){i:Nat}{q:Addr}{G:BZ}(hi:SC)(t:T2)(hC:CT!->C t):0<=JF!:=by
 show B? CT!;.show Br?;(have e1:kB!:=JnT c);have h1:=x_ (t:=t) hi λj r ej ne=>x.oX ej V!;show Ct? Oi G8!;have h3:=Rr! t (hC c);have h4:E7!=0:=Et λz=>s.ok.rk t z (Rs! t c).1;have h1:JAv<=eL!:=h1;lia
 .rw[Et c];show Df!
open E
open S
variable {C:T2->Prop}{m n:Nat}{sh:Int}{qs:List (Addr×BZ)}{ls:List LT}{i:Nat}{q:Addr}{G:BZ}
def mem_mid(hz:z∈AH!):z∈a++l::b:=L0!
def Wl.same(x:CH!)(hi:SC){G':BZ}(tT:pp!)(nu:Rq!)(hr:G'.AK=G.AK)(ho:G'.AL=G.AL):Wl C m F5! sh ET! ls :=Rt! hi tT nu G8! (λt _=>by unfold OA;rw[hr,ho]) (l! hr Uw!)
def Wl.make(x:CH!)(hi:SC)(hn:Tk)(a:Addr):JkB Wl C P3!:=by
 show Ky? (s.make x.lA hn a) G8! (by show Cg?;show Uw!);have fr:HH!∉HJ!:=λz=>by show Cx? z;show JsR r hr e
 have e:BI! (MK!)=JF!:=by rw[<-Jn4 fr,Da];show B? JiB;(.rw[Ap!,c,Et fr]);.rw[AD c]
 show FZ? (MK!) ls;rw[e]
def Mp(h:∀z∈ls,OE m z)(hl:Z9!):∀z∈ls++[l],OE m z:=jp (by show AT?;(.show h z hz);.rw[ZK hz];show hl)
def Wl.TB(x:CH!)(hi:SC){b:T2}(hb:Na!)(hn:NI! b.1){g:Int}(g0:FJ!)(g1:g<m):JEG f9 a5! qj!:=by
 show Br?;have hs:=x.sh;show i3! (s.out (Xu! b hb hn) _) (Mp G8! (JW0 JFS)) (by rw[ZE,GO];show Cg?;show ZG _);rw[Ho];show Qp? (E7!-ZR! AI! b (a5!)+(Cv t ls+QC t JlF));rw[Da];unfold QC;show B? (t=b);show Pe? (_+sh)
 show GY?
def Po(h:b∈kV!)(v:Int):hZ! (M0 G b v).AK.length:=Jfh h v
def Wl.VO(x:CH!)(hi:SC){b:T2}(hb:Na!)(hf:bT!){g:Int}(g0:FJ!)(g1:g<m)(w2:2<=Yg!) : JEG M0 l6! vd!:=by
 show Br?;show i3! (s.iS hf (s.ip b (y! hb)) V!) (Mp G8! (JW0 (W! (Bc! (by change 1<=JhX;lia))))) Je1;rw[Ho];show JK? (ZR! AN! b (l6!)) JYC;rw[Da];unfold QC;show B? (t=b);show Pe? (_+JhX)
 show GY?
def Wl.S_(x:CH!)(hi:SC){b:T2}(hb:Na!)(hf:bT!){g:Int}(g0:FJ!)(g1:g<m)(w1:Yg!=1) : Zy! JAA ve!:=by
 show Br?;have ib:=LX! s.ip b hb;have hil:i<m:=JAy x.len
 show JoQ s.iS hf N4! (Mp G8! #[ib.1.1,ib.2,ib,yf! #[A!,A!,g0,g1,by change 0<=cr;show HQ!,by change cr<m;show DP! hil,by rw[nu] at hf;show SU! hf]]) Je1;rw[Ho];show JK? JMO JYD;rw[Da];unfold QC;show B? (t=b);.rw[Ap!,AF (show b=t from c.symm),Aq!,c,w1];lia
 show GY?
def Wl.wt(x:CH!){a b:TD}{l:LT}(es:ba!)(np:nV!)(hC:ko! (C NE))(hi:ym!) : ∃G',vU!/\Zy! JpX CU!:=by
 show DO?
 show IM?;show Nu?;rw[PJ!] at nu;show MQ?;show Nv?
 have lw:∀t,QC t l=if Kg! then l.x else 0:=td! np
 rcases kk with⟨k,x1⟩|⟨k,x1,ne⟩|⟨k,x1,eg⟩|⟨k,_⟩;· show B? (NI! Fr!);(.have LJ:=x.there hl (hC (by rw[k];show Ab?)) hi (by rw[PJ!,c,nu]);show#[Jp5 G NE (UZ!),HY! k (W! #[c,_,Pk LJ,A!]),JoQ s.pI LJ _ e_ o6!];show LB? UZ! CU!;show Dn?;show An?;(.show Dj?);.show Di?);.have r0:=Kv s.nn NE;show#[Jp6 G NE (JjC),HY! k (j3! c),Jdv s.pJ];show OJ?;show Dn?;show An?;(.show Dj?);.show Di?
 · (have c:Fr!≠G.num:=bv! (SU! ne));have r0:=Kv s.nn NE;show#[M0 G NE (JjC),Zq! #[k,A!],Jdv s.iS];show OJ?;show Dn?;show An?;(.show Dj?);.show Di?
 · by_cases LJ:kv!;(·(have e1:JTI=Bm AI! NE (UZ!):=by unfold XI;rw[AF LJ]);show#[f9 G NE (UZ!),JRt,i3! (s.out LJ _) e_ o6!];show LB? UZ! CU!;show Dn?;show An?;(.show Dj?);.show Di?);·(have e1:JTI=G.AL:=by unfold XI;rw[AD LJ]);show#[KQ G,JRt,Rt! hi s.up.tk A! e_ H5! o6!];show Qp? (E7!-JF!+Cv t CU!);rw[es,Fq,lw];by_cases d:Kg!;(.show I? (x.there hl (l! d ht) hi (GJ! PJ! eg)) LJ);.rw[AD d];lia
 show Ao? k np
def Sd.pass(s:B2!)(LJ:FL!)(hi:eP!)(sh:Int)(ID:Bool):GH! (F2 G tb sh ID):=by
 have okh:UA! w9!:=by cases ID;(.show s.ok.mono (DO n));.show FX.Ok.bp s.ok λ_=>LJ
 show i4! s.of (FX.Ok.AL (G:=w9!) okh LJ _) H5! Zk! s.nn Zu! Xs!;have ht:t∈mG!:=ht;unfold a9 at ht;cases ID;show Ak? ht
 .show A4?;(.show y! (y! ht));.rw[ht];show E9! hi (λe=>DF! (Rs! tb LJ).1 e)
def Wl.pass(x:CH!){a b:TD}{l:LT}(es:ba!)(hp:Lz!)(hC:C NE)(hi:yq!):JVz (JEF GM q2!) (JEF Os q3!):=by
 show DO?
 show IM?;show Nu?;have hs:=x.sh;have LJ:=x.there hl hC hi (GF! BN ib.1.1);show MQ?;show Nv?
 have fin:bf!/\0<=l.x/\l.x<m/\0<=l.s/\l.s<m/\l.s≠Fr!:=by rcases kk with⟨h,_⟩|⟨h,_⟩|⟨h,_⟩|⟨_,h⟩;(.rw[hp] at h;show pk! Dl);(.rw[hp] at h;show pk! E7);(.rw[hp] at h;show pk! E8);.show h
 have#[eg,x0,x1,s0,s1,sne]:=fin;have okM:OE m Y1!:=#[s0,s1,ib,Zq! #[A!,JL! (1<=sh) (BY Op hs),sne]];have okH:OE m jh!:=#[x0,x1,ib,JFS];have lwP:∀t,QC t l=BX! Kg! 1 0:=λt=>by unfold QC;rw[AF hp]
 have lwM:JTX Y1!:=td! E7
 have lwH:JTX jh!:=td! Dl
 show#[LJ,JfF GM e_,JfF Os (Mp e_ okH)];.show FZ? (eY G NE sh GM) _;unfold eY;rw[Ho,es,Fq,Da,lwP,lwM,Aq!];show An?;(.show OQ?);.show N2?
 .rw[ZE,GO];show Cg?;show len▸K3!
 .show FZ? (eY G NE sh Os) _;unfold eY;rw[Ho,Ho,es,Fq,Da,lwP,lwM,lwH,AD AQ];show An?;(.show OQ?);.show N2?
 .rw[ZE,ZE,GO,GO];show Cg?;lia
open E
abbrev Iu(i:Int)(y:Dz!):LT:=#[D8!,i,y.1.1,wT,y.2]
def Jgl(q:Dz!)(l:R!)(t:T2):BI! (q::l)=BX! Da! PP PB!:=by
 unfold Ah;rw[CN];show AI?;.rw[AI e,AF e];rfl
 .rw[AG e,AD e]
def Yi(i:Int)(t:T2):∀{l:R!},aW!->(wd!)->Cv t ((D0! (Kt! MI!)).map (Iu i))=PB!
 | [],_,_=>rfl
 | q::l,nd,nn=>by show AS?;have ih:=Yi i t OJ.2 (JKE nn);have q0:=SM! nn q;rw[Jgl,E_];(have lw:QC t (Iu i q)=JSY:=by unfold QC;rw[AD (show ¬(Iu i q).kind=E1! from E8)];rfl);show B? MI!;(.rw[AF (AI c)];change QC t (Iu i q)+Cv t _=_;rw[lw,ih];show AI?;(.rw[AF e,AF e,JQ9];show ha! _);.rw[AD e,AD e];show hb! _);.rw[AD (TW!),ih];show AI?;(.rw[AF e,JQ9];show hc! q0 (IY.mp c));.rw[AD e]
def Vr(p:a.Perm b)(nd:EH! b.map)(t:T2):BI! a=BI! b:=by
 have qB:EH! a.map:=(p.map _).nodup_iff.mpr nd;show B? (Fz! b.map);.show Cs? c;have h1:=IM nd hq;have h2:=IM qB (XK! hq);rw[e] at h1 h2;unfold Ah;rw[h1,h2]
 .rw[Et c,Et (cl! (p.map _).mem_iff.mp)]
def Pl(P9:Pr!):∀l:T!,Sf! (A1! D0! P9) D0! (λx=>! P9 x)=l.length
 | []=>rfl
 | x::l=>by have:=Pl P9 l;rw[E_,E_];cases e:P9 x<;>simp<;>lia
open S
variable {C:T2->Prop}{m n:Nat}{sh:Int}{qs:List (Addr×BZ)}{ls:List LT}{i:Nat}{q:Addr}{G M:BZ}
def Wl.clean(x:CH!)(hi:SC)(hC:TV! (C t)){k:Nat}{R:E!}(rc:Vt!){rs:R!}(pm:C9!) : Zy! z9! JE4:=by
 show Ky? (s.clean (s.ok.clean rc)) bC! ?_;show O6? G8!
 .rw[Hq];show KC?;show PT? Cr! Hy!;show M8? aj!;show Mx? Hy! O5!;show IH? (JQ8 DT!);(have e2:(BX! (Go DT!=true) JF! 0)=JF!:=by show B? DT!;(.rw[AF (AI c)]);.rw[AD (TW!)];have h1:=x.i_ hi t (hC t);by_cases d:CT!;(.have h2:¬0<JF!:=λz=>c (rc.sub.2 t (by unfold startT Pb;show Mf! #[F7! (Mf! #[d,AI z]),?_];rw[Xw!];show AI d));show hc! h1 (IY.mp h2));.rw[Et d]);rw[e2];cases aj!;(.show Kx?;lia);.rw[Aq!,AD (Sc)];lia
 .rw[ZE,ZA];show CH? Cr! Hy!;show G2? Hy!;show GL? Hy! AN!;show LW? Hy!;lia
def Wl.good(x:CH!)(hn:PQ!)(hi:SC):Good G:=by show Br?;have h1:=s.ok.hz;have h2:=s.ok.oz;have h3:=s.ok.rz;show#[s.ok.hn,MT! h1,s.ok.on,MT! h2,s.ok.rn,MT! h3,H2!];have#[a,fd]:=As! xn l Ax! t h! (l! Xw! sw!);have#[g1,g2,_]:=s.ok.get h!;show#[a,_,fd,g1,MT! g2]
open E
inductive SO(qs:j!)(t:T2):B!
 | mk (j:Nat) (q:Addr) (G:BZ) (_:LZ!) (_:CT!)
structure OP(qs:j!)(ls:TD)(X:pi):B! where
 hand:Ua! (Ka! (¬X t))
 VC:Ii! (ko! (¬X NE))
 hold:Ua! (∀r∈G.holds,bR! (X t->X h!))
 old:Ua! (∀t,X t->c6!->bS!)
abbrev MB(qs:j!)(ls:TD)(qs':j!)(OW:TD):B!:=∀X,J8! X->OP qs' OW X
def MB.refl(qs:j!)(ls:TD):Yb! qs ls:=λ_ h=>h
abbrev VG(ls:TD)(j:Int)(t:T2):B!:=∃l∈ls,Kg!/\((Lz!/\l.s=j)\/(xK!/\l.g=j))
abbrev VF(qs:j!)(ls:TD):B!:=Ua! (∀t,l5!->Vl!->1<=E7!\/JIn)
open S
variable {qs:List (Addr×BZ)}{ls OW:List LT}{i:Nat}{q:Addr}{G G':BZ}{X:T2->Prop}
def Ds{l:j!}{j:Nat}{q':Addr}{G2:BZ}(e:Dc! JN6 q' G2):(j=i/\G2=G'/\q'=q)\/(RT!/\Dc! (l[j]?) q' G2):=by
 show Ra?;by_cases z:i=j;.rw[AF z] at e;by_cases z2:g6!;(.rw[AF z2] at e;have:HG!=(q',G2):=ZO e;show E? #[KX!,JtY this,m4! this]);.show Bh? (AD z2)
 .rw[AD z] at e;show E9! (λy=>z y.symm) e
def OP.next(x:J8! X)(hi:SC)(h1:Xr! (Ir!\/¬X t))(h2:xL! (NY!\/¬X NE))(h3:∀r∈G'.holds,bR! ((∃r0∈G.holds,r0.1=h!/\t∈r0.2.2)\/¬X t))(h4:G9!):OP ET! OW X:=by
 show#[λj q' G2 e t ht=>?_,λl hl nb=>?_,λj q' G2 e r hr t ht xt=>?_,λj q' G2 e t xt et=>?_];.show Cy?;(.show By?;show F? cj!;(.show x.hand i q G hi t h);.show h);.show x.hand j q' G2 e t ht
 .show F? (h2 l hl nb);(.show x.VC l h nb);.show h
 .show Cy?;(.show c? e2;rcases h3 r hr t ht with⟨r0,m0,e0,t0⟩|h;(.rw[<-e0];show x.hold i q G hi r0 m0 t t0 xt);.show I? xt h);.show x.hold j q' G2 e r hr t ht xt
 .show HB?;(.rw[e2];have:=x.old i q G hi t xt (GJ! et ej);show BY this h4);.show x.old j q' G2 e t xt et
def MB.less(hi:SC)(h1:Xr! Ir!)(h2:xL! NY!)(h3:∀r∈G'.holds,JOS)(h4:G9!):sp! :=λX x=>Rt! hi (JmK h1) (λl hl nb=>W! (h2 l hl nb)) (hd! (y! (h3 r hr t ht))) h4
def VF.next(x:sB!)(hi:SC)(hp:∀(j:Nat) t,RT!->JIn->VG OW Ct! t)(h':∀t,dk!\/oR!->JEQ->1<=BI! Kh!\/VG OW cr t):s3!:=by
 intro j q' G2 e t ht ne;rcases Ds e with⟨ej,e2,_⟩|⟨ne2,e⟩;.subst ej;rw[e2] at ht ⊢;show h' t ht ne
 .show F? (x j q' G2 e t ht ne);(.show N?);.show AT (hp j t ne2 h)
def VG.mono(h:wn!)(p:VG ls j t):VG OW j t:=let#[l,hl,r]:=p;#[l,h l hl,r]
def VF.less(x:sB!)(hi:SC)(hl:wn!)(h':∀t,dk!->JEQ->uq! EY!)(hk:cs! (uq! GK!):=by show Gz! #[h,Df!]):s3! :=Rt! hi (λj t _ p=>p.mono hl) λt ht ne=>by obtain⟨h1,h2⟩:uq! (EY!\/GK!):=Vo! ht.elim #[W! (h' t z ne).1,(h' t z ne).2] #[v! (hk t z).1,(hk t z).2];show F? (x i q G hi t h1 ne);(.show E? (BY h h2));.show AT (h.mono hl)
open E
structure Wg(D:pi)(m n:Nat)(sh:Int)(qs:j!)(ls:TD):B! where
 wl:JhD JQW
 sD:J8! D
 rc:sB!
def Wl.mono{C C':pi}{m n:Nat}{sh:Int}{qs:j!}{ls:TD}(x:CH!)(h:∀t,C' t->C t):JhD C':=JaT x.sd (λt c=>Rr! t (h t c))
open S
variable {D:T2->Prop}{m n:Nat}{sh:Int}{qs:List (Addr×BZ)}{ls OW:List LT}{i:Nat}{q:Addr}{G G':BZ}
def SO.set(hi:SC){t:T2}(h:SO ET! t):Jr!\/y3!:=by
 have#[j,q',G2,e,m]:=h;show Cy?;.rw[e2] at m;show v! m
 .show E? #[j,q',G2,e,m]
def Wg.step(x:AT!)(hi:SC)(w9:Wl JQW m F5! sh ET! OW)(ho:JiF (CT!\/Hs!))(st:sp!)(rc:s3!):TT! ET! OW :=#[w9.mono (Gz! (by show F? h;(.show N?);.show F? (h.set hi);(.show y?);.show F? (ho t h);(.show G? #[i,q,G,hi,h]);.show N?)),st D x.sD,rc]
def Wg.num(x:AT!)(hi:SC):B2!/\bg!:=x.wl.sd i q G hi
def Jep(hi:SC)(nu:bg!)(a:Addr):JhH P3! ls:=λX x=>by (have nx:¬X HH!:=λz=>by have:=x.old i q G hi _ z nu;show BU?);show Rt! hi H5! (nX!) (hd! ?_) (JL! (G.BB<=EO!) (BW (AJ _)));(.show FS?;show Ap?;(.show N?);.show BA? (v! nx));.show FR?;show Bz?;(.show E? JDd);.show d? (ZK h);cases ht
def Wg.make(x:AT!)(hi:SC)(hn:Tk)(a:Addr):JkB Wg D P3!:=by
 show AM?;show x.step hi (x.wl.make hi hn a) H5! (Jep hi nu a) (jP! Xx! he! ?_);.show ON?;show d? ZF;show Ap?;(.show N?);·show Fj?;show R? Cx!;rw[e] at z;have:=x.sD.old i q G hi _ z nu;show BU?
 .show#[?_,Df!];show E8?;(.show IO?;show A1?;(.show N?);·show Fj?;show HM! JDt ne);.show FR?;show BN?;(.show G? #[r,hr,h]);.show BE? (ZK hr)
def Vs(h:t∈B8 l ta):∃r0∈l,r0.1=ta/\t∈r0.2.2:=by unfold B8 at h;cases e:JjH (O!=ta) with | none=>show AK? | some r =>show OG? r
def Il(hr:r∈Mz l ta h):(bZ!/\BO!=h)\/r∈l:=by
 unfold Mz at hr;have#[r0,m0,e]:=ZN hr;show B? (r0.1=ta);.rw[Ap!] at e;show HY! Jnu (by rw[<-e])
 .rw[Ef!] at e;show JC3 m0
def Wg.hold(x:AT!)(hi:SC){ta tb:T2}(hb:BH!):eb! Vd! Vd!:=by
 show AM?;show Cz? Vd! (xM! (EE! (W! ht)) nX! (by show HC?;(.show By?;show F? OS!;(.have#[r0,m0,e0,t0]:=Vs h;show W! #[r0,m0,A5! e0 e1,t0]);.rw[h];show AT (y.hand i q G hi tb hb));.show E? JDd));show Du? (s.hold hb);show E8?;.show N?
 .rcases Il hr with⟨e1,e2⟩|h2;(.rw[e2] at h;show p? NK!;(.show G9 h);.rw[h];show Yw!);.show G? #[r,h2,h]
def Wg.drop(x:AT!)(hi:SC)(ta tb:T2):eb! Ve! Ve!:=by
 show AM?;have key:∀r∈(Ng G ta tb).holds,JOS:=hd! (by show HC?;(.show By?;have#[r0,m0,e0,t0]:=Vs T8!;show#[r0,m0,A5! e0 e1,t0]);.show#[r,h,A!,ht])
 show Cz? Ve! (MB.less hi (λt ht=>ht) (λl hl _=>hl) UV N4!);show Du? (s.drop ta tb);show E8?;.show N?
 .have#[r0,m0,_,t0]:=UV r hr t h;show v! #[r0,m0,t0]
def Wg.take(x:AT!)(hi:SC){ta tb:T2}(ha:Ak!)(hb:O4!):eb! VY! VY!:=by
 show AM?;show Cz? VY! (xM! (EE! (by show F? OS!;(.show N?);.show R? Cx!;rw[h] at z;have#[r0,m0,e0,t0]:=Vs hb;show y.hand i q G hi ta ha (Bz! e0 (y.hold i q G hi r0 m0 tb t0 z)))) nX! JIC);show Du? (s.take hb);show F? ht;.show p? NK!;(.show N?);.rw[h];show G9 hb
 show A9?
def Wg.free(x:AT!)(hi:SC)(tb:T2):eb! VZ! VZ!:=by
 show AM?;show Cz? VZ! (JkD MB.less (EE! T8!) (λl hl _=>hl) #[r,hr,A!,ht]);show Du? (s.free tb);show F? ht;show AH? (IL.mp h).1
 show A9?
def Tl(hi:SC){l:LT}(hb:l.th∈G.hand)(h1:hf!)(h2:hg!)(h3:NX!):Yb! ET! (ls++[l]):=Jcl (ad! h1 ht) (λl' hl _=>by show Cj?;(.show N?);.show BA? (AT (y.hand i q G hi _ hb)))
def xA(h1:hf!)(h2:hg!)(h:dk!):EY!:=by unfold RN at *;rw[h1,h2] at h;show h
def Wg.TB(x:AT!)(hi:SC){b:T2}(hb:Na!)(hn:NI! b.1){g:Int}(g0:FJ!)(g1:g<m):JLS f9 a5! qj! JRZ qj!:=by
 show AM?;have st:=Tl (ls:=ls) (G':=JRZ) (l:=JlF) hi hb A! A! A!;show ER? (x.wl.TB hi hb hn g0 g1) pL! (jP! Xx! jn! #[xA (G:=G) A! A! ht,Df!]);have ht:Fz! (Bm AI! b (a5!)).map:=ht;show Bm?;.rw[h];show Xu! b hb hn
 .show h
def Wg.VO(x:AT!)(hi:SC){b:T2}(hb:Na!)(hf:bT!){g:Int}(g0:FJ!)(g1:g<m)(w2:2<=Yg!) : JLS M0 l6! vd! JRa vd!:=by
 show QU? JRa JYC x.wl.VO w2 (ZR! AN! b _);.rw[AF c];show EQ! y!
 show Pq?
def Wg.S_(x:AT!)(hi:SC){b:T2}(hb:Na!)(hf:bT!){g:Int}(g0:FJ!)(g1:g<m)(w1:Yg!=1) : TT! JAA ve!/\JhH (M0 G b 0) ve!:=by
 show QU? (M0 G b 0) JYD x.wl.S_ w1 JMO;.show G? #[_,Uz!,Xy!,W! ES!]
 show Pq?
open E
open S
def Pf:oY! D8!:=ZV
def Jdr:ob! D8!:=ZV
def Jdp:YK! E1! D8!:=ZV
def Pe:oY! NU!:=ZV
def Jds:JFX:=ZV
def Jdt:JFW:=ZV
def Jdq:ob! Ba!:=ZV
def Wt.iG(h:eA!):(Xr! (Ir!\/(nT!/\Gx!)))/\hg!/\NX!/\Rq!/\G'.BJ=Kx!/\(∀t,E7!=BI! Kh!\/(Gx!/\BI! Kh!=E7!+x))/\(JD6) /\ (Fq! NU!->Ah Kh! tb=na!)/\(nT!->GP!->Ah Kh! tb=na!):=by
 have put:∀t,BI! (Bm AN! tb (R3 AN! tb+x))=BX! Gx! na! E7!:=λt=>Db! Da
 show HD?;.show JC? JN7 Cy! Pe (λ_ z=>DF! c z);(.show q?;show F? OS!;(.show N?);.show r? k h);.show q?;show Bm?;(.rw[h];show BD! (Dg! (BH f)));.show h
 .show JC? bP! JJD Pe (λ_ _=>JYs);(.show q?;show F? OS!;(.show N?);.show r? k h);.rw[e];show L3?;by_cases d:Gx!;(.show Mu?);.show K5?
 .show#[JJE,FE!,FE!,FE!,FE!,bP!,JJD,λ_=>JYs,mL! Jdq];rw[e];show L3?;by_cases d:Gx!;(.show Mu?);.show K5?
 .show#[JJE,FE!,FE!,FE!,FE!,JN7,Cy!,mL! Jds,mL! Jdt];show q?;have ht:Fz! (XI G tb x).map:=ht;unfold XI at ht;show B? FL!;(.show d? Ap!;show Bm?;(.rw[h];show c);.show h);.show d? Ef!;show ht
def Ji3(h:eA!):cs! (GK!\/(Gx!/\kind≠D8!)):=AJ! (by show HD?;(.show q?;show W! ht);(.show Lq? Pf);(.show Lq? Jdr);.show q?;show W! ht)
def Wg.wt(x:AT!){a b:TD}{l:LT}(es:ba!)(np:nV!)(hi:ym!) : ∃G',vU!/\TT! JpX CU!/\JPy:=by
 show DO?
 have hC:ko! (¬D NE\/SO qs NE):=λnb=>W! rU!;have#[G',wt,w9]:=x.wl.wt es np hC hi;have#[h1,h2,h3,h4,_,h5,h6,h7,h8]:=wt.iG;show AM?;show IN?;rw[PJ!] at nu;show Nn?
 have st:JPy:=Jcl (by rcases cj! with h|⟨k,e⟩;(.show N?);.rw[e];show v! (y.VC l hl (l! k Pf))) (λz hz _=>W! (sw z hz));have x1:be!:=by rcases kk with⟨_,h⟩|⟨_,h,_⟩|⟨_,h,_⟩|⟨k,_⟩;(.show h);(.show h);(.show h);.show I? k np
 show#[G',wt,x.step hi w9 JIS st (jP! x.rc.next (λj t ne p=>?_) ?_),st];.have#[z,hz,e,c]:=p;rw[es] at hz;show AT?;(.show#[z,Ao! hz,e,c]);.show Ex?;(.rw[hz] at c;rcases c with⟨k,_⟩|⟨_,g⟩;(.show I? k np);.show HM! (Db! g) ne);.show#[z,F7! hz,e,c]
 .rw[PJ!] at ne;have r0:=Kv s.nn t;show An?;(.subst d;rcases kk with⟨k,_⟩|⟨k,_⟩|⟨k,_,eg⟩|⟨k,_⟩;(.show y! (iU! (h8 k (l! nu ne))));(.show y! (by rw[h7 k];lia));(.show I? eg.symm ne);.show I? k np);·(show Rh? (by rcases ht with(h|⟨r,hr,h⟩)|h;(.rcases h1 t h with h|⟨_,h⟩;(.show DB?);.show AY? d);(.show y! (AT #[r,AY! h2 hr,h]));.show AT ((Ji3 wt t h).resolve_right λz=>d Ah!)));(have er:BI! Kh!=E7!:=by rcases h5 t with h|⟨h,_⟩;(.show h.symm);.show AY? d);rcases JUj (l! PJ! ne) with h|⟨z,hz,e,c⟩;(.show y! (n2! er));.show R? #[z,?_,e,c];rw[es] at hz;show AT?;(.show h? hz);.show Ex?;(.show I? (by rw[<-e,hz]) d);.show ZC _ hz
def O3(LJ:FL!):Ey! (wv (eY G tb sh ID).map) CT!:=AJ! (by unfold eY at ht;show Bm?;(.rw[h];show LJ);.show h)
def Wg.pass(x:AT!){a b:TD}{l:LT}(es:ba!)(hp:Lz!)(hi:yq!):JVz (JR2 GM q2! GM q2!) (JR2 Os q3! Os q3!):=by
 show DO?
 have nb:l.kind≠D8!:=S! hp Jdp
 have#[LJ,p1,p2]:=x.wl.pass es hp (BK! rU!) hi;show AM?;show IN?;show Nn?
 have stp:xN! ((∀z∈more,z.th=l.th)->Yb! (JiN ID) (nb!)):=λID more hm X y=>JkD y.next (EE! (by have ht:t∈a9 G NE ID:=ht;unfold a9 at ht;cases ID;(.show E? ht);.show F? OS!;(.show N?);.rw[h];show v! JEz)) (λz hz _=>by show AT?;(.show E? (sw z hz));.rw[Dl! hm];show v! JEz) JIC;have rcn:xN! ((Y1!:LT)∈more->VF (JiN ID) (nb!)):=λID more hm=>by (have pn:∀(j:Int) t,VG ls j t->VG (nb!) j t:=λj t #[z,hz,e,c]=>by rw[es] at hz;show AT?;(.show#[z,Ao! (F3! hz),e,c]);.show Ex?;(.rw[hz] at c e;rcases c with⟨_,c⟩|⟨k,_⟩;(.show#[_,F7! hm,e,v! (Bc! c)]);.rw[hp] at k;show DF! k ZV);.show#[z,Ao! (Bu! hz),e,c]);show x.rc.next hi (λj t _ p=>pn _ t p) nW!;(show Rh? (by rcases ht with(h|h)|h;(.have h:t∈a9 G NE ID:=h;unfold a9 at h;cases ID;(.show DB?);.show p? NK!;(.show DB?);.show DF! ?_ ne;rw[h,BN ib.1.1]);(.show Bo?);.show y?));show F? (JUj ne);(.show N?);.show G? (pn _ t h)
 show#[LJ,Lu!,Lu!];·(have st:=stp GM JtL (jp (by rw[ZK hz])));show#[x.step hi (p1 e) JJN st (rcn GM _ i7!),st]
 ·(have st:=stp Os JD3 (jp (by rcases ZI hz with hz|hz<;>rw[ZK hz])));have rn:=rcn Os JD3 (Bu! i7!);rw[<-AY] at st rn;show ER? (p2 e) JJN rn
def Jgc(h:RN oe! t):EY!/\aj!=true:=by
 show RW?;show Mz? xJ!
 .show Bk? (keepR G R).holds;show Kg?;unfold Bl;show JP? OK!;show FQ?
def Wg.clean(x:AT!)(hi:SC)(rc:Vt!)(pm:C9!) : TT! z9! JE4/\JmZ al! Cr!:=by
 show PU? al! Cr!;show ER? (x.wl.clean hi (EE! (v! #[i,q,G,hi,ht])) rc pm) pL! (Xx! hi (jn!) (nW!) Cy!);.show it! ht
 .show u? (Jgc ht);show#[h1,?_];show Ig?;rw[Df AN! (λt=>aj!) t,AF h2];show AJ _
 .have#[y,hy,e]:=TC!;have hy:y∈Iu! λq=>Hy!:=hy;show Et?;show Kf?;show Ig?;show IH? JK7;show AJ _
open E
abbrev Jy(t:T2)(rs:R!):GE:=(If! λq=>JSY).sum
def Jbh(t:T2):∀(rs a:R!),Gs (rs.foldl Ez! a) t=Gs a t+Jy t rs
 | [],a=>by simp[Jy]
 | q::rs,a=>by rw[List.foldl_cons,Jbh t rs];have e:Gs (Ez! a q) t=ZR! a O! (t3!+PP):=rfl;rw[e,Da];unfold Jy;rw[AO,CZ];show B? (t=O!);(.rw[Ap!,AF Xy!,c];show P! hY! _);.rw[AD c,AD (SU! c)];change Gs a t+_=_;lia
def Jm7(t:T2)(a b:R!):Jy t CU!=Jy t a+Jy t b:=by unfold Jy;rw[ZF,NV]
def Jam(t:T2):∀(L:Dn!),Jy t (NS! Ip!)=JJQ
 | []=>rfl
 | S::L=>by rw[DF,Jm7,Jam t L,AO,CZ]
def Jbg(t:T2)(L:Dn!):Gs (Cu L) t=JJQ:=by unfold Cu;rw[Jbh,Jam];change 0+_=_;show hb! _
def Jen{t:T2}:∀{rs:R!},JmC->Jy t rs=BI! rs
 | [],_=>rfl
 | q::rs,nd=>by show AS?;have ih:=Jen (t:=t) OJ.2;rw[Jgl];unfold Jy at *;rw[AO,CZ,ih];show B? Da!;(.rw[Ap!,Ap!,SH! Et c OJ.1];show ha! _);.rw[AD c,Ef!];show hb! _
def Nb{α:IN}{f:cR!}{b:Pr!}:∀{l:T!},(∀x∈l,0<=f x)->tY! JUW/\∀j∈l,A9! (b j)->tY! (JUW+f j)
 | [],_=>#[Sc,λj hj=>R8! hj]
 | a::l,h=>by have#[i1,i2]:=Nb (f:=f) (b:=b) (l:=l) λx hx=>h x (BL! hx);have h0:=C7! a;rw[E_];cases c:b a with | true =>rw[Aq!,AO,CZ,AO,CZ];show#[Int.add_le_add_left i1 _,xO!];rcases ZM hj with e|hj;(.rw[e,c] at bj;cases bj);.have:=i2 j hj bj;lia | false =>rw[AD AQ,AO,CZ];show#[BY i1 (FG h0),xO!];rcases ZM hj with e|hj;(.rw[e];lia);.have:=i2 j hj bj;show BY this (FG h0)
abbrev US(t:T2)(qs:j!)(h:Nat):GE:=JMH (BI! p.2.AK)
abbrev UI(t:T2)(qs:j!)(h:Nat):GE:=JMH (BI! p.2.AL)
def Ni(t:T2):∀(qs:j!),He t qs=qF! JN2-qF! wM!
 | []=>by simp[He]
 | p::qs=>by have ih:=Ni t qs;show Jj?;simp only[AO,AZ,CZ];(have e1:px! (cV! US h) JN2:=by funext h;simp[US]);(have e2:px! (cV! UI h) wM!:=by funext h;simp[UI]);rw[e1,e2];change FC! wP+He t qs=_;rw[ih];unfold OA;(have e3:cV! US 0=BI! p.2.AK:=by simp[US]);(have e4:cV! UI 0=BI! p.2.AL:=by simp[UI]);rw[e3,e4];lia
def yA{f:Eg!}{h0:Nat}:∀{m:Nat},h0<m->(∀h,h≠h0->f h=0)->ir! m f=f h0
 | 0,hl,_=>Q!
 | m+1,hl,h=>by rw[FU,ZF,NV];simp only[AO,EZ,CZ,LM];show B? (h0=m);(.subst c;(have:∀k,k<=h0->ir! k f=0:=λk=>by induction k with | zero=>intro _;simp | succ k ih =>intro hk;rw[FU,ZF,NV,ih (CL hk)];simp only[AO,EZ,CZ,LM];rw[h k (BU hk)];lia);rw[this h0 Bh!];lia);.rw[yA (m:=m) (K' (HG hl) c) h,h m (SU! c)];show ha! _
structure P1(G:BZ)(S:HS):B! where
 hand:Ka! (t∈S.1)
 row:∀t∈HJ!,∃r∈LR!,UU!
 dj:nY! (JJ7/\FA!=Ah AI! h!)
 nq:nY! (RP! (O!=h!->Ey! BN! (t∈BO!)))
 AK:∀t,Jy t S.2.2=E7!
 pD:Ey! S.1 Ir!
 o6:nY! (bR! (t∈p5!))
abbrev Lb(m:Nat)(b:Uv!)(S1:Eh!):Dn!:=EI! mi! b S1
abbrev GS(m:Nat)(b:Uv!)(S1:Eh!)(t:T2):B!:=Fz! (D7! kN!).map/\¬JDJ
def PL{m:Nat}{b:Uv!}{S1:Eh!}{S:HS}:S∈vh!↔∃h,h<m/\aA!/\S1 h=S:=by
 unfold Lb;rw[AN];show b?;.rintro⟨h,hh,e⟩;show u? (Dt! hh);show#[h,Gq! h1,h2,e]
 .rintro⟨h,h1,h2,e⟩;show#[h,Ll! (Du! h1) h2,e]
def IX{L:Dn!}{r:Dd!}:nH!↔∃S∈L,r∈LR!:=by unfold rowsOf;show EB
open S
variable {D:T2->Prop}{m n:Nat}{sh:Int}{qs:List (Addr×BZ)}{ls:List LT}
def Wg.snap(x:AT!){b:Uv!}{S1:Eh!}(hs:∀(h:Nat) q G,Ul!->aA!->P1 G (S1 h)):J8! (GS m b S1):=by
 show Ek?;have key:pO! ((LW λ(h:Nat)(q:Addr)(G:BZ)=>Ul!/\aA!/\lT!/\CT!)/\Cv t ls=0/\JIp (E7!=0)):=λt #[ht,nl]=>by show E6?;have#[S,hS,NS]:=cI!;have#[h,hm,bh,e2]:=tR!;subst e2;show Id? (lm▸hm);have T:=hs h q G eq bh;have#[o1,o2]:=T.dj r NS;show DA?;rw[e] at o1 o2;(show Jv?);have ew:FA!=Gs (Cu kN!) h!:=JrR (λz=>nl (AY! e (.out hr z)));rw[e,Jbg] at ew;(show Oq? (G_ λq G=>JbU) (lm▸hk));(show J1? ((mi! b).map JlT).sum (by unfold Lb;rw[AZ];congr 1;show C_ PS!;show u? (Dt! hk);have#[q',G',QQ,e3,_]:=eR k (Gq! h1);show Mp?;rw[e3,(hs k q' G' QQ h2).AK t]));rw[eA] at ew;(have nnR:∀k∈DH! m,0<=US t qs k:=M8! (by show JE?;rw[e3];show Kv (x.num QQ).1.nn t));(show PV? (l! t1 (HT! nk.symm NZ!)) (lm▸(IV! hk)));(show MR?);show Ov?;rw[Ni,lm,sO,oh,<-o2] at sm;have l0:=JRy;have#[f1,f2]:=As! Nb f JlT b b nnR;show#[#[h,q,G,eq,bh,t1,o1],Q!,λj q' G' QQ bj=>?_];(have hj:j<m:=JiE QQ);have f3:=f2 j (Du! hj) bj;(have e5:US t qs j=BI! Kh!:=by unfold US;rw[QQ];rfl);have nn5:=nnR j (Du! hj);rw[e5] at f3 nn5;lia
 have kj:pO! (Ii! (l.th≠t)):=λt ht l hl e=>by have:=Tj x.wl.ok hl;show U? e (UV t ht).2.1;lia
 have far:pO! (JIp (¬EY!)):=λt ht j q G eq bj hd=>by have#[#[h,q',G',QQ,bh,t1,_],_,z]:=Cv! UV;(have nj:Vl!:=λy=>by show Lz? y;rw[this,bj] at bh;cases bh);rcases P8! x.rc eq (BK! hd) nj with r|⟨l,hl,e,_⟩;(.have:=z j q G eq bj;show DF! r (IY.mpr (JZ this)));.show kj t ht l hl e
 show#[λj q G eq t ht gs=>?_,λl hl _ gs=>kj _ gs l hl A!,λj q G eq r0 XG t ht gs=>?_,λj q G eq t gs tj=>?_];.cases bj:b j with | false=>show far t gs j q G eq bj oP! | true =>show IY?;show gs.2 (Ki! (PL.mpr JUd) ((hs j q G eq bj).hand t ht))
 .cases bj:b j with | false=>show HV! AT #[r0,XG,ht] (far t gs j q G eq bj) | true =>show IY?;have T:=hs j q G eq bj;show DA?;show AQ? (T.row r0.1 (AY! Xw! (St! r0 XG)));have mr:r∈D7! (Lb m b S1):=JVs JUd;show#[BD! #[r,mr,e],λld=>gs.2 ?_];show Nb! mr (T.nq r hr r0 XG BB! t ht) (l! e ld)
 .have#[#[h,q',G',QQ,bh,t1,o1],_]:=UV t gs;show Lz? tj;subst this;have e:(q',G')=HD!:=ZO (QQ.symm.trans eq);show DA?;show(Rs! t (Bz! rg! o1)).2
open E
abbrev Li(G:BZ)(ts:E!):BZ:=KQ (IS Bs!)
open S
variable {D F:T2->Prop}{m n:Nat}{sh:Int}{qs:List (Addr×BZ)}{ls:List LT}{i:Nat}{q:Addr}{G:BZ}{ts:List T2}
def xc{t:T2}(h:RN bA! t):EY!/\JsE:=by
 show RW?;show Mz? (Ap G ts).hand
 .show Bk? (Ap G ts).holds;show Kg?;unfold Bl;show RJ? (Ap G ts).holds.any #[r,hr,OK!];show FQ?
def Jw9(ok:f8)(h1:Ka! Xz!)(h2:∀r∈G.holds,h!∉ts->bR! Xz!):P5!:=by
 have sub:(g9! λq=>decide (Hr!)).Sublist AI!:=IG;show#[Kc!,ok.hz,JV2 (sub.map _),AA sub.length_le ok.oz,?_,Iw!,ok.rz,Ff! (Kd! r (Dt! hr).1),JFI ((sub.map _).subset ht),Lx!,λr hr t ht e=>?_,ok.rk];.show F7? Hr! Hr!;(have e1:JiI Xb! Hr!=qn! o1!:=oo!);(have e2:JiI g9! Hr!=dd! o1!:=oo!);rw[e1,e2,Fk!]
 .have m:=sF!;have#[o,ho,eo]:=Ee!;show BD! (Jas cj!)
 .have#[GZ,NS]:=Dt! hr;have m:=ok.lk r GZ t ht e;have#[o,ho,eo]:=Ee!;show BD! (Jas (h2 r GZ (by simpa using NS) t ht))
def Jwq(x:B2!)(a_:P5!):GH! bA!:=by show PM?;show Cs? hk;show Li?;rw[e];show(As! xc G G ts ts ht).2
def Wg.yv(x:AT!)(hi:SC)(sF:J8! F)(fD:JKk)(ht:l7! (F t) kB!){rs:R!}(pm:C9!) : TT! (qs.set i (q,Ob!)) (ls++(Bt Bs! rs).map (Iu cr))/\JmZ Ob! Bs!/\P5!:=by
 show AM?;have p4:P5!:=Jw9 s.ok (λt m z=>sF.hand i q G hi t m JEW) λr hr nr t m z=>nr ((ht h!).mpr #[sF.hold i q G hi r hr t m JEW,jx! (Rs! h! (Bz! Xw! sw!)).1]);show PU? Ob! Bs!;have gone:∀t∈ts,¬(Hs!\/JA4):=λt m z=>by have#[f,t1]:=(ht t).mp m;rcases z with z|⟨j,q',G2,e,o⟩;(.show z (fD t f));.rcases Ds e with⟨_,e2,_⟩|⟨nj,e⟩;(.rw[e2] at o;have#[y,hy,ey]:=ZN o;show Cd? hy;show H? ey;show(BI this) m);.have#[s2,nu2]:=x.num e;have:=(s2.ok.new t o).1;lia
 have C':∀t,(Hs!\/JA4)->(Hs!\/Jr!):=Gz! (by show F? h;(.show N?);.show F? (h.set hi);(.show y?);.show G? #[i,q,G,hi,n5!])
 show#[#[(x.wl.mono C').next hi (Jwq s p4) A! bC! (λt ct=>?_) ?_,st D x.sD,Xx! hi (jn!) (nW!) Cy!],st,p4];show O6? x.wl.ok
 .rw[Hq];show KC?;show PT? Bs! Ji!;show M8? kF!;show Mx? Ji! Hr!;show IG? (JQ8 Xz!);rw[AF (AI (HP! (¬RZ!) (λz=>gone t z ct)))];cases kF!;(.show Kx?;lia);.rw[Aq!,AD (Sc)];lia
 .rw[ZE,ZA];show CH? Bs! Ji!;show G2? Ji!;show GL? Ji! AN!;show LW? Ji!;lia
 .show u? (xc ht);show#[h1,?_];show If?;rw[Df AN! (λt=>kF!) t,AF h2];show AJ _
 .have#[y,hy,e]:=TC!;show JD?;show Et?;show Kf?;show If?;show IG? JK7;show AJ _
def Wg.more(x:AT!)(sF:J8! F):Wg (λt=>D t\/F t) m n sh qs ls :=#[x.wl.mono (Gz! (by show F? h;(.show E? (pN! h));.show y?)),#[λj q G e t ht z=>NB! (x.sD.hand j q G e t ht) (sF.hand j q G e t ht),λl hl nb z=>NB! rU! (sF.VC l hl nb),λj q G e r hr t ht z=>NB! (JaW y! x.sD.hold) (JaW AT sF.hold),λj q G e t z tj=>Vo! NB! (P8! x.sD.old e z tj) (P8! sF.old e z tj)],x.rc]
open E
open E Lake.K66
open N Lake.FX
open PySem PySem.Spec PyProof.Rows L2
abbrev rg(n:Nat):i!:=lA! n nc!
def Fy(n:Nat):A1! rg n=n:=by unfold rg;rw[ZA,DL]
def QZ:x∈rg n↔(0<=x/\x<n):=by
 unfold rg;rw[AN];show b?;.rintro⟨k,hk,rfl⟩;have:=Gq! hk;show#[L3!,(DP! this)]
 .show BX?;show#[x.toNat,ci!,Jix BN]
open S
open E
open E Lake.FX
open N Lake.K66
open PySem L2 FX
inductive LL where
 | w (l:LT)
 | ask (s g n u:Int)
 | ME (s g n u tick:Int) (S:HS)
 | lt (s g:Int) (ts:E!)
abbrev pP:LL->Ku! LT
 | .w l=>D! l
 | _=>none
abbrev iB(n u:Int):LL->CD!
 | .ask _ g n' u'=>JPv g
 | _=>none
abbrev jz(n u:Int):LL->WU! (bL!)
 | .ME s _ n' u' tick S=>JPv C0!
 | _=>none
abbrev Cp(al:Y!)(n u:Int):i!:=JXC iB
abbrev Ca(al:Y!)(n u:Int):GX!:=JXC jz
abbrev JJ(al:Y!):TD:=al.filterMap pP
def Bz(a b:Y!)(n u:Int):JY! AH! u=T0! a++T0! b:=TN ..
def Bo(a b:Y!)(n u:Int):JF0=T1! a++T1! b:=TN ..
def Dh(a b:Y!):la!=JJ a++JJ b:=TN ..
def Fk(z:LL)(b:Y!)(n u:Int):JY! (z::b) u=(iB n u z).toList++T0! b:=by unfold Cp;rw[II];cases iB n u z<;>rfl
def Do(z:LL)(b:Y!)(n u:Int):Og! (z::b) u=(jz n u z).toList++T1! b:=by unfold Ca;rw[II];cases jz n u z<;>rfl
abbrev Jz8(al:Y!):B!:=∀n u,JS0
def Qk:∀ls:TD,Jz8 (Ew! .w)
 | []=>Nc! ES!
 | l::ls=>Nc! #[by rw[AO,Fk];show mg!,by rw[AO,Do];show mh!]
def wq:∀ls:TD,JME=ls
 | []=>rfl
 | l::ls=>by change l::JME=_;rw[wq ls]
structure mL(h:Int)(S:HS):B! where
 nd:EH! S.2.1.map
 hz:S.1.length<=60
 rz:S.2.2.length<=60
 oz:∀w∈LR!,w.1.1=h/\0<=w.1.2/\w.2.2.length<=60
structure Ju(qs:j!)(r:bL!):B! where
 tk:JIq (FA!<=G.BJ/\(FA!=G.BJ->P1 G BO!))
 so:mL h! BO!
 nw:JIq (∀w∈r.2.2.2.1,w.1.2<G.BB)
abbrev Hm(fi:GX!)(h:Nat):GE:=((Nd! KC!).map Go!).getD 0
abbrev My(fi:GX!)(h:Nat):HS:=((Nd! KC!).map Ip!).getD vG!
abbrev Still(qs:j!)(al:Y!)(n:Int)(fi:GX!)(se:bx!)(h:Nat):B! :=
 (∃r∈se,tF! ai!)\/(∃r∈pi!,h!=AZ!/\FA!=ai!)\/(AZ!∈SJ! 2/\G_ λq G=>Ul!/\G.BJ=ai!)
structure RM(m:Nat)(qs:j!)(ls:TD)(al:Y!)(n:Int)(fi:GX!)(se:bx!):B! where
 t1:(pc!++wv (Ca al n 1).map++Z4!).Perm (rg m)
 t2:(hi!/\JZT)\/(Ne!/\JZS)
 f1:∀r∈fi,Ju qs r
 f2:nZ! ph!
 s2:Ne!->∀b:Uv!,(PT! (h<m->aA!->Still qs al n fi se h))->J8! (GS m b (My fi))
def wV{m:Nat}{fi:GX!}(pm:rM!){h:Nat}(hh:h<m):∃r∈fi,rX!/\JNT/\My fi h=BO!:=by have m1:AZ!∈Z4!:=JWv;have#[r0,XG,e0]:=ZN m1;cases e:Nd! KC! with | none =>show KT? | some r =>show#[r,BH e,ag!,?_,?_];(.unfold Hm;rw[e];rfl);.unfold My;rw[e];rfl
open S
variable {m:Nat}{qs qs':List (Addr×BZ)}{ls OW:List LT}{al al':List LL}{n:Int}{fi:List (Int×Int×HS)}{se:List (Int×Int)}{i:Nat}{q:Addr}{G G':BZ}
def RM.whole(x:J9!)(e:Ne!):pc!=[]/\jy! 1/\rM!:=by have l:=x.t1.length_eq;rw[ZE,ZE,ZA,ZA,Fy] at l;have e1:pc!=[]:=Px!;have e2:jy! 1:=Px!;show#[e1,e2,?_];have t:=x.t1;rw[e1,e2] at t;show t
def RM.iV(x:J9!)(ha:JRE)(hb:JRF)(st:Yb! qs OW):RM m qs OW SZ n fi se:=by show N7? x.f1 (S! hb x.f2);have:=hs h hh bh;show EH?;show U? ha hb;show this
def RM.VE(x:J9!)(hi:SC)(tk:Ru!)(md:G9!)(ha:JRE)(hb:JRF)(st:sp!):RM m ET! OW SZ n fi se:=by
 have fo:∀r,Ju qs r->JkU Ju r:=λr h=>JOq (by show HF?;(.have:=h.tk i q G hi JQR;rw[e2];show#[BY NJ! (Int.le_of_lt tk),λz=>DF! (BY tk (JZ KX!)) (IY.mpr NJ!)]);.show h.tk j q2 G2 e ej) h.so (by show HF?;(.have:=h.nw i q G hi JQR w9 hw;rw[e2];show BY this md);.show h.nw j q2 G2 e ej w9 hw);show N7? (Ff! (fo r (x.f1 r hr))) (Ff! (fo r (x.f2 r (Bz! hb hr))));have:=hs h hh bh;show EH?;show U? ha hb;rcases this with h1|h1|⟨h1,q2,G2,e2,e3⟩;show AH? h1
 .show Bi? h1
 .rcases Ds e2 with⟨e4,e5,_⟩|⟨_,e4⟩;(.exfalso;have#[r,hr,er,et,_]:=wV (x.whole e).2.2 hh;have:=((x.f1 r hr).tk i q G hi (GJ! er e4)).1;rw[e5] at e3;lia);.show Bn? #[h1,q2,G2,e4,e3]
def RM.asked(x:J9!)(es:Su! (Fs! s g n' u))(g0:FJ!)(hi:qs[g.toNat]?=D! HD!)(et:tick=G.BJ)(tl:P1 G S)(so:mL g S)(nw:∀w9∈LR!,bG!<G.BB):RM m qs ls JIP n fi se:=by
 have A:∀n u2,JY! qk! u2=JY! AH! u2:=λn u2=>by rw[Bz];change _++[]=_;rw[AM]
 have A0:∀u2,SJ! u2=Cp a n u2++(JRT g++Cp b n u2):=λu2=>by rw[es,Bz,Fk];rfl
 have B:∀u2,Og! qk! u2=Ca al n u2++JRT VB!:=λu2=>by rw[Bo,Bo,es,Bo,Do,Do];change QY! (n'=n) (u=u2) VB! []=_;rw[AM];rfl
 have eG:∀(j:Nat) q2 G2,aw! (qs[j]?)->g=Ct!->G=G2:=λj q2 G2 e ej=>by (have:j=g.toNat:=Q!);rw[this,hi] at e;show(Rb! (ZO e)).2
 have fo:Ju qs VB!:=JOq (by rw[<-JMo];show#[by change tick<=G.BJ;show(JZ et),λ_=>tl]) so (AY! JMo (nw w9 hw));have pmv:∀(P9 Q R T:i!)(y:Int),(P9++([y]++Q)++R++T).Perm (P9++Q++(R++[y])++T):=λP9 Q R T y=>by show LU T ?_;have h1:(P9++([y]++Q)).Perm (y::(P9++Q)):=List.perm_middle;(have h2:(P9++Q++(R++[y])).Perm (y::(P9++Q++R)):=AY! AY (JH (l₂:=[y])));show Lj! h1.append_right R h2.symm
 have tok:∀u2 (T:i!),JQc (SJ! u2) al->JQc (JY! qk! u2) JIP:=λu2 T h=>by rw[A,B,Bz,ZF];rw[A0] at h;show B? (n'=n/\u=u2);(.rw[Ap!] at h ⊢;show(pmv _ _ _ _ g).symm.trans h);.rw[Ef!] at h ⊢;simpa using h
 show#[tok 1 _ x.t1,?_,x.f1,H2!,JZ8];.rcases x.t2 with⟨z1,z2,z3,z4⟩|⟨z1,z2⟩;(.rw[A0] at z2;(have nc:¬(n'=n/\u=2):=λc=>by rw[Ap!] at z2;simp at z2);rw[AD nc] at z2;show y! #[z1,?_,?_,z4];(.rw[A,Bz];simpa using z2);.rw[B,AD nc,z3];rfl);.show r? z1 (tok 2 _ z2)
 .show c? B;show BN?;(.show x.f2 r hr);.show B? (n'=n/\u=1);(.show c? Ap!;(have:r=VB!:=by simpa using hr);show M?;show fo);.show c? Ef!;cases hr
 .have:=hs h hh bh;show EH?;rcases this with h1|⟨r,hr,e1,e2⟩|⟨h1,h2⟩;(.show E? h1);(.show c? B;show BN?;(.show Bi? JLe);.show B? (n'=n/\u=2);(.show c? Ap!;(have er:r=VB!:=by simpa using hr);rw[er] at e1 e2;have e1:g=AZ!:=e1;have e2:tick=ai!:=e2;(have eh:h=g.toNat:=Q!);show AL? #[?_,q,G,ky! hi,ZY! e2 et];rw[A0,Ap!,<-e1];show ZC _ (F3! i7!));.show c? Ef!;cases hr);.rw[A,Bz] at h1;show AL? #[?_,h2];rw[A0];rcases ZI h1 with h1|h1;(.show h? h1);.show ZC _ (Bu! h1)
open E
open S
abbrev Dr(m:Nat)(g n u:Int):Y!:=JGv (λi:Nat=>Fs! g cr n u)
def Iv:Cp va! n2 u2=BX! (n=n2/\u=u2) (rg m) []:=by
 unfold Cp Dr;rw[JDH];show B? (n=n2/\u=u2);.rw[AF c];show N9? (λi:Nat=>D! cr) (by funext i;change Yk! (n=n2/\u=u2) cr=_;rw[AF c]);show M?;unfold rg;show congrFun List.filterMap_eq_map' _
 .rw[AD c];show N9? (λ_:Nat=>none) (by funext i;change Yk! (n=n2/\u=u2) cr=_;rw[AD c]);show M?;simp
def Mw:Ca va! n2 u2=[]:=by simp_all [Ca,Dr,jz]
def Jkp:JJ (Tc! n u)=[]:=by simp_all [JJ,Dr,pP]
def Jtl(m:Nat):OO! rg m:=by unfold rg List.Nodup;rw[HH];show uv! (λz=>BU h (NZ! z))
def Qae(m1:1<=m)(h1:∀u,SJ! u=[])(h2:∀u,jy! u)(g:Int):RM m qs ls (tl!) n [] []:=by
 have A:∀u,JY! tl! u=BX! (u=1) (rg m) []:=λu=>by rw[Bz,h1,Iv];show B? (u=1);(.rw[AF (Bc! Xy!),Ap!];rfl);.rw[AD (λz=>c z.2.symm),Ef!];rfl
 have B:∀u,Og! tl! u=[]:=λu=>by rw[Bo,h2,Mw];rfl
 show#[?_,W! #[JL! (0<m) m1,?_,B 2,A!],tg!,H2!,Lu!];.rw[A,B,Aq!];simp
 .rw[A,cE!]
 .show c? B;cases hr
 .have:0=m:=e;show OF! m1 (ej! gt!)
def RM.first(x:J9!)(es:JM4 1) : hi!/\nd!/\(ne!≠m->JCo CU!)/\(ne!=m->JPb N->∀g,JCo (AH!++Tc! n 2)):=by
 show NG?
 have B1:JbO ph! 1 1:=by rw[es,Bo,Do];change QY! (n=n) (Hm!=1) C0! _=_;show FG?;rfl
 have B2:pi!=Og! AH! 2:=by rw[es,Bo,Do,Bo];change QY! (n=n) (Hm!=2) C0! _=_;show Kd?;rfl
 show QR? dS! 1 Tk! x.t1 B1 dS! 1 1 Z4!
 show On? Tk!
 show Ow? nd!
 show QE? hi! C0! bL!
 have z2:JZT:=by rcases x.t2 with⟨_,h⟩|⟨h,_⟩;(.show h);.lia
 have#[z2a,z_,sk]:=z2;have f1:nZ! Tk!:=Ff! (by show Bz?;(.show x.f1 r h);.show BA? (x.f2 _ (l! B1 (F7! HL!))))
 have f2:nZ! ro!:=Ff! (x.f2 r (by rw[B1];show c? Bo;show Bz?;(.show h? h);.show EP?));have ln:FG! Tk!=ne!:=zo!
 show#[lt,sn,λne=>#[pm,W! #[Q!,AY! A z2a,AY! B2 z_,sk],f1,f2,λe=>Q!],λee wg g2=>?_];have A1:JY! fS! 1=dS!:=by rw[Bz,Iv,AD (λz=>by have:=z.2;lia),AM]
 have A2:JY! fS! 2=rg m:=by rw[Bz,Iv,yz!,<-A,z2a];rfl
 have C:∀u,Og! fS! u=JF0:=JKF Mw
 have C2:Og! fS! 2=[]:=by rw[C,<-B2,z_]
 have pf:JEo Tk!:=by have l:=pm.length_eq;rw[ZE,ZE,ZA,ZA,Fy,ln] at l;have e1:dS!=[]:=Px!;have e2:ro!=[]:=Px!;have t:=pm;rw[e1,e2] at t;show t
 show#[HO! A1 C pm,E9! (go! ln ee) (by rw[A2,C2,sk];simp),f1,S! C f2,λ_ bb hs=>wg.snap λh q G eq bh=>?_];have hh:h<m:=Jg6 wg.wl.len eq
 rcases hs h hh bh with⟨r,hr,_⟩|⟨r,hr,_⟩|⟨_,q2,G2,e2,e3⟩;.show c? sk;cases hr
 .show c? C2;cases hr
 .rw[eq] at e2;have eG:G=G2:=(Rb! (ZO e2)).2;have#[r,hr,er,et,e4]:=wV pf hh;rw[e4];show((f1 r hr).tk h q G eq er).2 (by rw[<-et,<-e3,eG])
def RM.second(x:J9!)(es:JM4 2) : Ne!/\se.length<m/\xQ!/\RM m qs ls CU! n fi (nf!):=by
 show NG?
 have B2:JbO pi! 2 2:=by rw[es,Bo,Do];change QY! (n=n) (bt!=2) C0! _=_;show FG?;rfl
 have B1:ph!=ro!:=by rw[es,Bo,Do,Bo];change QY! (n=n) (bt!=1) C0! _=_;show Kd?;rfl
 have t2:Ne!/\JZS:=by rcases x.t2 with⟨_,_,h,_⟩|h;(.rw[B2] at h;simp at h);.show h
 show QR? JC9 2 nf! t2.2 B2 JC9 2 2 JjD
 show On? nf!
 show Ow? xQ!
 show QE? (se.length<m) (s,DW!) gd!
 show#[t2.1,lt,sn,#[by rw[<-A,<-B1];show x.t1,E9! t2.1 pm,x.f1,AY! B1 x.f2,JZ8]];rcases hs h hh bh with⟨r,hr,e1,e2⟩|⟨r,hr,e1,e2⟩|⟨h1,h2⟩;.show BN?;(.show E? JLe);.have er:=ZK hr;rw[er] at e1 e2;show Zq! #[C0!,OE! B2,e1,e2]
 .show BF? #[r,?_,e1,e2];rw[B2];show c? Bo;show Bz?;(.show h? h);.show EP?
 .show Bn? #[S! A h1,h2]
def RM.done(x:J9!)(e:Ne!){c:Eg!}(hc:∀h,h<m->∃r∈se,tF! (c h)):J8! (GS m (λh=>JI! (Hm fi h) (c h)) (My fi)) :=x.s2 e _ λh hh bh=>by have#[r,hr,e1,e2]:=hc h hh;show W! #[r,hr,e1,Hu! e2 (GF! BI bh)]
open E
open S
inductive xO(vs:C!)(H:Hp)(Q:VK)(E:XK):B!
 | mk (p ta:Addr) (G:BZ) (n:Nat) (rs:R!) (ts:E!) (as:X!) (_:JAH) (_:KM) (_:f8) (_:UR!) (_:Vk!) (_:V3!) (_:C9!) (_:FQ!) (_:JKM) (_:Ga!) (_:P5!) (_:JVf JrM Bs!)
def Jwt:y9! OJ! m8:={}
def Jr4(F:a! Fm! "House.let" m8)(T:Txt)(Tx:qv)(ML:JT1)(MG:JTv) : LU! OJ! xO:=by
 show PR?;show Ou?;show D? Jwt;have#[p,ta,G,n,rs,ts,as,rfl,S,ok,zn,ck,cj,pm,pw,et,th,a_,k]:=h;show A?;show K?;show C?;show A2? (JZe No) JfM;show#[Ec?,_,A!,hp,Cu!,_,A!,p,ta,G,as,ts,A!,S,Fk!,v! et,th,xG!];have#[aP,cp]:=S9.ob;show OI?;rw[Bq];have bN:=S9.fld aP (Ap G ts).BB ((Ap G ts).BJ+1);show J9? (Y9! JT3)
 have bN:F8! JT3 (KQ Bs!):=bN;show MN? { Ap G ts with BJ:=(Ap G ts).BJ+1 };have#[iy,iZ]:=bN.ob;show Qb? Bs!;show MO? (i1! YC);show Jee e (λz=>h2 (Qa1 ts z))
open E
inductive RU(H:Hp)(t:Addr)(k:Int)(kind:Str)(s g n u:Int):B!
 | mk a (_:JMn E0!) (_:JD4 Ho! u)
inductive WN(H:Hp)(t:Addr)(k s g:Int)(ts:E!):B!
 | mk (a:Addr) (as:X!) (_:JMn Fm!) (_:EM! Jhu) (_:Ga!)
def RU.keep(h:un! E0!)(kt:BV!):RU H' t k E0! s g n u:=let#[a,e1,e2]:=h;#[a,L5! Ra!,P! Ra! e2]
def WN.keep(h:JL5)(kt:BV!):WN H' t k s g ts:=let#[a,as,e1,e2,th]:=h;#[a,as,L5! Ra!,P! Ra! e2,Lr! kt th]
structure OR(H:Hp)(c b n turn:Int)(L:k!)(m:Nat):B! where
 num:JMj
 OC:Ja2 (RU H y.2 wT Av! b cr n Et!)
def OR.len(x:OR H c b n Et! L m):hj!:=JIg
open S
def Qa6(x:CZ!):uh! D3! { W with GV:=l } D3!:=by
 show RU?;show GK? (b≠W.en) D3!
 show Jc? g1 g2 a6 b5 c4 (FM f x.fi d3) Ab;show CI? D3!
 show Dm?
def Qa9(x:CZ!):uh! Ex! { W with IB:=l } Ex!:=by
 show RU?;show GK? (b≠W.fi) Ex!
 show Jc? d1 d2 a5 b4 c3 Ab (JFo d3);show CI? Ex!
 show Dm?
open E
open S
inductive Ht(vs:C!)(H:Hp)(Q:VK)(E:XK):B!
 | mk (p:Addr) (b n turn:Int) (W:EL) (_:vs=[Cm!,Ix b,Ho!,Ix Et!]) (_:AS!) (_:Ub!) (_:FM!) (_:∀(l:Addr)(L:k!)(H':Hp),JBI LD!->JU1 b Et!->JW!->JK! l ZV!->l≠W.hs->dJ p W H l->z3!)
def Jk6:A3! Lb! Lb! Hz:={}
def Jh1(F:a! "ask_all" "World.ask_all" Hz)(T:Txt)(TW:F1)(TP:P0)(M3:Qb!) : LU! Lb! Ht:=by
 show Ef?;show D? Jk6;have#[p,b,n,turn,W,rfl,S,z1,z2,k]:=h;show A?;show C?;show QJ? JcU JZ6 JLQ #[A!,A!,A!,A!,CL!] (Jzt BR! BR! BR! BR! h) #[JG!,JG!,JG!,JG!,CL!] (An No A!) (Jhq KB bv (D0 lS!));show GF?
 show#[C4?,dx,_,_,A!,hp,v4,G7!,Dy W,DS!,_,A!,JmU,kT!,(by rw[e0]),HQ!,JJM,bc!];rw[CS];show KA?;have S0:=JN! s0;have S0':JXL:=HO! (Zp! xH!) AM S0
 show NT! Ye lo 0 n NG! tt Hq! te JcU AM! JZ6 σ [AP!,zS!,zR!,F1! Et!] (JMQ hk! (wz!/\JCb/\OR H2 W.c b n Et! L i/\o7!)) #[Ab,A!,[],A!,S0',oU!,JFH] JE9 ?_ ?_;.rintro i ys H2 N hi ⟨er,ly,L,vM,W2,l2,QN⟩ hN;show f?;have jI:r∉Bx p { W with c:=SA! i,ls:=NW! }:=λm=>S.QH LV m;show Av?;show ED?;show#[RD? LK IU,Ep _,Bp!,SD,_,A!,aK,Oe!,_,A!,_,A!,_,A!,_,A!,S3!,ND! ?_];have s3:=Sl! (AO! n) (AO! Et!) ha;show DS?;show JT? W3.po l2.len;show GM?;have YQ:=MK s3;show DM?;have aO:YM! H4 r:=FM TY (AC s3 er) jI;show#[aO,EQ! Du,EW! #[Ab,lD! ly,JOQ,Z7! vM,?_,?_,?_]];show L1?;(·show Ib? (ok! H4 r pS!);have kk:=Lj! YQ.trans QO kq;show#[by rw[ZF,l2.num,FU,ZF];congr 1;show F5?;congr 1;show rD!,?_];rw[FU];show Ey ?_ (JLD l2.OC);have ea:=P! QO.BV (show Pd! (E4! H2 a ii JNr) a JNr from Ab);have e2:r3!:=zZ!;rw[e2] at et;show#[a,aQ! et,aQ! ea]);.intro b' o' e' KR;(show NF?);rw[Ad lq];show TY b' o' (AC s3 JDC) KR
 .rintro ys H2 ⟨er,ly,L,vM,W2,l2,QN⟩;show k r L H2 W2 l2 QN (Bz! vM er) (λz=>by rw[z,S.hs] at LV;cases LV) λb o e _=>Al e LV
open E
structure Tells(G:BZ)(hs:E!)(os:Ae!)(rs:R!):B! where
 z1:nQ!
 z2:nR!
 z3:nS!
 pm:tQ!
 pw:cg!
 MA:tt!
 pr:C9!
 wr:FQ!
def Qag{H:Hp}{x:Addr}{hs:E!}{os:Ae!}{rs:R!}(h:JMw):WH K H x Jd!:=by have#[y1,y2,y3,as,bs,ds,e,e1,t1,e2,t2,#[ob,e3,_],t3]:=h;show#[y1,y2,y3,as,bs,LG! ds.map,DQ! e,ZS!,t1,Bt! e2,Ax (λv r h9=>by have#[a,t,hd,cs,e,e1,e2,e3,th]:=h9;show#[a,t,hd,cs,e,ZS!,e2,Bt! e3,th]) t2,R9! AT #[ob,e3],?_];clear e e1 t1 e2 t2 e3;induction t3 with | nil=>show U! | cons r _ ih =>have#[ka,e1,e2]:=r;show Lq! #[_,ka,A!,ZS!,e2] ih
open S
inductive Gh(vs:C!)(H:Hp)(Q:VK)(E:XK):B!
 | mk (p t:Addr) (W:EL) (k s g n u:Int) (q:Addr) (G:BZ) (hs:E!) (os:Ae!) (rs:R!) (_:GV!) (_:AS!) (_:un! Av!) (_:kZ!) (_:Jaj) (_:FM!) (_:xT!) (_:(∀e∈W.GV,e.1≠B9!)) (_:∀(x t1 e xs:Addr)(H':Hp),SP! sM!->RU H' t1 Sv! HA! g s n u->Sj! e ii [Ix Gs!,SB xs]->WH K H' xs Jd!->JUh JHA)
def YW:oV! G1! "asked" RX! Cg! EL! Hy:={}
def Jfq(F:a! "ask_came" JXv Hy)(T:Txt)(TW:F1)(TP:P0)(M1:iM! "tick" "House.tick" mh f1 d1)(M2:JqT f2 d2)(G2:mC! A4! Ov)(M3:Qb!):rV! Gh:=by
 show Lo? A4! Jnd Jrz YW;.have#[p,t,W,k,s,g,n,u,q,G,hs,os,rs,rfl,_]:=h;rfl
 .have#[p,t,W,k,s,g,n,u,q,G,hs,os,rs,rfl,S,#[a,et,ea],i,tl,z1,z2,ne,kk]:=h;show K?;show Q?;show C?;show Qz? YW.nd Hc! YW.nd (li! KB) YW.nd (JVc (Jhq KB Hc! Hc!)) (JCa An! (HE! (JkL xL q! GZ A8) (jQ! xL q! I2! G2 hr Fp! A8)) (Z6! Ew (Kr! An!)));show GS?;show#[Fc?,_,A!,hp,v4,G7!,Dy W,_,A!,DS!,_,_,AK! q,A!,A!,Un!,i.VY,?_];have#[bH,gn]:=S.po.ob;show#[ID?,PO? hp bH gn t,2,AO! s,A!,A!,Lc!,A!,_,A!,t,_,4,LM!,A!,A!,Lc!,A!,?_];show#[Bp!,Il!,W.c,Fi!,_,_,_,_,A!,S.po,GB! z1,λt1 H1 ht1 vQ S1 NP=>?_];have#[W1,IT]:=S.LD S1 NP;show Aq?;have HA:=i.at (W:=JOP) W1;have#[dB,qJ]:=HA.ob;show#[_,A!,q,dB,_,A!,qJ,Cu!,q,G,A!,HA,?_];show#[n? q,dB,_,A!,qJ,Cu!,q,G,hs,os,rs,A!,HA,tl.z1,tl.z2,tl.z3,tl.pm,tl.pw,tl.MA,tl.pr,tl.wr,λxs H2 s2 sx=>?_];show#[JJq,Jx!];have s3:=Sl! (AO! Gs!) (AK! xs) he;have ee:Pd! (E4! H2 e ii ui!) e ui!:=Ab;generalize E5! H2 e ii ui!=H3 at s3 ee;have tW:=Ai s2 s3;have W3:=W1.same tW;have#[UY,XH]:=W3.ob;show HY? UY XH TW.nE (Jmw _) D3! (Zo! (Bm! (B9!)) W3.en (l! Pd (Du (JjI (W.GV.length<=_) z2))));have ek:JZX W.GV:=xa ne;change _;rw[show JZX (JOP:EL).GV from ek];have#[W4,TY]:=Qa6 W3 (l:=SR!);show DM?;have aj:JE p W H WM!:=Nf! (TY b o (AC tW dJ!) hb);have ka:DQ H WM!:=NV! S aj;have ek1:DQ H1 WM!:=(MK tW).trans QO;have W4:AW CW C CP WM! p sM!:=W4;change _;generalize WM!=H4 at W4 QO aj ka ek1;show#[_,A!,(show DM! 1 by decide),Ok!];have s5:=ov! kr! hx;have k5:=MK s5;show kk x t1 e xs _ (W4.same s5) #[a,EN! k5.BV ek1.BV vQ,EN! k5.BV ka.BV ea] (AC k5.BV (AC QO.BV ee)) (((((Qag sx:WH K H2 xs Jd!).keep (MK s3)).keep QO).keep k5)) (Nf! (P! s5 WB!)) Ab ma! (Nf! (Al WB! hx));have:=W4.hs;show MS? sM! hx;cases this
def Vv:Jcb Bs!:=UF (Qa1 ts hb)
inductive Gg(vs:C!)(H:Hp)(Q:VK)(E:XK):B!
 | mk (p t:Addr) (W:EL) (k s g:Int) (ts:E!) (q:Addr) (G:BZ) (n:Nat) (rs:R!) (_:GV!) (_:AS!) (_:JL5) (_:kZ!) (_:f8) (_:UR!) (_:Vk!) (_:V3!) (_:C9!) (_:FQ!) (_:P5!) (_:e6! Bs!) (_:FM!) (_:us! (j6! sA! (SA! (Bt (Ap G ts) rs).length) NW!) (rE H' W.c g L JrM))
def gB:A3! [DU!,G1!,"h"] EL! Hx:={}
def Jfp(F:a! "let_came" JX2 Hx)(T:Txt)(TW:F1)(M1:B8! C Fm! "House.let" m8 OJ! f1 d1)(G1:et! OJ! xO)(M2:JT4)(G2:JSw):rV! Gg:=by
 show mN! gB;.have#[p,t,W,k,s,g,ts,q,G,n,rs,rfl,_]:=h;rfl
 .have#[p,t,W,k,s,g,ts,q,G,n,rs,rfl,S,#[a,as0,et,ea,th],i,ok,zn,ck,cj,pm,pw,a_,zb,zl,kk]:=h;show C?;show Az?;show Ca? gB.nd Hc! (Cq! (JZR (kW! (JMp yY!))));show GS?;show#[L?,p,dx,_,A!,hp,LB!,_,A!,_,A!,p,CW,dx,_,_,A!,hp,v4,G7!,Dy W,_,A!,DS!,_,_,AK! q,A!,A!,Un!,i.VY,q,HM,_,A!,hq,Cu!,_,A!,t,_,4,LM!,A!,A!,Lc!,A!,q,a,QT? rs ts as0 ea th];show H8? Vv;show Nt?;show Pl?;(show Or? sA! sA! Vv);show#[QW? g];show kk y L H2 W2 b2 JJS gH JJT ey
open E
open E Lake.K66
open N Lake.K66F
open PySem L2 FX K66
def F4(h:n<=20000):XA!:=dG!
structure gE(H:Hp)(d:Addr)(L:MG!):B! where
 ob:OI! (.dK (CM! λq=>(W! O!,SB WP)))
 st:∀q∈L,WH K H WP BN!
open S
abbrev PD(H:Hp)(hl:HL):B!:=∀q∈hl,∃cs:X!,JIy WP/\CF H cs BN!
def PD.keep(k:BV!)(h:PD H hl):PD H' hl:=Aw! (let#[cs,e,th]:=dC!;#[cs,I4! e,cY! th])
open E
def Jgm(a:R!)(t:T2):((Ck (a.map FR!) (tk t)).getD (XV 0))=XV (Gs a t):=by rw[e0!];unfold Gs;cases N5! a.find? Da! with | none=>rfl | some r=>rfl
def Jqn(a:R!)(q:Dz!):CC! Ez! a q bX!:=by have lp:=Gz (a.map FR!) (tk O!) (XV (t3!+PP));rw[E3,ZA,ZA] at lp;show lp
def Jbl:∀(l a:R!),CC! XG! Ez! a (a.length+l.length)
 | [],a=>Bv!
 | q::l,a=>by have h1:=Jbl l (Ez! a q);have h2:=Jqn a q;change(XG! Ez! (Ez! a q)).length<=_;simp only[A_];lia
@[reducible]abbrev IA(L:MG!):Dn!:=CM! Ip!
def Qab{H:Hp}{d:Addr}{L:MG!}{i:Nat}{k:Key}{v:V}(h:Dc! ((CM! JhE)[i]?) k v):∃q,L[i]?=D! q/\v=SB WP:=by rw[ZH] at h;cases e:L[i]? with | none=>show AK? | some q =>show AR?;have h:((W! O!:Key),AK! WP)=(k,v):=ZO h;show#[q,A!,JtY h]
open S
def bS:Or! [CP!,"weights","state",CO!,Fl!] CP! Ia:={}
inductive Tr(vs:C!)(H:Hp)(Q:VK)(E:XK):B!
 | mk (d:Addr) (L:MG!) (_:vs=[GC!]) (_:gE H d L) (_:FD! JOK Ip! 1200) (_:∀(r:Addr)(H':Hp),aT!->db->Sj! r Dp OT!->YQ! r)
def Jfr{f:Addr}{fd:FuncData}(F:a! hJ! hJ! Ia):HZ! UO! Tr:=by
 show D? bS;have#[d,L,rfl,S,zl,k]:=h;show A?;show K?;show H6? bS.nd Fs JOd bS.nd (Af (JqE (Jg (Nu! KB)) (Qf A! (JhY 3 bS.nd (JhY 4 bS.nd Mo))) (JaX xL (JD0 No xL An!)))) (RL.XU (Af (OL! 1)));intro r XG;have s1:=cx! XG;have e1:Np! (S0! r []) r Dp []:=Ab;show I8? r;have vY:=Uh! S.ob;show OS? vY vY;have s2:=JXK;have e2:JD5 IF! IF!:=Ab;generalize Jq! H1 IF!=H2 at s2 e2;have ed2:=P! s2 vY;have qW:=L5! s2;have WW:r≠d:=λz=>by rw[z,S.ob] at XG;cases XG
 show#[p,d,_,A!,e2,ed2,λo=>?_];have kd:∀{H':Hp} {u:HO},JK! d JhL->DQ H' (IR H' d u):=λ{H'} {u} e=>VZ λo' e'=>by show j?;cases e';show#[Nx!,N0!]
 show Vt (d:=d) (ob:=o) (λi σ H'=>LW λ(u2:Option V)(u3:Option V)(u4:Option V)=>σ=[Um!,oO!,u2,u3,u4]/\JoO/\JLc ((IA (L.take i)).flatMap (·.2.2)).foldl/\DQ H2 H'/\JqY) #[_,_,_,A!,Ab,ys! qW,kd ed2,JWf s2 s1] (λi σ H' _ h9=>by have#[_,_,_,_,e,_]:=h9;show e) ?_ ?_;.rintro i kk v σ H3 hi ⟨u2,u3,u4,rfl,ef,er,kt,fr⟩;show PW?;have mq:=ZP eq;have UL:=BP! eq;have jG:=JXt s1 s2 kt;have#[y1,y2,y3,as,bs,ds,f0,f1,t1,f2,t2,f3,t3]:=jG;show LO? 2 y3 f0 y3 f3;(have KQ:Rv! (ww)=Rv! i++[q]:=Uy! eq);(have lT:A1! jW! Ip!+q.2.2.2.2.length<=1200:=by show Gr?;rw[e5,CY,ZE,KQ] at zl;rw[Jcg,CY,ZE] at zl;simp only[DF,J',AM] at zl;show AA K3! zl);show Ai? Sv K K a y3 xs ds (λj σ H'=>G_ λ(w3:Option V)(w4:Option V)=>σ=[Um!,oO!,y2!,w3,w4]/\JoO/\JLc (JrO++qZ!).foldl/\DQ H2 H'/\DQ H3 H'/\JqY) #[_,_,A!,ef,JKg er,kt,n6!,fr] (hl! (by have#[_,_,_,_,_,_,k3,_]:=h9;show k3.sq f3));(.rintro j v σ H4 hj ⟨w3,w4,rfl,jj,aO,QO,uJ,aM⟩;have#[x,ex]:=JFd q.2.2.2.2 zg!;have#[a,t,rfl,g1,g2]:=(Bf t3 j v x hj ex).keep uJ;have cu:=BP! ex;show FL? a g1;show#[n? r,A!,Ss! (W! aO),_,A!,_,GF.t (k:=tk BZ!) aO g2,_,A!,_,x.2,Jgm _ _,A!,_,A!,_,A!,r,_,A!,IW.t (k:=tk BZ!) aO g2 (by rw[ZA];have:=Jbl (JrO++qZ!) [];show U? ZE CO;simp only[BR] at this;show EQ! F4),?_];rw[E3];(have jT:∀u:HO,DQ H4 (IR H4 r u):=λu=>JZ! aO);show#[_,_,A!,L1! WW jj,?_,hW! (jT _),uJ.trans (jT _),X1! (jG! XG (FM aM e n))];(have e7:∀l:R!,(l++[x]).foldl Ez! []=Ez! (XG! Ez! []) x:=λl=>Db! P');(have e8:JJn++q.2.2.2.2.take (j+1)=(JJn++qZ!)++[x]:=by rw[DE,ex,<-AY];rfl);rw[e8,e7];show Ab);.rintro σ H4 ⟨w3,w4,rfl,jj,aO,QO,uJ,aM⟩;rw[zg!,B_] at aO;show#[_,_,_,A!,jj,?_,QO,aM];rw[KQ,Jcg,CY];simp only[DF,J',AM];show aO
 .rintro σ H3 ⟨u2,u3,u4,rfl,ef,er,kt,fr⟩;rw[ZA,B_] at er;show OO? (IR H3 d JhL);show ND?;show O? (k r _ XG (XJ! ?_) (ys! er));by_cases hb:b=d;(.show Lj?);.rw[Ad hb];show fr b ob e hb
open E
structure YF(L:Dn!):B! where
 nd:ze!
 rz:FD! D7! L 60
 hz:(NS! be).length<=800
 oz:∀r∈kb!,JDO
 tz:JAn Ip! 1200
abbrev C5(ws:R!)(L:Dn!):E!:=NS! λS=>S.1++((S.2.1.filter (JlM ws)).map be)
def Iy(ws:R!):∀L:Dn!,CC! C5 ws L (Sf! (JrV NS!) D7! L)
 | []=>by simp[C5]
 | S::L=>by have ih:=Iy ws L;have h:=JCI ws LR!;unfold C5 rowsOf at *;simp only[DF,ZE,ZA] at *;lia
def PU:t∈C5 ws L↔(∃S∈L,t∈S.1)\/∃r∈kb!,UU!/\FA!≠Gs ws h!:=by
 unfold C5 rowsOf;simp only[EB,NY,AN,AE];show b?;.rintro⟨S,hS,(h|⟨r,⟨hr,c⟩,e⟩)⟩;(.show E? #[S,hS,h]);.show G? #[r,#[S,hS,hr],e,TW!]
 .rintro(⟨S,hS,h⟩|⟨r,⟨S,hS,hr⟩,e,c⟩);(.show#[S,hS,LC!]);.show#[S,hS,v! #[r,#[hr,TW!],e]]
abbrev QY(hl:HL)(rows:Ae!):B!:=Fj! (qx!)=hm! λr=>(h!,BO!)
def QY.keys(h:vA!):QE! Fj! hm!:=j8! (FW! (X2! Prod.fst) h) AZ AZ
def QY.get(h:vA!)(nd:EH! hm!)(hr:r∈rows):B8 hl h!=BO!:=by
 have m:(h!,BO!)∈Fj! qx!:=S! h sw!
 show BS? Ee!;have e1:=(Rb! e).1;have e2:=rg!;unfold B8;rw[<-e1,JLp (l! Rw! nd)];show e2
def Jsg(nd:ze!)(h:JMe)(rc:JMP) : ∀t,oS!->(DT!↔MP!):=by
 have start:∀t,t∈C5 (Cu L) L->MP!:=AJ! (by rcases PU.mp ht with⟨S,hS,m⟩|⟨r,hr,e,c⟩;(.show Ki! hS m);.rw[<-e];show .out hr c)
 have row:∀t,Sz!->∃r∈kb!,UU!:=AJ! (by show d? Rw!;show E6?;show#[r,hr,e])
 have cl:Rc! MP!:=OL.least (S:=λt=>MP!) (λt lt u hu=>by have lH:=Dt! hu;show B? Sz!;(.show AQ? (row t c);subst e;have hu1:=lH.1;rw[h.get nd hr] at hu1;show Nb! hr hu1 lt);.exfalso;show Lr?;rw[this] at lH;show I? lH.1 (CA)) rc JjE (aL! start (Dt! ht).1);have closed:=OL.closed rc (UX!);have sub:=(OL.sub rc).2;have back:∀t,MP!->oS!->DT!:=λt lt=>by induction lt with | hand hS m=>show Lh? y! #[_,hS,m] | out hr c=>show Lh? AT #[_,hr,A!,c] | @step r u hr m _ ih =>intro ht;show closed _ (ih (BD! (Dg! hr))) u (Mf! #[S! (h.get nd hr) m,by rw[Rw!];simpa using ht])
 show AJ! #[λm=>cl t m,λl=>back t l ht]
def Jny(F:YF L)(h:JMe):G_ λn R=>n<=6000/\JMP:=by
 have lk:JDN Fj!:=pB! Rw! F.rz
 have ls:=Iy (Cu L) L;have l2:=BE (ab!) (C5 (Cu L) L);have sz:∀t,CC! R_ hl t 60:=λt=>by show AA jt! ?_;show B? Sz!;(.rw[Rw!] at c;show Cx? c;rw[<-e,h.get F.nd hr];show F.oz r hr);·show Lr?;show M?;simp
 have:=F.rz;have:=F.hz;have#[n,R,h1,h2]:=OL.ex (nx:=R_ hl) (keys:=JlX) (B:=60) (Jo5 hl) sz 6000 ((C5 (Cu L) L).filter ab!) [] (EE! (JmX ht)) (by have:JKn (Fj! be).filter:=cu! lk;have:=EV (60+1) this;lia);show#[n,R,h1,h2]
open S
def U_:Or! [CP!,"weights",wn,NO!,"state",CO!,"out",Rn!,"kept"] CP! Gi:={}
inductive OI(vs:C!)(H:Hp)(Q:VK)(E:XK):B!
 | mk (d:Addr) (L:MG!) (_:vs=[GC!]) (_:gE H d L) (_:YF (IA L)) (_:Jcm L)
def QY.snoc(h:vA!)(r:Dd!)(a:Addr):QY (hl++[(h!,a,BO!)]) (rows++[r]):=by unfold QY at *;rw[ZF,ZF,h];rfl
def VT(F:a! hI! hI! Gi)(T:Jxy)(MR:JVp)(MD:JTL fD dD):LU! UO! OI:=by
 have GR:E6! fR dR [NO!,wn] P8:=U0 MR.fn;have GD:E6! fD dD UO! Tr:=Jfr MD.fn;show D? U_;have#[d,L,rfl,S,fi,k]:=h;show A?;show K?;show Q?;show H5? I6! (Ky! GD GZ MD.mg MD.fn.kp MD.bd TM!) I6! Fs (p1! I6! H0! JOd I6! (Z1! (JRA Jh7 xL (Nu! An!)) (JL0 An! 5 I6! 6 I6! 7 I6! (JKZ CV! O7! (Af (YR! kC FN! (Uv hu No CV! Ag JG!) (af! xL CV!)))))) (RL.XU (Ac (zE! 8 I6! (Ky! GR GZ MR.mg MR.fn.kp MR.bd (OH! KB))) (Cq! (l2! (if! Jc! (bz! 8) (C6 (JjY C0 T.sorted KB)) ZD! (λy h=>FX.QX BR! h) ZG! rx! (pv 0)))))));show#[n? d,L,A!,S,fi.tz,λws H1 hws s1 ew=>?_];intro hd jZ;have s2:=cx! jZ;have e2:tu! (E4! H1 hd BA! []) []:=Ab;generalize E5! H1 hd BA! []=H2 at s2 e2;show#[o0,λsl fJ=>?_];show Ea? fJ;have e3:Nr! (E4! H2 sl Ai! []) sl []:=Ab;generalize q5! sl=H3 at s3 e3;have cF:=fK!;have ew3:=EN! s3 s2 ew;have eh3:=FK! e2;have p8:BJ! hd:=C4 s1 jZ;have p7:BJ! sl:=C4 s1 (C4 s2 fJ);have nwh:ws≠hd:=Al ew jZ;have p5:ws≠sl:=Al (AC s2 ew) fJ;have uC:hd≠sl:=Al e2 fJ;have fY:=P! cF S.ob;have uF:hd≠d:=λz=>by rw[z,S.ob] at p8;cases p8
 have aF:sl≠d:=λz=>by rw[z,S.ob] at p7;cases p7
 have ndw:ws≠d:=λz=>by rw[z,S.ob] at hws;cases hws
 show OS? fY fY;have s4:=JXK;have e4:PG! H3 IF! IF!:=Ab;generalize Jq! H3 IF!=H4 at s4 e4;have ed4:=FI! fY;show#[p,d,_,A!,e4,ed4,λo=>?_];have JGV:∀i,D7! Y2!=jW! Go!:=λi=>rfl;have pU:∀{i:Nat} {q:Int×Addr×HS},L[i]?=D! q->IA (Rv! v6)=IA (Rv! i)++[BN!]:=λ{i q} eq=>by rw[DE,eq];change X2! _ (Rv! i++[q])=_;rw[ZF];rfl
 show Vt (d:=d) (ob:=o) (λi σ H'=>yH λ(u4:Option V)(u5:Option V)(u6:Option V)(u7:Option V)(hl:HL)(as:List Addr)=>JcS [Um!,y0!,b4!,y1!,u4,u5,u6,u7,none] (QY hl (D7! Y2!)) (CF H' as (C5 OT! Y2!)) H4) #[_,_,_,_,[],[],A!,Ab,oJ! ndw ew3,oJ! uF eh3,A!,(JN9),oJ! aF e3,U!,VZ (λo' e'=>by rw[ed4] at e';cases e';show#[Nx!,N0!]),JWf s4 cF] (λi σ H' _ h9=>by have#[_,_,_,_,_,_,_,e,_]:=h9;show e) ?_ ?_;.rintro i kk v σ H5 hi ⟨u4,u5,u6,u7,hl,as,rfl,ef,ew5,vW,cO,uk,l_,cE,jT,ak⟩;show PW?;have mq:=ZP eq;have eW:=JXt cF s4 jT;have#[y1,y2,y3,MJ,bs,ds,f0,f1,t1,f2,t2,f3,t3]:=eW;(have kS:D7! (IA L)=mK!++(ik!++D7! (IA (L.drop v6))):=by show Gr?;rw[e5,pU eq];unfold rowsOf;simp only[CY,DF,J',AM,AY]);(have yK:wv JOK=wv jW!++(q.2.2.1++wv (IA (L.drop v6)).flatMap):=by show Gr?;rw[e5,pU eq];simp only[CY,DF,J',AM,AY]);have zr:=fi.rz;have zh:=fi.hz;have ls:=Iy OT! Y2!;have lth:=Bf! cE;show Ez? t1;rw[kS,ZE,ZE] at zr;rw[yK,ZE,ZE] at zh;have nd:=fi.nd;rw[kS] at nd;show#[L?,Od! l_,_,A!,WP,_,0,AK! y1,A!,A!,f0,A!,sl,y1,_,_,A!,A!,l_,f1,AV (F4 (by rw[ZA,ZA];lia)),?_];rw[<-ZF];(have fE:DQ H5 fL!:=JZ! l_);(have c7:JR6 H5 (b≠sl) fL!:=xU!);have l8:JCY fL! (X3!).map:=Ab;have aA:CF fL! (X3!) (JT7++q.2.2.1):=Kb! fE (yC cE t1);generalize IR H5 sl (JB! (X3!).map)=H6 at fE c7 l8 aA;show LO? 1 y2 (fE.sq f0) y2 (fE.sq f2);show Ai? Sv K K a y2 xs bs (λj σ H'=>bO λ(w5:Option V)(w6:Option V)(w7:Option V)(hl:HL)(as:List Addr)=>JcS [Um!,y0!,b4!,y1!,y2!,w5,w6,w7,none] (QY hl (JNw)) (CF H' as ((JT7++q.2.2.1)++SW! (JkV j).filter (JlM OT!))) H6) #[_,_,_,hl,X3!,A!,Lf! c7 ef aF,Uk! ew5 p5,Uk! vW uC,JKg cO,uk.keep fE,l8,by rw[OS];simpa using aA,n6!,X1! (Uk! (ak _ _ e n) (Al e p7))] (hl! (by have#[_,_,_,_,_,_,_,_,_,_,_,_,_,k3,_]:=h9;show(fE.trans k3).sq f2));(.rintro j v σ H7 hj ⟨w5,w6,w7,WE,mI,rfl,vX,vO,ji,YA,ij,vR,gM,lC,T_⟩;have#[r,er]:=JFd ik! zf!;have#[a,t,ha,cs,rfl,g1,g2,g3,g4]:=(Bf t2 j v r hj er).keep (fE.trans lC);have cu:=BP! er;(have KQ:rC!=JnJ++[r]:=Uy! er);(have fC:h!∉wv WE.map:=by rw[YA.keys];intro z;have e9:ik!=rC!++q.2.2.2.1.drop (j+1):=(GN _ _).symm;rw[e9,KQ,<-AY,<-AY,<-AY,AY (mK!++JnJ++[r])] at nd;(have cZ:EH! (JNw++[r]).map:=by rw[ZF] at nd;show Uj! nd);rw[ZF] at cZ;show JC7 h! z h! Ch A!);(have lh:WE.length<=60:=by show Cn? YA.keys;rw[ZA,ZA,ZE,CO] at this;lia);have lf:=JCI OT! (JkV j);rw[CO] at lf;have la7:=Bf! gM;rw[ZE,ZE,ZA] at la7;show Lp? a g1;show#[L?,_,A!,_,A!,hd,_,A!,iY! h! ji g2 (F4 (AA lh Op)),?_];rw[Ml (DN! ha) (λq hq z=>JCH fC)];rw[show(WE.map J4!)++[(tk h!,AK! ha)]=(LV!).map J4! by rw[ZF];rfl];show KU? vY! ji;(have jd:JR6 H7 (b≠hd) vY!:=xU!);have vU:tu! vY! JkR:=Ab;show Cf? (br! (LV!).map J4!=Fx (LV!));generalize E5! H7 hd Fx JkR=H8 at aZ jd vU;(have oG:PD H8 (LV!):=λq' YR=>by rcases ZI YR with YR|YR;(.show(ij.keep aZ) q' YR);.rw[ZK YR];show#[cs,aZ.sq g3,Lr! aZ g4]);(have oI:QY (LV!) (mK!++rC!):=by rw[KQ,<-AY];show YA.snoc r ha);have qS:=FM jd vO nwh;have qV:=Lf! jd vR uC;have ef8:=Lf! jd vX uF;have g28:=P! aZ.BV g2;have kO:=Lr! aZ gM;show#[e?,A!,ws,A!,Ss! (W! qS),_,A!,_,GF.t (k:=tk h!) qS g28,?_];rw[Jgm];show#[A!,_,A!,?_];show Fm?;(·(have c:¬JEK:=λz=>by rw[z] at c;simp at c);show#[A0? (Od! qV),A!,sl,_,_,A!,A!,qV,F4 (Jk!),?_];(have qD:DQ H8 (ZL! H8 sl (LG! mI.map) (DN! t)):=JZ! qV);show#[_,_,_,LV!,mI++[t],A!,L1! aF ef8,WF p5 qS,WF uC vU,oI,oG.keep qD,sg!,?_,Lj! lC.trans aZ qD,X1! (jG! p7 JcM)];rw[KQ,LB,ZF,<-AY];(have jk:JSb=[r]:=by simp[c]);rw[jk];show Ji (Kb! qD kO) (AC qD.BV g28));·show FY? JEK;show#[_,_,_,LV!,mI,A!,ef8,qS,vU,oI,oG,qV,?_,lC.trans aZ,X1! JcM];rw[KQ,LB];(have jk:JSb=[]:=by simp[c]);rw[jk,AM];show kO);.rintro σ H7 ⟨w5,w6,w7,WE,mI,rfl,vX,vO,ji,YA,ij,vR,gM,lC,T_⟩;rw[zf!,B_] at YA gM;show#[_,_,_,_,WE,mI,A!,vX,vO,ji,?_,ij,vR,?_,Lj! jT.trans fE lC,T_];(.rw[pU eq];unfold rowsOf at YA ⊢;simp only[CY,DF,J',AM];show YA);.rw[pU eq];unfold C5 at gM ⊢;simp only[CY,DF,J',AM];rw[AY] at gM;show gM
 .rintro σ H5 ⟨u4,u5,u6,u7,hl,as,rfl,ef,ew5,vW,cO,uk,l_,cE,jT,ak⟩;rw[ZA,B_] at cO cE;show OO? JUU;show ND?;(have s6:Cp! QX!:=XJ! (by by_cases hb:b=d;(.show Lj?);.rw[Ad hb];show ak b ob e hb));(have sq6:∀{b:Addr} {xs:C!},Oa! H5 b->Oa! QX! b:=λ{b xs} z=>by rcases z with(z|⟨ob,z⟩)|z;(.show y! (y! (l! (Ad (JWJ)) z)));(.show y! (AT #[ob,ia! JWJ z]));.show G? z);have aA:∀{as:X!} {ts:E!},CF H5 as ts->CF QX! as ts:=λ{as ts} z=>Ax (λb t e=>ia! (λy=>by rw[y,ef] at e;cases e) e) z;(have oH:PD QX! hl:=Aw! (by have#[cs,e,t]:=uk q hq;show#[cs,sq6 e,aA t]));have nQ:=aA cE;(have l8:w! QX! sl FF!:=WF aF l_);(have vV:tu! QX! hl:=WF uF vW);clear sq6 aA;generalize JUU=H6 at s6 oH nQ l8 vV;have#[n,R,zn,rc]:=Jny fi cO;have ls:=Iy OT! (IA L);have zr:=fi.rz;have zh:=fi.hz;(have lh:hl.length=(D7! (IA L)).length:=by show Cn? X4!;show U? ZA ZA;show this);show#[e?,A!,sl,hd,as,_,hl,n,R,A!,l8,nQ,Q!,vV,Aw! #[?_,let#[cs,e,t]:=oH q hq;.t cs e t],rc,zn,λx H7 hx s7 ex=>?_];(·(have m:O!∈JAV:=JKU X4! hq);(have e8:B8 hl O!=BN!:=pb! (JLp (l! X4! fi.nd)));have#[r,LV,e]:=Ee!;rw[<-e,cO.get fi.nd LV] at e8;rw[<-e8];show B0? (fi.oz r LV));have ji:=P! s7 vV;have#[so,pm,pw]:=FX.sorts (λt:T2=>t) (l:=JAV) (l! LN fi.nd);(have pw:so.Pairwise LI:=by simpa using pw);(have dr:Rd H7 hd (BA! ((Fj! JAW).map jc!)):=by (have e:((Fj! JAW).map jc!)=Fj! J4!:=Li!);rw[e];show E? ji);show#[L?,hd,_,so,A!,dr,JP0 (lh▸zr),?_,pw,λr2 WG NS WB=>?_];(.rw[AZ];change so.Perm (Fj! be);rw[X4!];show pm);have s8:=JRu;have e8:JQq (IR H7 r2 (JB! WG.map)):=Ab;have kO:=jg! s8 WB;generalize JSE H7=H8 at s8 e8 kO;have ex8:=P! s8 ex;show DC? r2 e8 (λp2 IU=>?_);(have lso:so.length<=60:=pB! pm.length_eq zr);show Qw (b:=λt=>qB!) (AM!:=bz! 8) IU (jw! lso) e8 kO (λH9 a t Q' sm ha ht q=>?_) λH9 bs sm ea tb=>?_;(.show#[L?,_,A!,x,_,A!,Ms (AC sm ex8) ha,_,A!,?_];show B? DT!;(.rw[AF c];rw[show CA! qB! by simp[c]] at q;show q);.rw[AD c];rw[show Ac! qB! by simp[c]] at q;show q);.show Fo? p2 ea (λtt htt=>?_);have s9:=JJH htt;show k tt bs _ _ (KF! s6 s7 (KF! s8 sm s9)) Ab (lz! s9 tb) #[pw.filter _,bP!];have li:=Jsg fi.nd cO rc;rw[AE];show b?;(.show BX?;have m:=Xv! h1;show#[m,λz=>by rw[(li t m).mpr z |> AI] at h2;simp at h2]);.show BX?;show#[JgH h1,by have:t∉R:=HT! h2 (li t h1).mp;simp[this]]
open E
open E Lake.K66F
open N Lake.FX
open PySem PySem.Spec PyProof.Rows L2
def Uy:∀{es:bn!} {vs:yN!} {ns:i!},JYp->JSg Mt!->JWw es.map
 | _,_,ns,.nil,e=>by cases ns with | nil=>show U! | cons n ns=>cases e
 | _,_,ns,.cons (e:=d) (kv:=kv) h _ t,e=>by cases ns with | nil=>cases e | cons n ns =>have e:Gg!::_=U5!::BC! Bm!:=e;have#[e1,e2]:=List.cons.inj e;have ih:=Uy t e2;rcases As! Cw k Gg! v d.key h with⟨i,tk,e3,e4⟩|⟨x,tk,e3,e4⟩;(.rw[e1] at e3;have:n=i:=XV! e3;rw[AO,e4,<-this];show am n tk ih);.rw[e1] at e3;cases e3
def Jqo{es:Dp!}{acc:BT!}(ha:JaQ):acc.toList=RY! Rx!:=by
 show KP?;·show Kp?;show Ng?;(have e5:JH8:=by simp[hj]);rw[e5] at e3;cases e3;(have h2:JOi:=by simp[h1]);(have h3:JH7:=by simp[hj]);rw[h2,ZH,h3,e4];rfl
 .rw[DY (JTm),DY (by rw[ZA,DR];show IV! Am!)]
open S
variable {X:Cx Kx}
inductive N4(xs:C!)(H:Hp)(Q:VK):B!
 | mk (d:Addr) (kvs:BU!) (ns:i!) (_:c3!) (_:Vg!) (_:JSg FY!) (_:ns.length<64) (_:JZ9 i! JJo (Ai! (X5! AU!)))
def Py(hc:BY!):Vc! N4:=by
 show CQ?;have#[d,kvs,ns,rfl,hd,ek,UW,q]:=h;show Fz?;show J?;have#[z,lo,vs,rel,o,es,ep,g1,g2,g3,g4,g5,g6]:=kQ! Vf! hd;have ev:∀{a:BU!} {b:yN!},KV a b->QE! b.map a.map:=λ{a b} r=>by induction r with | nil=>rfl | cons h _ ih=>rw[AO,AO,ih,bn]
 have hI:JWw RY!:=Uy g5 (GJ! (ev rel) ek);have hl:es.size=ns.length:=JEh (IntsAre.length hI) DR
 show v4! (by show D6?;show Oe? vX! (by rw[hl,CQ];show lM!);rw[Jqo ha];show JJ?;show ZR (JLa ?_ (by rw[ZA,DR,hl,CQ];show lM!));have e1:w! (h1.push (XL! Eo! (JBk Rx!) 0)).get? Gr! (j9! RY! Rx! 0):=EP!;show S? EO (DB slot_list_sort (Dg! e1) entry_list_sort (list_sort_tree e1 hI (by rw[ZA,DR,hl];show UW) λout ms a1 a2 a3=>Bj! ?_) (args_list_sort _));show GB?;have#[c,ec]:=sortedHeap_at (out:=out) e1;(have old:∀b ob,Zj! Md!->Zj! (sortedHeap (h1.push (XL! Eo! (JBk Rx!) 0)) Gr! (RY! Rx!) out).get?:=λb ob hb=>by have JK:=AU hb;rw[sortedHeap_old (BU JK) (aS! size_push' Nat.lt_succ_of_lt JK)];show F6! hb);show GE? (ZX! I1.laid Gr! (Ai! (X5! AU!)) tk old Bh! (JcK Jah)) (q _ ms hn a2 a3);rw[ZA,a2.length_eq,CQ];show HQ?)
open E
open E Lake.FX
open N Lake.K66F
open PySem L2 FX K66
abbrev iN(os:Ad!):C!:=DR! λk:Nat=>AO! JU!
def Jwz(n:Nat):EI! rg n AU!=JIj:=by unfold rg iN;rw[AZ];rfl
def Jky{L:MG!}{h:Int}(n:h∉ZZ!):JJz CM! Nz!:=by
 unfold Ck;show Cq? XO!;.rfl
 .intro q hq z;(have z:SY! O!=LC!:=xx!);injection z with z;show JCH n
def q1:oa! G5!:=ZV
def q2:oa! Fn!:=ZV
def q3:oa! CP!:=ZV
def q4:zN! G5!:=ZV
def q5:zN! Fn!:=ZV
def q6:YK! Fn! G5!:=ZV
abbrev G8(m:Int)(sd fd cd:Addr):EX!:=dM! G5! cd (As Fn! (EQ fd) (h2! CP! sd Iz! (Az! m) []))
open S
def Jkf:Z3! (G8 m sd fd cd).lookup Iz! (Az! m):=by unfold G8;rw[Bj,AD q1,Bj,AD q2,Bj,AD q3,Bj,Aq!]
def Jbm:qA! CP! sd:=by unfold G8;rw[Bj,AD q4,Bj,AD q5,Bj,Aq!]
def Pj:qA! Fn! fd:=by unfold G8;rw[Bj,AD q6,Bj,Aq!]
def Qv:qA! G5! cd:=by unfold G8;rw[Bj,Aq!]
def Y'{x:Str}(h1:¬x=G5!)(h2:¬x=Fn!)(h3:¬x=CP!)(h4:¬x=Iz!):B7! (G8 m sd fd cd).lookup x:=by unfold G8;rw[Bj,AD h1,Bj,AD h2,Bj,AD h3,Bj,AD h4];rfl
open E
structure Iq where
 m:GE
 sd:G!
 fd:G!
 cd:G!
 ss:BU!
 fs:BU!
 cs:BU!
structure HW(H:Hp)(p:Addr)(I:Iq):B! where
 ob:∃dx,JDV JrA
 s:aU! Ft! I.ss
 f:aU! D9! I7!
 c:aU! E2! I8!
 sf:I.sd≠I.fd
 sc:I.sd≠I.cd
 fc:I.fd≠I.cd
def HW.keep(x:QZ!)(k:JqZ (b=p) (∀o,EK!->LY!)):sP! :=#[Jo! (k p HW! _ e),k _ Py! _ x.s,k _ (CB! Py!) _ x.f,k _ (CB! p2!) _ x.c,x.sf,x.sc,x.fc]
def HW.same(x:QZ!)(s:db):sP!:=x.keep λb _ o e=>s b o e
open S
inductive PK(vs:C!)(H:Hp)(Q:VK)(E:XK):B!
 | mk (p dx:Addr) (n:Int) (_:ca!) (_:JDV []) (_:∀(H':Hp)(I:Iq),r1!->sP!->I.m=n->I.ss=[]->I.fs=[]->I.cs=[]->BJ! Ft!->BJ! D9!->BJ! E2!->JO!)
def Jy3:A3! L7! L7! Ue:={}
def VQ(F:Uq! JXj Ue)(T:dM):HZ! L7! PK:=by
 show D? Jy3;have#[p,dx,n,rfl,hp,k]:=h;show A?;show#[_,Ac JBK (Ac kA! JQx),?_];have l1:=Ba Iz! N2! [];show#[_,A!,_,A!,p,CI,dx,[],A!,hp,q!,T.nM,iD! (0<1000),λd1 h1=>?_];have fA:p≠d1:=Al Ab h1;have l2:=λv=>Ba CP! v (As Iz! N2! []);show O5? fA T.nS (by show EI?;show LT!) (λd2 h2=>?_);have jN:p≠d2:=Al Ab h2;have l3:=λv u=>Ba Fn! u (As CP! v (As Iz! N2! []));show O5? jN T.nF (by have:=On! l2 d1;show EI?;show LT!) (λd3 h3=>?_);have ki:p≠d3:=Al Ab h3;show H0? CI ki T.nT (by have:=On! l2 d1;have:=l3 (EQ d1) (EQ d2);show EI?;show LT!);have g1:BJ! d1:=by rw[ME!] at h1;show h1
 show No? ME!
 have g2:BJ! d2:=by rw[U6!,h9! cb,U6!] at h2;show h2
 show MM? U6!
 show Np? ME! ME!
 have g3:BJ! d3:=by rw[cd!,h9! gV,cd!,h9! gX,cd!] at h3;show h3
 show k _ #[n,d1,d2,d3,[],[],[]] (Rj! ?_) #[FB! Ab,?_,?_,?_,cb,gX,gV] A! A! A! A! g1 g2 g3;.have m1:=Al e g1;have m2:=Al e g2;have m3:=Al e g3;rw[EZ!,Ad m3,EZ!,Ad m2,EZ!,Ad m1,EZ!];show e
 .rw[ME!,Ad gX,ME!,Ad cb,ME!];show Ab
 .rw[U6!,Ad gV,U6!];show Ab
 .rw[cd!];show Ab
inductive ZW(vs:C!)(H:Hp)(Q:VK)(E:XK):B!
 | mk (p:Addr) (I:Iq) (h t:Int) (v:V) (_:vs=[Cm!,F2!,Ix t,v]) (_:QZ!) (_:xV!) (_:xW!) (_:∀H',HW H' p { I with ss:=Dx! I.ss Nz! v,fs:=JQJ I7! }->(DG! (EK!->b≠I.sd->b≠I.fd->LY!))->zO! (de! (oJ (putK I.fs (.inl h) (.int t)).length) I.m))
def tU:A3! UC! UC! O1:={}
def bz(F:a! "first" JXk O1)(T:dM)(hl:Pt!):HZ! UC! ZW:=by
 show D? tU;have#[p,I,h,t,v,rfl,S,zf,zs,k]:=h;show A?;show K?;show C?;show I0? (am! xL Jcx);have npf:p≠I.fd:=t2! S.f
 have nps:p≠I.sd:=t2! S.s
 show Kw? T.nF Pj D9! S.f zf;show KD? JRB npf
 have s1:ub! Ft! I.ss:=WF S.sf S.s
 have c1:ub! E2! I8!:=L1! S.fc S.c
 have f1:ub! D9! mU!:=Ab;have k1:JML JRB:=λb o e _ n=>JmQ
 show HG? D9! mU!;show#[AG?,EO? CI dx IJ q! T.nS Jbm Ft! (Zo! k0! s1 (F4 (jw! zs)))];have IU:N3! JlH (R5! CI JrA):=WF nps IJ
 have s2:pr! Ft! Jin:=Ab;have c2:pr! E2! I8!:=L1! S.sc c1
 have f2:pr! D9! mU!:=L1! S.sf f1
 have k2:JML JlH:=λb o e n1 n2=>WF n1 (k1 b o e n1 n2)
 generalize E5! H1 Ft! .dK Jin=H2 at IU s2 c2 f2 k2;show#[La? IU T.nF Pj D9!,_,A!,f2,_,A!,p,CI,dx,_,_,A!,IU,q!,T.nM,Jkf,A!,k H2 #[FB! IU,s2,f2,c2,S.sf,S.sc,S.fc] k2]
inductive WS(vs:C!)(H:Hp)(Q:VK)(E:XK):B!
 | mk (p:Addr) (I:Iq) (h t:Int) (_:Ya! F2! (Ix t)) (_:QZ!) (_:xX!) (_:∀H',HW H' p { I with cs:=JQJ I8! }->(ar! hn!)->zO! (de! (oJ (putK I.cs (.inl h) (.int t)).length) I.m))
def jH:A3! Ty! Ty! Ki:={}
def aV(F:a! "second" JXm Ki)(T:dM)(hl:Pt!):HZ! Ty! WS:=by
 show D? jH;have#[p,I,h,t,rfl,S,zc,k]:=h;show A?;show K?;show C?;show I0? Jcx;have npc:p≠I.cd:=t2! S.c
 show Kw? T.nT Qv E2! S.c zc;show KD? JRC npc
 have s1:uc! Ft! I.ss:=WF S.sc S.s
 have c1:uc! E2! JrL:=Ab;have f1:uc! D9! I7!:=WF S.fc S.f
 have k1:DG! (EK!->hn!->Fx! JRC):=λb o e n=>JmQ
 show HG? E2! JrL;show#[La? IJ T.nT Qv E2!,_,A!,c1,_,A!,p,CI,dx,_,_,A!,IJ,q!,T.nM,Jkf,A!,k H1 #[FB! IJ,s1,f1,c1,S.sf,S.sc,S.fc] k1]
structure Full(I:Iq)(n:Nat)(f c:Eg!)(a:MB!):B! where
 ks:∃os:Ad!,jF! os.Perm n/\wv I.fs.map=DR! λk:Nat=>SY! JU!
 fs:JMd I7! f
 cs:JMd I8! c
 ss:∀k<n,LX! Ck I.ss JU!=D! (.ref (a k))
abbrev Di(n:Nat)(f c:Eg!):Ad!:=(List.range n).filter λk=>N9! (f k) c k
def Jk3:∀{ms:i!} {n:Nat},ms.Perm (rg n)->JJo->ms=rg n:=λ{ms n} pm pw=>by (have pr:(rg n).Pairwise (·<=·):=by unfold rg;rw[HH];show uv! (RD! (AV h)));show pm.eq_of_pairwise (λa b _ _ h1 h2=>hc! h1 h2) pw pr
inductive VM(vs:C!)(H:Hp)(Q:VK)(E:XK):B!
 | mk (p:Addr) (I:Iq) (n:Nat) (f c:Eg!) (a:MB!) (_:GW!) (_:QZ!) (_:PQ!) (_:JVQ) (_:JJF JSL)
def Jys:Va! O0:={}
abbrev Jwc:TT:=Og (VW jJ (mS! Fn!) (mS! G5!))
def bx(F:a! "still" JXo O0)(T:dM)(hso:cb!):P0! VM:=by
 show D? Jys;have#[p,I,n,f,c,a,rfl,S,hz,fu,k]:=h;show A?;show K?;show C?;show Ag? (Jfx Jwc KE! (C6 (JjY Py hso Aa!)) (Kz! (Es (Av Cj mF! mF! YL!))));have#[os,pm,ek]:=fu.ks;have lo:os.length=n:=A5! pm.length_eq DL
 show#[o?,CI,dx,_,_,A!,hp,q!,T.nF,Pj,D9!,I7!,DR! (nc!),A!,S.f,EJ! ek AZ,JP0 (lo▸hz),λr ms LV tw pw=>?_];have em:ms=rg n:=Jk3 (tw.trans (NC! _)) pw;subst em;rw[Jwz];have s1:=ov! a0! LV;have e1:Nr! (YX! r a0!) r a0!:=Ab;show EB? (OB! H r a0!);show DC? r e1 Ec!;show NT! Dz K K a r xs JIj tt Jwc te Jc! AM! KE! (λi ys H'=>YM! H' l/\CG H1 H'/\ys=iN (Di i f c)) #[Ab,Aj hl,A!] (λi ys H' _ z=>aP! z.2.1 e1 Ah!) ?_ ?_;.rintro i v ys H2 N hi ⟨el,s2,rfl⟩ hN;have UL:=BP! hi;show Mi?;rw[li] at UL;(have hi:AO! cr=v:=by unfold iN at hi;rw[ZH,JrS UL] at hi;show ZO hi);subst hi;have aD:=dp!;have S2:=JN! aD;show Au?;(have gf:JZf D9! f:=JTR S2.f fu.fs);(have gc:JZf E2! c:=JTR S2.c fu.cs);(have BM:(Di i f c).length<=i:=JIh (DH! i));(have st1:Di (ww) f c=Di i f c++So! fN! [i] []:=by unfold Di;rw[FU,LB];congr 1;by_cases z:fN!;(.rw[AF z];simp[z]);.rw[AD z];simp[z]);show#[FH? CI LK,A!,IU,q!,T.nF,Pj,_,A!,D9!,_,A!,gf,_,A!,p,CI,LK,Cc? _ IU q! T.nT Qv _ A! E2! _ gc A!];show Nr (Cx!) (Cx!);(·(have z:fN!:=by have:=BI z;injection this);show#[_,A!,el,F4 (by unfold iN;rw[ZA];lia),ae! Ab JR5];rw[st1,AF z];unfold iN;rw[ZF];rfl);.have z:¬fN!:=λy=>z (Yn! y);show ae! el s2;rw[st1,AD z,AM]
 .rintro ys H2 ⟨el,s2,rfl⟩;show Mi?;rw[li] at el;show k l H2 (C4 s1 hl) (Ai s1 s2) el
abbrev NG(n:Nat)(f c:Eg!)(a:MB!)(S:Eh!):MG!:=(Di n f c).map JMc
inductive SY(vs:C!)(H:Hp)(Q:VK)(E:XK):B!
 | mk (p:Addr) (I:Iq) (n:Nat) (f c:Eg!) (a:MB!) (S:Eh!) (_:GW!) (_:QZ!) (_:PQ!) (_:JVQ) (_:(∀k<n,WH K H (a k) (S k))) (_:YF (IA JSS)) (_:Jcm JSS)
def bY:TD! [DU!,CP!,"h"] Kj:={}
def Jqy{a:MB!}{S:Eh!}{ks:Ad!}{k:Nat}(h:k∉ks):JJz (RC! JMc).map (BK! JU!):=by show Jky Th!;rw[AZ] at m;have#[j,hj,e]:=Ee!;have e:Ct!=JU!:=e;show Ud! h (show k=j by show NZ! BB!) hj
def Jm9(n:Nat)(f c:Eg!):(Di n f c).Nodup:=JgI _
def aW{f fS fU:Addr}{fd dS dU:FuncData}(F:a! "result" JXp Kj)(T:dM)(MS:B8! CI "still" JXo O0 A4! fS dS)(GS:E6! fS dS A4! VM)(MU:JTK fU dU)(GU:EM 2 fU dU UO! (OI)):aC! A4! SY:=by
 show D? bY;have#[p,I,n,f,c,a,Sf,rfl,S,hz,fu,st,fi,k]:=h;show A?;show K?;show Q?;show CE?;show C?;show H6? bY.nd Fu (C6 (jQ! bv q! MS.mt GS GZ MS.bd A8)) bY.nd (JaX KB qS!) (Cq! (Ky! GU NS MU.mg MU.fn.kp MU.bd Tn!));intro d hd;have s1:=cw! hd;have e1:ST! (ib! d []) d []:=Ab;show EB? (E5! H d .dK []);show AN?;show T?;show#[L?,p,HM,_,A!,IJ,Y' ZV ZV ZV ZV,p,I,n,f,c,a,A!,S1,hz,fu,λl H2 hl s2 el=>?_];show DC? l el ?_;have jO:d≠l:=λz=>by show X? z;rw[e1] at hl;cases hl
 have ls:A1! iN (Di n f c)=(Di n f c).length:=by unfold iN;rw[ZA]
 have lz:(Di n f c).length<=n:=JIh (iQ! n)
 show Kw (K:=K) (a:=l) (xs:=iN (Di n f c)) (λj σ H'=>∃u2,σ=[AP!,Um!,u2]/\db/\JSL/\ST! H' d (((Di n f c).take j).map (λk:Nat=>(JU!,a k,Sf k)) |>.map JhE)) #[_,A!,dp!,el,L5! s2] (hl! (by have#[_,_,_,z,_]:=h9;show Co! z)) ?_ ?_;.rintro j v σ H3 hj ⟨u2,rfl,s3,fX,fY⟩;have cu:=BP! hj;rw[ls] at cu;have#[kk,qY]:=Aw (xs:=Di n f c) cu;(have hj:AO! bs!=v:=by unfold iN at hj;rw[ZH,qY] at hj;show ZO hj);subst hj;have mk:=ZP qY;have hk:kk<n:=JHl mk;show F1?;show BW?;(have gs:GF H3 Ft! (Az! bs!) (re (.ref (a kk))):=JnE bs! S3.s (fu.ss kk hk));(have fC:kk∉(Di n f c).take j:=λz=>by have#[i,hi,e]:=List.mem_iff_getElem.mp z;rw[CO] at hi;rw[List.getElem_take] at e;have e3:=(ZJ qY).2;have:=(MW (Jm9 n f c)).mp (e.trans e3.symm);lia);show#[L?,p,CI,SD,_,_,A!,RJ,q!,T.nS,Jbm,_,A!,Ft!,_,A!,gs,_,A!,_,A!,d,_,A!,Zo! (W! bs!) fY (F4 (by rw[ZA,ZA,CO];lia)),?_];rw[Ih _ (Jqy fC)];show#[_,A!,JIo hd,L1! jO fX,?_];rw[Ab,DE,qY];simp only[Option.toList_some,ZF,AO,EZ]
 .rintro σ H3 ⟨u2,rfl,s3,fX,fY⟩;rw[ls,B_] at fY;show#[n? d,NG n f c a Sf,A!,#[fY,B0!],fi,λx as ts H4 s4 ex th fo=>k x as ts H4 (Ai s3 s4) ex th fo];have#[j,hj,rfl]:=ZN hq;show(st j (Gq! (Dt! hj).1)).keep (MK s3)
open E
open E Lake.K66F
open N Lake.K66
open PySem L2 FX
def Jj:∀{R U:E!},R.Nodup->(Rc! (t∈U))->R.length<=U.length
 | [],U,_,_=>AL!
 | a::R,U,nd,h=>by show AS?;have ha:=C7! a;have ih:=Ce! Jj R R U (U.erase a) OJ.2 (AJ! (JSD (JhP OJ.1 ht) t (BL! ht)));rw[JV0 ha] at ih;have:=LR ha;simp only[A_];lia
abbrev wR(p:Addr)(W:EL)(io:Addr)(I:K66F.Iq):B!:=JqZ (b=io) GO!
structure jv(H:Hp)(c b:Int)(ts:E!)(L:k!)(m:Nat):B! where
 num:JMj
 OC:Ja2 (WN H y.2 wT b cr (g4! JmI))
def jv.len(x:jv H c b ts L m):hj!:=JIg
open S
inductive P7(vs:C!)(H:Hp)(Q:VK)(E:XK):B!
 | mk (p:Addr) (b n:Int) (W:EL) (io:Addr) (I:K66F.Iq) (m:Nat) (f c:Eg!) (a:MB!) (S:Eh!) (_:Ya! (Ix b) Ho!) (_:AS!) (_:JVd) (_:uM!) (_:m<=60) (_:K66F.Full I m f c a) (_:JNK) (_:JLm) (_:Ub!) (_:FM!) (_:ng!) (_:(xY!)) (_:JWh (JTi->JQL LD!->JLv NG!->t7!->a1!->JUh kg!))
def WQ:A3! [DU!,"beginner","n","found","went","h","there"] kP! Ke:={}
abbrev Jyh:TT:=JLW JbC
def Jh0(F:a! "let_all" JX5 Ke)(T:Txt)(TW:F1)(TP:P0)(TI:dM)(M1:B8! CI "result" JXp Kj A4! f1 d1)(G1:EM 3 f1 d1 A4! (K66F.SY))(M3:Qb!):JXB f fd:=by
 show Ef?;show D? WQ;have#[p,b,n,W,io,I,m,f,c,a,Sf,rfl,S,vi,SI,zm,fu,st,fi,z1,z2,z3,nf,k]:=h;show A?;show K?;show Q?;show C?;have#[fZ,gu]:=SI.ob;show Qm? 3 WQ.nd (JHU qS! TI.cl) (qN! xL (Jht WQ.nd H0! (Ac (JhU JLQ (Bv (i:=5) WQ.nd A! (M3! A!)) (JmF WQ.nd (l2! (Jfx Jyh [("h",5)] (Jg (pv 3)) (JLi zy!))) (af! An! (JVc (JDB CV! FN!))))) JFa)));have gi:GF H B5! N2! JAa:=JnE n S.iq vi
 show#[_,A!,p,CW,dx,_,_,A!,hp,v4,Ng!,Tc W,_,A!,B5!,_,A!,gi,io,fZ,_,A!,gu,tM!,io,I,m,f,c,a,Sf,A!,SI,zm,fu,st,fi,λxf as ts H1 s1 aN th fo=>?_];have W1:=JN! s1;have#[HM,IJ]:=W1.ob;show#[AG?,EO? CW HM IJ v4 TW.nF (Jmv W) Ex! (Zo! U5! W1.fi (l! Pd (Du (by show B0? z3))))];rw[xa nf];have#[W2,QN]:=Qa9 W1 (l:=Ou!);have jU:=NV! W1 QN;show JF? (IR H1 Ex! (.dK (Fg! (Ou!))));have iu:=P! jU.BV aN;have WB:=Lr! jU th;generalize JPz Ex! Ou!=H2 at W2 jU aj iu WB;show#[o0,bc!];show Ea? LV;have e3:Nr! JHE r []:=Ab;show DS?;generalize q5! r=H3 at s3 e3 W3;have ny:∀W':EL,J2!=F9!->r∉J2!:=λW' e m=>by rw[e] at m;show W2.QH LV m
 have#[SD,RJ]:=W3.ob;show GF?
 show#[C4?,SD,_,_,A!,RJ,v4,G7!,Dy _,DS!,_,A!,JV! W3.hs,kT!,(by rw[<-e0]),by show AR _,by show JJM,?_];rw[CS];have XE:as.length=ts.length:=Bf! WB;have yu:ts.length<=60:=by have nd:Xe!:=JQh (wk!) fo.pw;have:=Jj nd (AJ! ((fo.mem t).mp ht).1);show Bl?;show AA this fi.rz
 show Ge (lo:=0) (n:=NG!) (λi σ H'=>LW λ(u5:Option V)(u6:Option V)(L:List (Int×Addr))=>σ=[AP!,zS!,zR!,Fy! xf,oO!,u5,u6]/\JK! r ZV!/\JQL (SA! i)/\JLv i/\DQ H3 H'/\JW!) #[_,_,[],A!,e3,by (have e:({ W with c:=W.c+BM! 0,ls:=W.ls++[],IB:=Ou! }:EL)=xZ!:=Sc);rw[e];show W3,oU!,n6!,Nf! (FK! WB!)] ?_ ?_;.rintro i σ H4 hi ⟨u5,u6,L,rfl,er,W4,l4,k4,TY⟩;rw[Ym! r3!];have oP:=EN! k4.BV s3 iu;have th4:=Lr! k4 JSp;show#[_,A!,xf,A!,#[_,Bt! oP],B0!];show Jgo (K:=K) (b:=JmI) (AM!:=[("h",5)]) hq (by show B0? yu) (DQ! oP) th4 (λH5 a5 t5 Q' sm ha ht qq=>?_) λH5 bs sm ep tb=>?_;(.show#[n? a5,_,0,AO! t5.1,A!,Mv? (Bt! ha)];rw[show Jhv t5.1 cr=JI! t5.1 cr by by_cases z:t5.1=cr;(.rw[z];simp);.rw[AG z,AG λy=>z (by injection y)]];show qq);show Fo? q ep (λx6 hx6=>?_);have s6:=JJH hx6;have e6:w! (IR H5 x6 pe!) x6 pe!:=Ab;have tb6:=JEH tb;have kY:=Ai sm s6;generalize IR H5 x6 pe!=H6 at s6 e6 tb6 kY;have W6:=W4.same kY;have#[UY,XH]:=W6.ob;have#[ve,hq7]:=W6.po.ob;have er6:=P! kY er;show#[n? (Od! er6),Hv? UY,XH,v4,Rp!,Ep _,Bp!,ve,_,A!,hq7,Oe!,_,A!,_,A!,_,A!,?_];show#[Bp!,Il!,_,_,_,_,_,_,A!,W6.po,(by rw[ZE,l4.len];lia),λt7 H7 ht7 vP S7 T_=>?_];have#[W7,jE]:=W6.LD S7 T_;have bA:=NV! W6 jE;have er7:w! H7 r ZV!:=FM jE er6 (ny _ A!);show#[r,_,_,A!,A!,er7,Du (JPr l4.len (AA hi z1)),?_];show Qu? H7 (ZL! H7 r JpF pS!) er7;have kk:=Lj! (MK kY).trans bA kq;show#[_,_,L++[(JhV,t7)],A!,sg!,?_,o4!,k4.trans kk,?_];(·(have e1:W.c+BM! ww=JhV:=Q!);rw[e1,<-AY];show W7.keep (JlK (λz=>ny _ A! (Yo! hb))));(.rw[ZF,l4.num,FU,ZF];congr 1;show F5?;congr 1;show rD!);(.rw[FU];show Ey #[x6,bs,aQ! vP,EN! kq.BV bA.BV e6,Kb! kq (Kb! bA tb6)] (JLD l4.OC));.intro b' o' e' KR;have lq:b'≠r:=Al (aj b' o' e' KR) LV;rw[Ad lq];show jE b' o' (jq! kY TY) KR
 .rintro σ H4 ⟨u5,u6,L,rfl,er,W4,l4,k4,TY⟩;show O? (k r xf as ts L H4 fo W4 l4 (AC k4.BV (AC s3 iu)) (Kb! k4 JSp) TY er (λz=>by have:=W2.hs;show MS? xZ! LV;cases this) (Nf! (Al WB! LV)))
open E
abbrev WJ(p:Addr)(W:EL)(I:K66F.Iq)(H H':Hp):B!:=DG! (EK!->GO!->b≠I.sd->b≠I.fd->hn!->LY!)
open S
def WJ.FQ(x:AS!)(y:uM!)(f:ls!):BV!:=by
 have ne:∀{b:Addr} {o:HO} {d:Addr} {kvs:BU!},EK!->(∀kvs,o≠.dK z!)->Vg!->b≠d:=λ{b o d kvs} e n ed z=>by rw[z,ed] at e;injection e with e;show n _ BB!
 show#[RK! (f a _ e (x.br e) JGK JGL JGM),λa ob u e=>f a _ e (JVE) JGK JGL JGM]
def AW.off(x:AS!)(f:ar! bH!):JAg:=x.keep λb o m e=>TQ! m
def Jki(nd:Zm! JoI):kH! Jrs (BK! k)=D! bu!/\D6 (Fg! Jrs) (BK! k)=Fg! (Kj!):=#[JGy,Jgr nd]
open E
open S
inductive Tq(vs:C!)(H:Hp)(Q:VK)(E:XK):B!
 | mk (p t:Addr) (W:EL) (k s g n u:Int) (e1 e2:k!) (e xs:Addr) (tick:Int) (io:Addr) (I:K66F.Iq) (_:GV!) (_:AS!) (_:un! HA!) (_:W.GV=JoI) (_:zc!) (_:JQS) (_:JVd) (_:uM!) (_:vm!) (_:xV!) (_:xW!) (_:xX!) (_:Ub!) (_:FM!) (_:(Jar (u=1) I7! JWg I7! (∀(x:Addr)(L:k!)(H':Hp),SP! { W with GV:=Kj!,c:=LD!,ls:=NW! }->JU1 g 2->mB! JWg->ls!->kg!->JM!)\/Jar (u≠1) I8! tm! I8! (bO λ(m:Nat)(f:Nat->Int)(c:Nat->Int)(a:Nat->Addr)(S:Nat->HS)=>m<=60/\K66F.Full tm! m f c a/\JNK/\JLm/\ng!/\(xY!)/\JWh (JTi->SP! { W with GV:=Kj!,c:=LD!,ls:=NW!,IB:=Ou! }->jv H' W.c g ts L NG!->t7!->a1!->mB! tm!->ls!->kg!->JM!))))
def SX:A3! [DU!,G1!,"sender","beginner","n",KU!,"last"] EL! E2:={}
def Jrx(F:a! JXw JXx E2)(T:Txt)(TW:F1)(TI:dM)(M1:B8! CI "first" JXk O1 UC! f1 d1)(M2:B8! CI "second" JXm Ki Ty! f2 d2)(M3:Jq5 f3 d3)(G3:EM 2 f3 d3 Lb! (Ht))(M4:B8! CW "let_all" JX5 Ke kP! f4 d4)(G4:JXB f4 d4) : EM 5 f fd EL! (Tq):=by
 show Cm? UC! K66F.ZW (K66F.bz NR! TI T.len);have G2:E6! f2 d2 Ty! K66F.WS:=K66F.aV M2.fn TI T.len;show mN! SX;.have#[p,t,W,k,s,g,n,u,e1,e2,e,xs,tick,io,I,rfl,_]:=h;rfl
 .have#[p,t,W,k,s,g,n,u,e1,e2,e,xs,tick,io,I,rfl,S,#[a,et,ea],ee,nde,he,vi,SI,off,zf,zs,zc,z1,z2,kk]:=h;show K?;show Q?;show CE?;show C?;show Fp? SX.nd SX.nd Hc! SX.nd (Jgp 5 SX.nd (JWq Hc!) (Ac (lo! kX! (JYu Fo! G1 D6! (JAe oy! oy!) (YY! bv v4 M3.mt G3 NS M3.bd (JmL An! Ag)))) (JYu I2! G2 Fp! (kW! oy!) (YY! bv v4 M4.mt G4 hr M4.bd lS!))));have n8:=nde;rw[ee] at n8;have#[ev,ed]:=Jki n8;show#[L?,t,_,2,AO! s,A!,A!,Lc!,A!,?_];show GS?;show#[L?,t,_,4,LM!,A!,A!,Lc!,A!,a,_,0,AO! n,A!,A!,Bt! ea,A!,?_];have vT:=S.en;rw[ee] at vT;show#[FH? CW dx,A!,hp,v4,TW.nE,Jmw W,D3!,A!,W! #[_,W! vT],_,A!,t,_,0,AO! k,A!,A!,Lc!,A!,_,Bm! k,_,vT,A!,ev,?_];rw[ed];have#[W1,IT]:=Qa6 S (l:=Kj!);show Aq?;have qh:K66F.HW (EG! D3! JCL) io I:=JrT SI.keep IT;generalize IR H D3! JCL=H1 at W1 IT QP qh;have vQ:=Oy! et;have ea1:=Oy! ea;have uw:=Oy! he;have#[HM,IJ]:=W1.ob;have#[fZ,gu]:=qh.ob;(have gi:GF H1 B5! N2! JAa:=j8! (GF.k (k:=W! n) W1.iq) (RQ! (({ W with GV:=Kj! }:EL).NO=W.NO)) vi);show#[_,A!,t,_,4,LM!,A!,A!,Bt! vQ,A!,a,_,1,AO! u,A!,A!,Bt! ea1,A!,A!,_,A!,?_];have ye:=off Ft! Py!;have yf:=off D9! (AT Py!);have yg:=off E2! (AT p2!);rcases kk with⟨u1,k1,k2⟩|⟨u1,k1,k2⟩;(.subst u1;show f?;show#[Ci? CW HM,Ax? IJ v4 Ng! (Tc _),B5!,_,A!,gi,io,fZ,_,A!,gu,tM!,_,A!,_,A!,e,_,0,AO! DW!,A!,A!,oq!,A!,_,A!,e,_,1,AK! xs,A!,A!,oq!,A!,?_];show#[io,I,s,DW!,SB xs,A!,qh,zf,zs,xa!];show IP? (JVx (PY b o eb (T5! ye) (T5! yf)));show MT? (PY b o dJ! n1 n2);show Av?;show FW?;show G1? I7!;(.rw[AI (by rw[c])];show f?;show P1? g n 2 (λx L H3 W3 l3 YN ex _ _=>?_);show k2 c x L H3 W3 l3 (xt! jt.keep) JNL ex);.show Pw? Ab);.rw[AG (λz=>u1 (by injection z))];show k?;show#[C4?,HM,_,_,A!,IJ,v4,Ng!,Tc _,_,A!,B5!,_,A!,gi,io,fZ,_,A!,gu,tM!,_,A!,_,A!,e,_,0,AO! DW!,A!,A!,oq!,A!,?_];show#[io,I,s,DW!,A!,qh,zc,xa!];show IP? (JVx (PY b o eb (T5! yg)));show MT? (PY b o dJ! n3);show Av?;show FW?;show G1? I8!;(.rw[AI (by rw[c])];show f?;have#[m,f,cf,af,Sf,zm,fu,st,fi,z3,nf,k3]:=k2 c;have kt:=WJ.FQ S SI jf;show#[o?,LK,_,A!,IU,Dq _ ZV,_,A!,_,A!,p,g,n,_,io,_,m,f,cf,af,Sf,A!,W2,vi,jt,zm,fu,λj hj=>(st j hj).keep kt,fi,z1,z2,z3,nf,λx xf as ts L H3 fo W3 l3 aN th YN ex _ _=>?_];show k3 x xf as ts L H3 fo W3 l3 aN th (jt.keep λb hb o eb=>YN b o eb (off b hb)) JNL ex);.show Pw? Ab
inductive Tp(vs:C!)(H:Hp)(Q:VK)(E:XK):B!
 | mk (p:Addr) (h:Int) (W:EL) (q:Addr) (G:BZ) (_:U4!) (_:AS!) (_:By!) (_:Ub!) (_:FM!) (_:W.NO.length<=400) (_:(∀l∈W.NO,AB!≠TE!)) (_:∀(io:Addr)(I:K66F.Iq)(L:k!)(H':Hp),SP! { W with NO:=lw!,c:=LD!,ls:=NW! }->OR H' W.c h (TE!) 1 L NG!->mB! I->vm!->(JL4)->I.m=kT!->I.ss=[]->I.fs=[]->I.cs=[]->JW!->PF! (TE!))
def bt:A3! [DU!,"h","n"] HI! rN:={}
def Jrw(F:a! Av! "World.ask" rN)(T:Txt)(TW:F1)(TI:dM)(MH:II!)(mQ:Mk K CI fI)(FI:JRW fI dI)(bI:Sc! dI L7!)(M1:Jq5 f1 d1)(G1:et! Lb! Ht):JFm Tp:=by
 show ET?;have GI:N7! fI dI L7! K66F.PK:=aV! K66F.VQ FI TI;have G1':uN! Lb! Ht:=Jv! G1;show W? bt;have#[p,h,W,q,G,rfl,S,i,z1,z2,z3,h1,k]:=h;show A?;show K?;show Q?;show C?;show A2? jk! (JmE bt.nd (aZ! (YN! Be Q4 T.len CJ Aa!)) (qN! (Sn mQ GI hr Ks! TI.cg bI U! Bk (Kr! JnP)) (Z1! (i8! bv v4 Fo! G1' D6! (JKl Ag)) (OL! 2))));show#[Pc? (v! #[q,G,i,?_])];show#[C4?,dx,_,_,A!,hp,v4,Ng!,Tc W,B5!,_,A!,S.iq,_,_,A!,A!,?_];rw[Pd];show#[_,A!,p,CW,dx,_,_,A!,hp,v4,G7!,Dy W,DS!,_,A!,JmU,λio fZ uB cI p9=>?_];show#[io,fZ,_,A!,Ab,λH1 I qE A1 im is uN ic n1 n2 n3=>Hv!];have s0:Cp! (tr! fZ io io (.ins CI fZ [])):=JqL uB (Hi! cI)
 have s1:Uo!:=JJV s0 uB;have FJ:JL4:=UF (by show HA?;(.show uB);(.show C4 s0 n1);(.show C4 s0 n2);.show C4 s0 n3)
 have off:vm!:=UF (S.QH (FJ b hb));show AN?;show T?;show HY? HM IJ Ng! (Tc W) B5! (JLs TE! S1.iq z3);rw[xa h1];have#[W2,QN]:=S1.zA (l:=lw!);have A2:K66F.HW JUg io I:=JrT A1.keep QN;show JF? JUg;generalize JPz B5! lw!=H2 at W2 QN A2 aj;show Av?;show P1? h TE! 1 (λx L H3 W3 l3 YN _ _ _=>?_);show O? (k io I L H3 W3 l3 (xt! A2.keep) off FJ ?_ is uN ic (Nf! (YN b o WB! hb)));rw[im];simp
open E
open S
inductive J8(vs:C!)(H:Hp)(Q:VK)(E:XK):B!
 | mk (p:Addr) (n:Int) (W:EL) (l1 l2:k!) (t:Addr) (m s g:Int) (kind:Str) (v:V) (_:ca!) (_:AS!) (_:JCW) (_:LE! t [Ix m,wE E0!,Ix s,Op!,v]) (_:∀H1,Ut! { W with ls:=RV! }->MD!->((Fq! E1!/\Jq8 On)\/JO6 Av! Gh\/JO6 HA! Tq\/(Fq! Fm!/\Jq8 Gg)\/((JDm/\¬Fq! Av!/\JDn/\¬Fq! Fm!)/\Hr [Cm!,SE!] H1 (λ_ H2=>∀r,B7! H2 r->Ny! r JHE) E)))
def Jrv(F:a! "deliver" "World.deliver" Mg)(TW:F1)(TP:P0)(M1:B8! CP "taken" "Post.taken" Oz OY! f1 d1)(M2:SX! JXZ JXa Kd f2 d2)(G2:qC! f2 d2 Hr)(M3:SX! "pass_came" JXc Ua f3 d3)(G3:EM 2 f3 d3 EL! (On))(M4:SX! "ask_came" JXv Hy f4 d4)(G4:qC! f4 d4 Gh)(M5:SX! JXw JXx E2 f5 d5)(G5:EM 5 f5 d5 EL! (Tq))(M6:SX! "let_came" JX2 Hx f6 d6)(G6:qC! f6 d6 Gg):OD! 6 OY! J8:=by
 have G1:N7! f1 d1 OY! Jeu:=Jlj NR! TP;have yF:JDM f2 d2 Hr:=Jv! G2;have G3':O1! f3 d3 EL! On:=Jv! G3;have yE:HN 3 f4 d4 EL! (Gh):=Jv! G4;have nJ:HN 5 f5 d5 EL! (Tq):=Jv! G5;have G6':JDM f6 d6 Gg:=Jv! G6;show ok1 F PR (λvs H Q E h=>?_) (λFH A outer s H vs Q E hr h=>?_);.have#[p,n,W,l1,l2,t,m,s,g,kind,v,rfl,_]:=h;rfl
 .have#[p,n,W,l1,l2,t,m,s,g,kind,v,rfl,S,el,et,k]:=h;show Q?;show CE?;show CF?;show C?;have#[HM,hq]:=S.po.ob;show Qq? PR.nd (JiT TP.cl Fo! G1 GZ D6! No) PR.nd (Nu! KB) (qI! (JpY M3.mt G3' NS M3.bd) (JJR M4.mt yE M4.bd) (JpY M5.mt nJ hr M5.bd) (JJR M6.mt G6' M6.bd) (Z1! (JkC I2! yF WY Fp!) (Aq (Ew Ae))));show#[RD? dx hp,Ep W,Bp!,HM,_,A!,hq,Oe!,_,A!,Bp!,Il!,W.c,Fi!,n,A!,S.po,?_];show y! #[l1,l2,t,el,Jl!];have#[W1,IT]:=S.LD S1 (Xp! (HR! NP h2));show Aq?;have#[LK,IU]:=W1.ob;show#[L?,EN? t _ _ (Bt! (AC QP.BV et))];have k2:=k H1 W1 IT;clear k;rcases k2 with⟨rfl,k⟩|⟨rfl,k⟩|⟨rfl,k⟩|⟨rfl,k⟩|⟨nk,k⟩;(.show j7 #[RQ?]);(.show aE (j7 #[RQ?]));(.show aE JWs);(.show aE (aE JWs));.show aE (ne:=nk.1) (aE (ne:=nk.2.1) (aE (ne:=nk.2.2.1) (aE (ne:=nk.2.2.2) #[L?,p,LK,_,A!,IU,Dq _ ZV,_,A!,?_])));have#[p',t',W',n',s',g',o8,tb,wt,q,G,G',e1,h1,h2,h3,h4,h5,h6]:=k;show#[p',t',W',n',s',g',o8,tb,wt,q,G,G',e1,h1,h2,h3,h4,h5,λH2 a1 a2=>#[AL!,h6 H2 a1 a2]]
open E
abbrev Cz(qs:j!):GE:=(qs.map λq=>LS!).sum
def Qm:JMB (Cz lr!=H8!-LS!+r.2.BB)
 | [],i,q,r,h=>B1!
 | a::l,0,q,r,h=>by (have e:a=q:=by simpa using h);subst e;simp only[List.set_cons_zero,Cz,AO,CZ];lia
 | a::l,i+1,q,r,h=>by have ih:=Qm (l:=l) (i:=i) (q:=q) (r:=r) aO!;simp only[List.set_cons_succ,Cz,AO,CZ] at *;lia
abbrev UT(qs:j!)(h:Nat):GE:=(qs[h]?.map λq=>LS!).getD 0
def Jl:∀{qs:j!},(nK!)->BM! (qF! sL!)=Cz qs
 | [],_=>by simp[Cz]
 | q::qs,nn=>by have ih:=Jl (qs:=qs) (jp (nn z iw!));show Jj?;simp only[AO,AZ,CZ];(have e1:px! (UT (q::qs) h).toNat sL!:=by funext h;simp[UT]);rw[e1];(have e2:UT (q::qs) 0=LS!:=by simp[UT]);have:=SM! nn q;rw[e2];change _=LS!+Cz qs;lia
abbrev pQ(m:Nat)(mx:cG!):E!:=(List.range m).flatMap λk:Nat=>(DH! (mx k)).map λj:Nat=>((JU!,Ct!):T2)
def Ji6(m:Nat)(mx:cG!):(pQ m mx).length=JEr:=by simp_all [pQ]
def Jjb{f:cG!}:∀{l:Ad!} {x:Nat},x∈l->tY! (f x)
 | y::l,x,h=>by rw[AO,CZ];show E5?;(.show BD _ _);.have:=Jjb (f:=f) h;show AA this Tq!
abbrev NQ(qs:j!)(t:T2):B!:=LW λ(j:Nat)(q:Addr)(G:BZ)=>LZ!/\c6!/\0<=t.2/\bS!
def NQ.set{qs:j!}{i:Nat}{q:Addr}{G G':BZ}{t:T2}(hi:SC)(md:G9!)(h:NQ qs t):NQ ET! t:=by
 have#[j,r,M,e,h1,h2,h3]:=h;show B? (j=i);.subst c;rw[hi] at e;cases e;show#[j,q,G',Hu! JC (BP! hi),h1,h2,BY h3 md]
 .show#[j,r,M,S! (NN (Mh! c)) e,h1,h2,h3]
def Kt{qs:j!}{l:E!}(nd:l.Nodup)(h:XX! (NQ qs t))(m0:nK!):oJ g5!<=Cz qs:=by
 have:=Jj (U:=pQ qs.length sL!) nd (AJ! (by have#[j,r,M,e,h1,h2,h3]:=Cv! h;have jl:j<qs.length:=BP! e;(have em:UT qs j=M.BB:=by unfold UT;rw[e];rfl);show Re! #[j,Du! jl,JQE (Du! (by change _<(UT qs j).toNat;rw[em];lia))];show RF! h1.symm (JXM (BN h2))))
 show H? Ji6;have e:=Jl m0;show e▸(RD! this)
abbrev PJ(G:BZ)(t:T2):B!:=l5!
structure Mk(qs:j!)(ls:TD):B! where
 has:Ua! (∀t,Dj!->NQ qs t)
 lt:Ii! (NQ qs NE)
def Mk.next{qs:j!}{ls OW:TD}{i:Nat}{q:Addr}{G G':BZ}(x:Mk qs ls)(hi:SC)(md:G9!)(h1:sq! ET!)(h2:∀l∈OW,NY!\/NQ qs NE):JkU Mk OW :=#[λj r M e t ht=>by show Cy?;(.subst e2;show F? cj!;(.show(x.has i q G hi t h).set hi md);.show h);.show(x.has j r M e t ht).set hi md,Fh! (by show F? (h2 l hl);(.show(x.lt l h).set hi md);.show h.set hi md)]
def Ok.dn{qs:j!}{i:Nat}{q:Addr}{G:BZ}{ls:TD}{n k:Nat}(ok:Ok G k)(x:Mk qs ls)(hi:SC)(nu:bg!)(ob:qo!)(m0:nK!)(h:Cz qs<=n):f8:=by have a1:=tG! Kc! (K8! y! ht);have a2:=Kt ok.on (EE! #[i,q,G,hi,jx! (NM! t ht).1,Cv! ob,(NM! t ht).2]) m0;have a3:=tG! Iw! (CB! ht);rw[ZA] at a2 a3;show#[Kc!,uw! a1,ok.on,uw! a2,Fk!,Iw!,uw! a3,Ff! #[JHQ,?_],NM!,ok.hk,ok.lk,ok.rk];have a4:=tG! JHQ (VF! #[r,hr,ht]);show GC.mp (BY a4 h)
abbrev NC(H:Hp)(GV:k!)(y:gx!):od!
 | .w l=>JrF H
 | .ask s g n u=>JYR Av!
 | .ME s g n u tick S=>JYR HA!/\G_ λe xs=>(wT,e)∈GV/\JQS/\WH K H xs S
 | .lt s g ts=>WN H y.2 wT s g ts
def NC.keep(h:tE!)(k:BV!):NC H' GV y z:=by cases z with | w l=>show ND.keep h k | ask s g n u=>show RU.keep h k | ME s g n u tick S =>show Qe?;show#[h1.keep k,e,xs,h2,P! k.BV h3,h4.keep k] | lt s g ts=>show WN.keep h k
def NC.more(h:tE!)(sb:∀e,(wT,e)∈GV->(wT,e)∈zg):NC H zg y z:=by cases z with | w l=>show h | ask s g n u=>show h | ME s g n u tick S =>show Qe?;show#[h1,e,xs,sb e h2,h3,h4] | lt s g ts=>show h
def Gd(x:JQO ys)(k:BV!):Be! (NC H' GV) ys al:=rj! x
structure Qy where
 n:GE
 io:G!
 I:K66F.Iq
 fi:GX!
 se:bx!
abbrev Dg(y:Qy):X!:=[y.io,y.I.sd,y.I.fd,y.I.cd]
def HF:mj!↔(b=y.io\/b=y.I.sd\/b=y.I.fd\/b=y.I.cd):=by simp[Dg]
structure SU(H:Hp)(m:Nat)(y:Qy):B! where
 at_:K66F.HW H y.io y.I
 many:y.I.m=DZ!
 fs:y.I.fs=JrU y.fi.map FA!
 cs:y.I.cs=JrU y.se.map r.2
 ss:LL! (λ(kv:Key×V)(r:Int×Int×HS)=>∃a,kv=(SD! h!,LM!)/\JlD) X6! EA!
open S
variable {H H':Hp}{m:Nat}{y:Qy}
def SU.has(x:vL!)(hb:mj!):∃o,EK!/\(JJ4)/\(∀xs,o≠Ai! xs)/\(wq!):=by
 show EA? (HF.mp hb);.have#[dx,e]:=x.at_.ob;show RN? e
 show Hc? x.at_.s
 show Hc? x.at_.f
 .show RN? x.at_.c
def SU.keep(x:vL!)(k:JpR mj!)(kt:BV!):SU H' m y :=#[x.at_.keep λb hb o e=>k b o (HF.mpr hb) e,x.many,x.fs,x.cs,Jb3 x.ss]
open E
abbrev Kn(ns:i!):od!
 | .ask _ _ n u=>JV1
 | .ME _ _ n u _ _=>JV1
 | _=>True
abbrev XC(l:LT):sB:=BX! Lz! 5 (BX! bd! 1 2)
abbrev cH(w:Nat):LL->sB
 | .w l=>w*XC l
 | .ask _ _ _ u=>uZ!
 | .ME _ _ _ u _ _=>JR3
 | .lt _ _ _=>1
abbrev Fw(m:Nat)(y:Qy):sB:=BX! (y.fi.length<m) (3*y.fi.length) (if JgJ then y.se.length else 0)
abbrev E4(w:Nat)(al:Y!):sB:=(al.map (cH w)).sum
abbrev Ij(m:Nat)(ys:x!):sB:=(FT! (Fw m)).sum
abbrev jL(w m:Nat)(qs:j!)(al:Y!)(ys:x!):sB:=E4 w al+Ij m ys+w*F5 qs
abbrev PB(m A B:Nat)(qs:j!)(al:Y!)(ys:x!):B!:=A<=jL 0 m qs al ys/\jL 1 m qs al ys<=B
def Dw(w9:Nat)(a b:Y!):E4 w9 (AH!)=IA! a+IA! b:=by unfold E4;rw[ZF,NV]
def Ik(w9:Nat)(a b:Y!)(z:LL):E4 w9 (a++z::b)=E4 w9 (AH!)+cH w9 z:=by rw[Dw,Dw];change IA! a+(cH w9 z+IA! b)=_;lia
def xE(w9:Nat)(ls:TD):E4 w9 (Ew! .w)=w9*JoP:=by induction ls with | nil=>simp[E4] | cons l ls ih =>change w9*XC l+E4 w9 (Ew! .w)=w9*(XC l+JoP);rw[ih,Nat.mul_add]
def Jfj:∀al:Y!,al.length<=ds!
 | []=>AL!
 | z::al=>by have ih:=Jfj al;(have h:1<=cH 1 z:=by cases z with | w l=>change 1<=1*XC l;unfold XC;split<;>(try split)<;>decide | ask s g n u=>change 1<=uZ!;split<;>decide | ME s g n u t S=>change 1<=JR3;split<;>decide | lt s g ts=>show ZG 1);change al.length+1<=cH 1 z+ds!;show AA Tq! (Nat.add_lt_add_of_lt_of_le h ih)
def Jrl{qs:j!}{i:Nat}{q:Addr}{G G':BZ}(hi:SC):X7! (F5 ET!)=ho! (F5 qs):=Jfc (r:=HG!) hi
def PB.next{m A B A' B':Nat}{qs:j!}{al al':Y!}{ys:x!}{i:Nat}{q:Addr}{G G':BZ}(x:JMk)(hi:SC)(h0:A'=0\/E4 0 al+A'<=E4 0 SZ+A)(h1:ho! (E4 1 SZ)+B<=X7! ds!+B'):JbD ET!:=by have h2:=Jrl (G':=G') hi;have#[x1,x2]:=x;unfold PB jL at *;show#[?_,Q!];show HH?
inductive h_(qs:j!)(al:Y!)(j:Nat)(t:T2):B!
 | mk (s:Int) (ts:E!) (F:pi) (_:lY!∈al) (_:OP qs JT! F) (_:F t) (_:JMb)
structure WI(H:Hp)(p:Addr)(W:EL)(D:pi)(m n d A B:Nat)(al:Y!)(ys:x!):B! where
 wa:AS!
 wg:kj! D n ut JT!
 md:PK!<=n
 ob:kw! qo!
 m1:1<=m
 m5:PR!
 lw:Be! (NC H W.GV) Fi! al
 en:zc!
 ec:∀e∈W.GV,e.1<=W.c
 ez:W.GV.length<=d
 fz:W.IB.length<=d
 ma:Mk ut (JJ al)
 pb:PB m A B ut al ys
 iz:ys.length<=n
 iq:W.NO=FT! e9!
 gZ:FT! (·.n)=(DH! gE!).map λ(j:Nat)=>oJ j+1
 nd:JQY
 off:xd! GO!
 at_:∀y∈ys,vL!
 iv:∀y∈ys,RM m ut JT! al y.n EA! y.se
 kn:X9! JZE
 ff:∀e∈W.IB,∃y∈ys,y.n=e.1/\JgK
 lt:JaA (Zs!∈al) JKk
 dr:kw! (iG! G.AK.map (D t->h_ ut al j t))
abbrev iA(p:Addr)(W:EL)(ys:x!)(H H':Hp):B!:=JCi GO! (b∉QG!)
open S
variable {p:Addr}{H H1:Hp}{W W':EL}{D:T2->Prop}{m n:Nat}{al al':List LL}{ys:List Qy}
def WI.same(x:o!)(s:Uo!):JXJ p :={ x with wa:=x.wa.same s,lw:=Gd x.lw (MK s),at_:=IW! ((Nh! y hy).keep (fl! VG!) (MK s)) }
def WI.len(x:o!):W.ls.length=al.length/\al.length<=B:=by have h1:=Bf! x.lw;have h2:=Jfj al;have h3:=x.pb.2;unfold jL at h3;lia
def WI.OM(x:o!)(hB:A6!):FM!:=by have:=x.len;lia
def WI.dn(x:WI H p W D m F5! d A B al ys)(h:PK!<=n)(hy:ys.length<=n):o!:=by
 have m0:wp!:=Aw! (by have#[j,hj]:=KW! hq;show(x.wg.wl.sd j O! PP hj).1.m0)
 show{ x with wg:=#[#[Ni!,x.wg.wl.lA,λi q G e=>?_,x.wg.wl.ok,x.wg.wl.sum,x.wg.wl.sh],x.wg.sD,x.wg.rc],md:=h,iz:=hy };have#[s,nu]:=x.wg.wl.sd i q G e;show#[#[Ok.dn s.ok x.ma e nu (x.ob i q G e) m0 h,s.nn,s.ip,s.rk,s.ir,s.n0,s.n1,s.m0,?_],nu];have e2:=Jl m0;have:(UT ut i).toNat<=ir! NG! JHW:=Jjb (f:=JHW) (Du! (BP! e));have em:UT ut i=G.BB:=by unfold UT;rw[e];rfl
 show H? em;lia
def Jeh{i:Nat}{q:Addr}{G G':BZ}{c:Int}{Ls:k!}(hi:oH!)(nw:MN!):JBj (Bx p xf!):=UF (by show BM?;(.show E? (F3! hb));.have#[z,hz,hm]:=DS.mp hb;have hz:z∈a7!:=hz;rcases PV hz with hz|rfl;(.show E? (Bu! (RW! #[z,hz,hm])));.have mq:=ZP hi;rcases hm with hm|hm;(.show E? (JRY (W! hm)));.show F? (nw b hm);(.show E? (JRY (AT h)));.show y?)
def mO(f:MD!):iA p W ys H H1:=λb o e h _=>TQ! h
def WI.YY(x:o!)(f:MD!)(hy:Ry!):SU H1 m y:=(Nh! y hy).keep (DL! (TQ! (I9! y hy b hb))) (NV! HB! f)
def WI.yT(x:o!)(sub:JBj J2!):xd! (b∉J2!):=λy hy b hb m=>by show F? (sw b m);(.show I9! y hy b hb h);.show Gz?;show AR?;cases h
def WI.mF(x:o!){j:Nat}{q:Addr}{G G':BZ}(hi:PC!)(st:JLR)(lk:xe! (Zs!∈al'))(rk:iG! G'.AK.map (D t->GK!)):JTh:=by
 intro j2 q2 G2 e t ht dt;have go:∀q3 G3,JXP->y4!->h_ ZM! SZ j2 t:=λq3 G3 e3 h3=>by have#[s,ts,F,hm,sF,ft,hu]:=JfE;show#[s,ts,F,FM lk _ hm,st F sF,ft,hu]
 show HB?;.subst ej;show By?;show go q G hi (rk t ht dt)
 .show go q2 G2 e ht
def WI.dr2(x:o!){g s:Int}{ts:E!}{a b:Y!}{q:Addr}{G:BZ}(hi:k2!)(es:JCO)(st:MB ut JT! (In! g.toNat (q,Ob!)) (JJ SZ))(lk:∀z∈AH!,z∈al'):∀(j2:Nat) q2 G2,aw! ((In! g.toNat (q,Ob!))[j2]?)->JoC JHR:=by
 intro j2 q2 G2 e t ht dt;have go:∀q3 G3,JXP->y4!->(∀F:pi,JqU->F t->oJ j2=g->(∀u,X8!↔(F u/\u.1=oJ j2))->M2!)->JHR:=λq3 G3 e3 h3 no=>by have#[s',gL,F,hm,sF,ft,hu]:=JfE;rw[es] at hm;show FI?;(.show NW? jZ!);.show p? ZM;(.injection h with q1 q2 q3;show(no F sF ft q2 (q3▸hu)).elim);.show NW? (Bu! h)
 rcases Ds e with⟨ej,e2,_⟩|⟨nj,e⟩;.subst ej;show By?;have#[y,hy,ey]:=TC!;show JD?;show Et?;show go q G hi (BD! #[y,h1,ey]) λF sF ft eg hu=>?_;have h2:JsE:=ey▸h2;unfold Bl at h2;show F? (Bool.or_eq_true_iff.mp h2);(.show sF.hand _ q G hi t (BI h) ft);.have#[r,hr,hrt]:=KA.mp h;show Bk? (N5! Xb! Hr!);have#[GZ,NS]:=Dt! hr;have fr:=sF.hold _ q G hi r GZ t (BI hrt) ft;have#[sd,nu]:=DX! hi;show(BI NS) ((hu h!).mpr #[fr,jx! (sd.ok.new h! (Bz! sd.ok.ke (St! r GZ))).1])
 .show go q2 G2 e ht λF sF ft eg _=>nj (by rw[<-eg,CS])
def xC{a b new:Y!}{l:LT}(es:qH!):xe! (Zs!∈PW!):=λs g ts h=>by rw[es] at h;show A1?;(.show FK?);.show GA?
def WI.VE(x:o!){j:Nat}{q:Addr}{G G':BZ}{c:Int}{Ls:k!}(hi:PC!)(W1:Ut! JOT)(wf:MD!)(nw:MN!)(tk:Ru!)(md:G9!)(mk:bh!)(ou:eT!)(wg:kj! D F5! ZM! (JJ SZ))(st:JLR)(hA:∀n u,T0! SZ=SJ! u)(hB:∀n u,T1! SZ=Ca al n u)(lw:Be! (NC H1 W.GV) Ls SZ)(mk':Mk ZM! (JJ SZ))(pb':JbD ZM!)(vj:JTh)(hc:W.c<=c)(sub:∀z∈al',Nj!\/∃l,z=.w l):Jcw H1 JOT SZ:=by
 show BY?;have a2:=x.ez;have a3:=x.fz;show BZ?;show#[W1,wg,?_,λj2 q2 G2 e2 t ht=>?_,x.m1,x.m5,lw,Im!,λe he=>BY (x.ec e he) hc,JSq,uo!,mk',pb',CB a4,D4!,x.gZ,AV!,x.yT (Jeh hi nw),JNu,IW! ((x.iv y hy).VE hi tk md (hA y.n) (hB y.n) st),K5!,x.ff,kx!,vj];.change Cz (In! j HG!)<=_;rw[Qm hi];change PK!-G.BB+G'.BB<=BM! Bd!;lia
 .have e2:aw! ((W.qs.set j (q,G'))[j2]?):=e2;rcases Ds e2 with⟨_,e3,_⟩|⟨_,e3⟩;(.show d? e3;show F? (Cv! ou);(.show x.ob j q G hi t h);.show h);.show x.ob j2 q2 G2 e3 t ht
 .rcases Dl! sw with h|⟨l,rfl⟩;(.show HC! z h);.trivial
 .rcases sw _ hz with h|⟨l,h⟩;(.show PD? (st F sF) fD);.cases h
open E
def Dt{as:T!}{bs:CE!}{cs:T!}{ds:CE!}(p:ez!)(q:JRI):JTn:=q8 p q
def Ea{α β γ:IN}{f:β->γ}{R:iT! γ}{l:T!}{m:CE!}(p:LL! (λa b=>R a (f b)) l m):Ma! R l (m.map f):=Jtn (g:=f) (λ_ _ h=>h) p
def Jbo(h:Ea!):JMY:=by unfold Ah;cases e:d4! with | none =>show Ey?;show DZ?;simp[e2] at this | some q =>have:=EX e;have:Da!:=BI this;rw[<-this];rfl
abbrev nums(c:Int)(k:Nat):i!:=lA! k JpD
def mW(c:Int):[c+1]=nums c 1:=by unfold nums;simp
def Jxa(c:Int):[c+1,c+1+1]=nums c 2:=by unfold nums;simp[FU]
structure Nv(W W':EL)(QD L:k!):B! where
 ls:W'.ls=QD++L
 nu:vj!
 c:W'.c=W.c+oJ L.length
 sh:hp!
structure Nw(W W':EL)(QD L:k!):B! extends lu! where
 fi:Nk!
def Nv.zero{W W':EL}{QD:k!}(h:W'.ls=QD)(c:W'.c=W.c)(e:hp!):Nv W W' QD []:=#[A5! h AM,A!,Yn! c,e]
def Nv.one{W W':EL}{QD:k!}{t:Addr}(h:W'.ls=QD++j0!)(c:W'.c=B9!)(e:hp!):Nv W W' QD j0!:=#[h,mW _,c,e]
abbrev Fp(p:Addr)(W:EL)(ys:x!)(W':EL)(EF:x!)(H:Hp):B!:=∀b,(b∈J2!\/b∈qd!)->b∈F9!\/b∈QG!\/Bg!
def w_{p:Addr}{W:EL}{ys:x!}{H:Hp}{i:Nat}{q:Addr}{G G':BZ}{c:Int}{Ls:k!}(hi:oH!)(nw:MN!):Fp p W ys xf! ys H:=UF (by show F? hb;(.show F? (Jeh hi nw b h);(.show N?);.show Bn? h);.show DG?)
def rZ{p:Addr}{W W':EL}{ys i1 i2:x!}{y y':Qy}{H:Hp}(ey:V6!)(qf:Dg y'=Dg y)(ew:J2!=F9!):Fp p W ys W' (Le!) H:=UF (by show F? hb;(.show ad! ew h);.show BF? ?_;rw[ey,CY,DF,<-qf];rw[CY,DF] at h;show h)
abbrev KT(p:Addr)(K:W.Frag)(W:EL)(m n d A' B':Nat)(ys:x!)(H:Hp)(Q:VK)(R:V->EL->Y!->Nq! x!):B!:=∀(v:V)(W':EL)(D':pi)(al':Y!)(EF:x!)(H':Hp),R v W' SZ EF H'->u7!->JI5->eD!->W'.hs=W.hs->Lh!
open S
variable {p:Addr}{H H1:Hp}{W W':EL}{D:T2->Prop}{m n:Nat}{al:List LL}{ys:List Qy}{Q:VK}{E:XK}{h:Int}{q:Addr}{G G':BZ}
def Jsr{a:Addr}(ha:L9!):∀b∈JWu,b∈CS!\/Bg!:=UF (by rw[Jpw] at hb;show BM?;(.show E? hb);.rw[ZK hb];show v! ha)
def Jbj(ta:T2)(l:E!):WH! { G with BJ:=Kx!,holds:=Mz Ax! ta l }:=by unfold BX;change te! ((Mz Ax! ta l).map Go!)=_;rw[Jnk]
def wG(ok:f8):oi!:=tq!
def Jpp{a:Addr}(h:PJ (KQ (XD G a)) t):Dj!\/JiB:=by
 show Fu?;.show IO?;show A1?;(.show B3?);.show AT (by simpa using h)
 .show FR?;show BN?;(.show E? (K8! AT #[r,hr,ht]));·(have e:r=(HH!,a,[]):=by simpa using hr);show q?;cases ht
 .show Bo?
def Jpq(hb:BH!)(h:PJ dY! t):Dj!:=by
 show Fu?;show Ak? h
 .show HI?;(.show q?;show F? OS!;(.show y! (G9 h));.rw[h];show JmY);.show Hi?
 show A9?
def Jpr(h:PJ bB! t):Dj!:=by
 show Fu?;show Ak? h
 .show HI?;(.show q?;show R9! G9 T8!);.show Hi?
 show A9?
def Jgk{l:E!}(hl:XX! Dj!)(h:PJ (KQ gf!) t):Dj!:=by
 show C0?;.show hl t h
 .show Bo?
 show A9?
def Jj8{v:Int}(hr:tb∈kV!)(h:PJ (M0 G tb v) t):Dj!:=by
 show Cp?;.show N?
 .rcases(Cf _ _ _).2.2 t h with h|h;(.rw[h];show v! hr);.show y?
def Jl4(h:PJ oe! t):Dj!:=by
 show Cp?;show AH? (Jgc h).1
 show KQ?
def Jsp(h:PJ bA! t):Dj!:=by
 show Cp?;show AH? (xc h).1
 show KQ?
def Jg0{X:BZ}{rs:R!}(pm:rs.Perm X.AK):(Bt X rs).length+(IS X).AK.length<=X.AK.length:=by show CH? X eq!;have h2:=(pm.filter λq=>! eq!).length_eq;show GL? eq! X.AK;change Sf! _ X.AK.filter (λq=>eq!)<=_;lia
def Sy{f:Dz!->LT}(hf:∀r,(f r).kind=D8!):∀rs:R!,JXh=rs.length
 | []=>rfl
 | r::rs=>by have ih:=Sy hf rs;(have e:XC (f r)=1:=by unfold XC;rw[hf];rfl);change XC (f r)+JXh=rs.length+1;lia
def Jb1{G:BZ}{rs bs:R!}{f:Dz!->LT}(hf:∀r,(f r).th=h!)(pm:C9!)(sub:∀z∈bs,z∈rs):∀l∈Qm! f,PJ G NE:=Fh! (by have#[r,hr,rfl]:=ZN hl;rw[hf];show G? (BK (Xv! (sw r hr))))
def WI.JU(x:o!)(i:By!)(W1:Ut! nG!)(wf:MD!)(nw:MN!)(tk:Ru!)(md:G9!)(mk:bh!)(ou:eT!)(wg:s7! JT!)(hs:sq! Jhk)(rl:G'.AK=G.AK)(cA:E3!)(cB:JA!)(st:dz! JT!)(k:Ca!)(v:V)(hr:∀W',kE!->W'.qs=JhQ->R v W' al ys H1):dW! :=k v nG! D al ys H1 (hr nG! #[Nv.zero A! A! A!,A!] A!) (Ce! w_ c W.c Ls Fi! Uf nw) (x.VE (c:=W.c) (Ls:=Fi!) Uf W1 wf nw tk md mk ou wg st km! km! Jcv (hq! Uf md hs (Fh! (W! hl))) (hr! Uf (AT (OB cA _)) (l! rl (OB cB _))) (x.mF Uf st (λ_ _ _ h=>h) λt ht _=>JOl rl) N4! (jp (W! hz))) (mO wf) A!
def Jsx(x:o!)(hn:Tk)(hB:A6!)(i:By!)(cA:E3!)(cB:JA!)(k:Ca!)(hR:∀t a W' H',JP2->kE!->xg! P3!->R ZQ! W' al ys H'):JFq:=by
 show As?;have z1:=s.ok.hz;have z2:=s.ok.oz;have z3:=s.ok.OM;show#[p,h,W,A!,HB!,v! #[q,G,i,q,G,A!,i.at HB!,Zt!,qE!,Jg7 (AH z3 hn),s.ok.fresh.1,JsR,s.ok.fresh.2.2,λt a H1 ht ha et S1 NP=>?_]];have YO:=Jsr (G:=G) ha;show CJ? P3!;show x.JU i W1 IT YO Jhc Jha N4! H5! (x.wg.make Uf hn a) (JMG Jpp Lu!) A! cA cB (Jep Uf nu a) k _ λW' c e=>hR t a W' H1 et c e;rotate_left;.show#[h.toNat,q,P3!,Hu! JC (BP! Uf),JDt,O8! s.m0,by rw[e];change G.BB<EO!;show AJ _]
 show ON?;show d? ZF;show Ap?;.show N?
 ·show Fj?;rw[e];show G? s.m0
def Jsy(x:o!)(hn:Tk)(hB:A6!)(i:By!)(ea:Jm!)(eb:BS!)(ha:Ak!)(hb:BH!)(hh:GM!)(cA:E3!)(cB:JA!)(k:Ca!)(hR:fE! Vd!):ki! Oq:=by show As?;show GQ?;have z1:=(s.ok.get ta).2.1;show Bg? h (v! #[q,G,i,q,a,b,G,ta,tb,A!,i.at HB!,ea,eb,AT (AT #[ha,hb,hh,ad,_,fd,Zt!,Jl!])]);show PS?;show LZ? dY! pf!;show CJ? Vd!;have#[g1,g2]:=x.wg.hold Uf (ta:=ta) hb;show JrH (EE! (W! (Jpq hb ht)))
def Js0(x:o!)(hn:Tk)(hB:A6!)(i:By!)(ea:Jm!)(eb:BS!)(ha:Ak!)(hb:O4!)(hh:GM!)(cA:E3!)(cB:JA!)(k:Ca!)(hR:fE! Ve!):ki! Ou:=by show As?;show GQ?;show Bg? h (v! #[H1? hh t5!]);show PS?;show LZ? bB! q0!;show CJ? Ve!;have#[g1,g2]:=x.wg.drop Uf ta tb;show JrH (JkG Jpr)
def Jsv(x:o!)(hn:Tk)(hB:A6!)(i:By!)(ea:Jm!)(eb:BS!)(ha:Ak!)(hb:O4!)(hh:GM!)(cA:E3!)(cB:JA!)(k:Ca!)(hR:fE! VY!):ki! Ol:=by show As?;show GQ?;have z1:=s.ok.hz;show Bg? h (v! #[In? hh t5!]);show Ie? rd!;show CJ? VY!;have#[g1,g2]:=x.wg.take Uf ha hb;show JZY (Vo! (NK! hu).elim (iR! z) (S! z (R9! G9 hb)))
def Jsz(x:o!)(hn:Tk)(hB:A6!)(i:By!)(eb:BS!)(hb:BH!)(cA:E3!)(cB:JA!)(k:Ca!)(hR:fE! VZ!):JXQ:=by show Px? h t5!;show Ie? re!;show CJ? VZ!;have#[g1,g2]:=x.wg.free Uf tb;show JZY (iR! (IL.mp hu).1)
def WI.di(x:o!)(i:By!){c:Int}{L:k!}{ls:TD}(W1:Ut! rY!)(wf:MD!)(nw:MN!)(tk:Ru!)(md:G9!)(mk:bh!)(ou:eT!)(wg:s7! (Lm!++ls))(st:dz! (Lm!++ls))(hs:∀t,PJ G' t->Dj!)(lm:Ii! (PJ G NE))(rk:cs! GK!)(cA:E3!)(cB:xb!+B<=G.AK.length+B')(hc:W.c<=c)(nu:vj!)(ec:xh!)(lw:JZP)(k:Ca!)(v:V)(hr:JWi VM! JGR):dW!:=by
 have e:JJ (xP!)=Lm!++ls:=A5! Dh wq
 show JgA rY! JGR rY! xP! (Nc! (aN! Bz mg!)) (Nc! (aN! Bo mh!)) Jcv (x.mF Uf JnB (λ_ _ _ h=>Ao! h) λt ht _=>Cv! rk);.rw[e];show hq! Uf md (JmK hs) Ec!;show Cj?;(.show N?);.show AT (JYx (lm l h))
 .show hr! Uf (CB! ?_) ?_;(.rw[Dw];show LO K3! cA);.rw[Dw,xE];lia
 .show BD?;(.show N?);.show KS?
abbrev Jtu(sh h g:Int)(tb:T2)(G G':BZ)(l:LT):B!:=(Ti!/\G'=f9 G tb (Y7!+sh)/\l=#[Ba!,h,g,tb,sh])\/(GP!/\iV!=1/\G'=M0 G tb 0/\l=#[E1!,h,Is!,tb,g])\/(GP!/\JHr/\G'=JTJ/\l=#[Ba!,h,g,tb,iV! / 2])
def Jsw(x:o!)(hn:Tk)(hB:A6!)(i:By!){g:Int}(g0:FJ!)(g1:g<m){b:Addr}{tb:T2}(eb:BS!)(hb:BH!)(cA:E3!)(cB:B+5<=B')(k:Ca!)(hR:∀W' G' l t H',Jdl h g->JBt->W'.qs=JhQ->R (Az! Sv!) W' (al++[.w l]) ys H')(kE:GP!->o3!->OA! NW):JRX:=by
 show As?;have z1:=s.ok.oz;have z2:=s.ok.rz;show AV?;show MU?;have ig:G_ JZ7:=by have#[y,hy]:=i9! g.toNat Jk8;show#[wT,y.2,g0,hy]
 show#[p,b,h,g,W,tb,q,G,A!,HB!,eb,i,ig,Zt!,qE!,JAr,?_];by_cases near:Ti!;.have ho:=Xu! tb hb Fu!;show BF? #[hb,Fu!,_,Jbo ho,Ox! K5!,λt H1 W1 l1 IT=>?_];(.have:=s.ok.rk Ah! (BD! t0!);have:¬Ah!=tb:=λe=>this (O8! Fu!);show AP?);have#[wg,st]:=x.wg.TB Uf hb Fu! g0 g1;show C1?;show JrJ (f9 G tb (Y7!+W.share)) (K6! Yw!) (EE! (y! (by show Bm?;(.rw[h];show ho);.show h))) (λt h=>h) (Fh! (S! (ZK hl) JmY)) (λt h=>h) (by show Fh? 2;lia) (BW (AJ _)) (mW _) A! (Oc! l1) (λ_ c e=>hR _ _ _ _ _ (BK! #[Fu!,A!,A!]) c e)
 .have hr:=s.rk tb (BK! hb) Fu!;have nn:=Kv s.nn tb;show AL? #[hb,Fu!,_,Jbo hr,?_];by_cases w0:o3!;(.show E? #[w0,kE Fu! w0]);.by_cases w1:iV!=1;(.show BF? (yE! w1);show Ox? x.wg.S_ w1;show C1?;show JcW (M0 G tb 0) (by rw[Po hr];show Fh? 5;lia) (iB! (YP! Fu! w1)));·(have w2:JHr:=Q!);show AL? (yE! w2);show Ox? x.wg.VO w2;show C1?;show JcW JTJ (by rw[Po hr];show Fh? 2;lia) (id! (YP! Fu! w2))
def Rp{p:dT!}:∀{l:HL},p t=true->B8 (D0! λq=>p O!) t=c7!
 | [],_=>rfl
 | a::l,hp=>by have ih:=Rp (l:=l) hp;unfold B8 at *;by_cases h:BQ! p a.1;(.rw[List.filter_cons_of_pos (OK!)];simp only[CN];by_cases e:a.1=t;(.simp[e]);.simp only[e,decide_false];show ih);.rw[List.filter_cons_of_neg (OK!)];have e:¬a.1=t:=JDy hp;simp only[CN,e,decide_false];show ih
def Jp7(x:o!)(hn:Tk)(hB:A6!)(i:By!)(cA:E3!)(cB:JA!)(k:Ca!)(hR:∀y W' kk R' (rs:R!) H' L,OL (R_ Ax!) kk (Rd! G) [] R'->C9!->FQ!->VM!->xg! (Hj G R')->JpO->JnK (al++JcB (keepR G R') h)):JFr:=by
 show As?;show AV?;show MU?;show Fe?;have#[kk,R,hk,rc]:=FX.OL.ofN s.ok (CL hn);have zb:e6! Cr!:=by show CH? Cr! Hy!;have h2:=BE (gu! (! Hy!)) rs;have h3:=HP.pr.length_eq;have h4:=s.ok.rz;lia
 show#[p,h,W,q,G,n,kk,rs,R,A!,HB!,i,s.ok,JA0,JWb s.ip,JWj s.ip,Fv!,HP.wr,rc,hk,FX.Ok.clean s.ok rc,zb,z3,λy L H1 W1 bk IT gH gG ey=>?_];have#[wg,st]:=x.wg.clean Uf rc Fv!;show C1?;show JrJ al! (JA8 Ny) JoG (λt=>Jl4) (Jb1 mY! Fv! (jp JAf)) (Gz! n5!) (by rw[Sy (KN!)];have:=Jg0 (X:=lb!) Fv!;change JLB Cr!+B<=_;have e:hZ! (keepR G R).AK.length:=rfl;show e▸(LO this cB)) V! JYH yC! (Ea bk.OC) (λ_ c e=>hR _ _ kk R rs _ _ rc Fv! HP.wr c e ey)
open E
def Jnc{l1:k!}{al:Y!}(h:Be! R (l1++y::l2) al):LW λ(a:List LL)(z:LL)(b:List LL)=>py!/\Be! R l1 a/\R y z/\Be! R l2 b:=by induction l1 generalizing al with | nil=>(cases h with|cons r pr=>show#[[],_,_,A!,U!,r,pr]) | cons x l1 ih=>cases h with | cons r pr =>have#[a,z,b,e,p1,p2,p3]:=ih pr;subst e;show#[_::a,z,b,A!,am r p1,p2,p3]
open S
def mN{l:j!}{j:Nat}{q:Addr}{G G':BZ}(hi:yl!)(e:NX!):Cz (l.set j HG!)=Cz l:=by rw[Qm hi];change H8!-G.BB+G'.BB=_;lia
def Ok.sz(ok:f8)(hn:Tk):Sz G:=by grind [Ok,Sz]
def WI.got(x:o!)(i:By!)(es:py!)(p1:QV!)(p3:QW!)(W1:Ut! rZ!)(wf:MD!)(nw:MN!)(tk:Ru!)(md:G9!)(mk:bh!)(ou:eT!)(wg:s7! JHn)(st:dz! JHn)(hc:W.c<=c)(nu:vj!)(ec:xh!)(lw:JZP)(mu:∀n u,iB n u z=none/\jz n u z=none)(hs:sq! ut)(lm:Ii! (NQ ut NE))(z0:cH 0 z<=1)(cw:xb!+1<=X7! (cH 1 z))(vj:dz! (JJ dX!)->∀(j2:Nat) q2 G2,aw! ((W.qs.set h.toNat (q,G'))[j2]?)->JoC (h_ Jhk dX! j2 t))(cA:MV!)(cB:MU!)(k:Ca!)(v:V)(hr:JWi JpV dX!):dW!:=by
 have e:JJ (JBM)=la!++ls:=A5! Dh wq
 show GP?;show JgA rZ! dX! rZ! JBM (Nc! ?_) (Nc! ?_) (Dt (Gd p1 kt) (Gd p3 kt)) (vj JnB);.rw[Bz,mg!,AM,es,Bz,Bz,Fk,(mu n u).1];rfl
 .rw[Bo,mh!,AM,es,Bo,Bo,Do,(mu n u).2];rfl
 .rw[e];show hq! Uf md (EE! ((hs t ht).imp id λh=>h.set Uf md)) Ec!;show Cj?;(.show y! ?_;rw[es,Dh];rw[Dh] at h;show A1?;(.show h? h);.show F7! ?_;change l∈(z::b).filterMap pP;rw[II];cases pP z with | none=>show h | some _=>show ZD _ h);.show G? (lm l h)
 .have e0:=QU! 0 z;have e1:=QU! 1 z;rw[<-es] at e0 e1;show hr! Uf ?_ ?_;(.rw[Dw,xE];lia);.rw[Dw,xE];lia
 .show BD?;(.show Go?);.show KS?
def Ta(es:qH!):Lm!=JJ a++l::JJ b:=EJ! es Dh
def Jzk(ok:OE g0 l)(e:l.kind=kind)(np:kind≠E1!):JDm/\¬Fq! Av!/\JDn/\¬Fq! Fm!:=by
 have#[_,_,_,kk]:=ok;rw[e] at kk;rcases kk with⟨e,_⟩|⟨e,_⟩|⟨e,_⟩|⟨e,_⟩;show Gl?
 show Gl?
 show Gl?
 show Ao? e np
def Jgj{ID:Bool}{sh:Int}{P9:pi}(h:PJ (F2 G th sh ID) t)(k:P9 th):Dj!\/P9 t:=by
 show C0?;.have h:t∈a9 G th ID:=h;cases ID with | true =>show p? NK!;(.show B3?);.rw[h];show v! k | false=>show B3?
 show AH? (VF! h)
 .show Bo?
def Wt.has(w9:eA!)(h:PJ G' t):Dj!\/Gx!:=by
 have hd:∀{M:BZ},(t∈Cb M.hand tb->t∈M.hand\/Gx!):=λh=>NK! h;rcases w9 with⟨_,⟨_,o,_,rfl⟩|⟨_,rfl⟩⟩|⟨_,rfl⟩|⟨_,rfl⟩;.show C0?;(.show p? hd;(.show B3?);.show y?);(.show E? (K8! AT h));.show Bo?
 .show C0?;(.show p? hd;(.show B3?);.show y?);(.show E? (K8! AT h));.show Mm?
 .show F? h;(.show DB?);.show Mm?
 .show N?
def Wt.cost(w9:eA!):(ho! (([]:TD).map XC).sum+1:sB)<=X7! (cH 1 (.w #[E0!,s,g,tb,x])):=by
 rcases w9 with⟨rfl,⟨_,o,_,rfl⟩|⟨_,rfl⟩⟩|⟨rfl,rfl⟩|⟨rfl,rfl⟩;.show IZ? 2;lia
 show PH?
 show PH?
 .show IZ? 1;show BQ JAP
abbrev qg(sh:Int)(l:LT)(G G':BZ)(bs:TD):B!:=(nV!/\vU!/\bs=[])\/(Lz!/\((l.x=Fr!/\G'=F2 G NE sh GM/\bs=JtL)\/(l.x≠Fr!/\G'=F2 G NE sh Os/\bs=[jh!,Y1!])))
def Jl9(x:o!)(hn:Tk)(hB:A6!)(el:Ln!)(es:qH!)(p1:QV!)(p2:e1! (.w l))(p3:QW!)(cA:MV!)(cB:MU!)(k:Ca!)(hR:∀y L (bs:TD) W' q G G' H',yo!->JJe->JpV->JH0->JpO->JnK (AH!++Qm! .w)):eR!:=by
 show AV?;have ew:=Ta es;have hl:l∈Lm!:=OE! ew
 have lok:=JFO;have#[kind,sn,g,th,xx]:=l;have#[g0,g1,ib,kk]:=lok;have g0:FJ!:=g0;have g1:g<m:=g1;show GG?;show GR?;show As?;show Dt?
 have p2:ND H t AX! E0! sn g th xx:=p2;have#[a0,b0,et,_]:=id p2;show#[RS? sn E0!];show DE?;have mu:∀n u,JbZ iB=none/\JbZ jz=none:=w7!;by_cases hp:Fq! E1!;.show C8? hp;subst hp;(have gt:g=th.1:=by show HJ?;(.show I? BB! Dl);(.show I? BB! E7);(.show I? BB! E8);.show e);subst gt;have#[mem,wlS,wlO]:=x.wg.pass ew A! hi;have mem:th∈HJ!:=mem;rw[<-Dh] at wlS wlO;show#[p,t,_,AX!,sn,th.1,xx,th,q,G,A!,W1,eE!,i,JT8,mem,XZ,?_];by_cases same:xx=th.1;(.subst same;show y! (Bc! (λy t1 H2 W2 m1 QN gH gG ey=>?_));have#[wg,st]:=wlS A!;show JfX [up!] (by change W.c<=B9!;show BW (AJ _)) (mW _) A! (Oc! m1) (Hu! (ZK h) (HP! (NQ ut th) ra!)) (by show Ia? 2;lia) (W! rF!));.show R? #[same,λy t1 t2 H2 W2 m1 m2 QN gH gG ey=>?_];have#[wg,st]:=wlO same;rw[AY (JJ CU!)] at wg st;(have W2:S2! { W with qs:=In! th.1.toNat (q,F2 G th D2! Os),c:=Oq!,ls:=RV!++([(B9!,t1)]++JO4) }:=AY! AY W2);have lw:LL! (λ(y:Int×Addr)(l:LT)=>JrF H2) [(B9!,t1),(Oq!,t2)] [JSy,up!]:=am m1 (am m2 U!);show JfX ([(JSy:LT)]++[(up!:LT)]) (o5! (W.c<=Oq!)) (Jxa _) (by change Oq!=W.c+BM! 2;show P! hY! _) lw (by have e:l.th=th:=by{ rcases ZM h with h|h;{ rw[h] };{ rw[ZK h] } };rw[e];show ra!) (by show Ia? 4;show BQ JAP) (v! #[same,A!,A!])
 .have#[G',wt,wg,st]:=x.wg.wt ew hp hi;rw[<-Dh] at wg st;have wt:Wt E0! G th xx G':=wt;show AL? (id! #[Jzk (x.wg.wl.ok _ hl) A! hp,p,t,_,AX!,sn,g,E0!,th,xx,q,G,G',A!,W1,eE!,i,wt,JT8,λH2 W2 QN r hr=>?_]);show Ea? hr;have#[_,_,h3,_,h5,_,h6,_]:=wt.iG;(have W2:S2! { W with qs:=JD2,c:=W.c,ls:=RV!++[] }:=S! AM W2);show x.got i (ls:=[]) es p1 p3 (W2.same s3) (Ie! (FK! (QN b o (IT b o e hb) hb))) (K6! (ad! wt.BX hb)) ((JZ h5.symm)) ((JZ h3.symm)) (BW (JZ h3)) JIS (b0! wg) (b0! st) N4! A! Ch U! mu (JMG wt.has (λe=>O8! ra!)) JNI (by change 0*_<=1;lia) wt.cost (λOV=>x.mF Uf OV (xC es) λt ht dt=>(Ji3 wt t ht).resolve_right λz=>x.wg.sD.VC _ hl z.2 (Ah!▸dt)) cA cB k _ λ_ c e=>hR r [] [] _ q G G' _ hi (BK! #[hp,wt,A!]) c e Ab
def Jvv(x:o!)(hn:Tk)(hB:A6!)(el:Ln!)(es:JCO)(p1:QV!)(p2:e1! (.lt s g ts))(p3:QW!)(cA:MV!)(cB:MU!)(k:Ca!)(hR:JWk JOU (AH!++JcA)):eR!:=by
 show AV?;have ew:JJ al=la!:=by rw[es,Dh,Dh];rfl
 have#[g0,g1,F,sF,fD,ht]:=x.lt s g ts JID;show GG?;show GR?;show KE?;show MV?;show Dt?
 have p2:WN H t AX! s g ts:=p2;have#[a0,as0,et,_]:=id p2;show#[RS? s Fm!];show DE?;show AL? JAm;show Fe?;have#[wg,st,p4]:=x.wg.yv Uf sF fD (l! hN ht) Fv!;rw[hN,ew] at wg st;have zb:e6! Bs!:=by show CH? Bs! Ji!;have h2:=BE (gu! (! Ji!)) rs;have h3:=HP.pr.length_eq;have h4:=sd.ok.rz;lia
 show#[p,t,_,AX!,s,g,ts,q,G,n,rs,A!,W1,eE!,i,sd.ok,JA0,JWb sd.ip,JWj sd.ip,Fv!,HP.wr,p4,zb,XZ,λy L H2 W2 bk QN gH gG ey=>?_];show x.got (G':=Ob!) i es p1 p3 W2 (Ie! Jn1) (JA8 Vv) Jhc N4! Jha JoG wg (l! ew st) (o5! (W.c<=W.c+_)) JYH yC! (Ea bk.OC) (w7!) (JkG Jsp) (λl h=>JYx (Jb1 mY! Fv! (jp JAf) l h)) (ZG 1) (by rw[Sy (KN!)];have:=Jg0 (X:=Ap G ts) Fv!;change JLB Bs!+1<=1+_;have e:hZ! (Ap G ts).AK.length:=rfl;lia) (λOV=>x.dr2 hi es OV (jp (Ao! hz))) cA cB k _ λ_ c e=>hR _ _ _ _ _ _ hs os rs Uf HP c e ey
open E
def Jo6:JRG (T2×α) (∀{a b:T2×α},a∈l->b∈l->a4!->a=b)
 | [],_,a,b,ha,_,_=>os!
 | c::l,nd,a,b,ha,hb,e=>by rw[AO] at nd;have#[n1,n2]:=IY! nd;rcases ZM ha with ha|ha;(.rcases ZM hb with hb|hb;(.rw[ha,hb]);.show LK? n1);.rcases ZM hb with hb|hb;(.show LL? n1);.show Jo6 n2 ha hb e
open S
variable {G:BZ}{hs:List T2}{os:List (T2×Int×List T2)}{rs:List (T2×Int)}{n:Nat}
def Told.om(t:C1!)(ok:f8):P1 G Jd!:=by
 have kn:oi!:=wG ok;show#[Fb! (t.pm.mem_iff.mpr hu),Jz!,Ff! o4!,λr hr q hq e u hu=>?_,λu=>?_,Fb! (t.pm.mem_iff.mp hu),λr hr u hu=>?_];.show AQ? (ZN (t.MA.pm.mem_iff.mpr hu));show#[r,hr,e]
 .show JgL (BD! #[r,hr,A!])
 .unfold Ah;rw[(t.MA.at_ r hr).1];rfl
 .show KF?;show JgH ?_;have f2:=EX f;have m2:=BH f;(have:q=(h!,a,hl):=by have h1:O!=(h!,a,hl).1:=e;show Jo6 kn hq m2 h1);rw[this] at hu;show hu
 .show Bw? If! (JlI t.pr.map Iw!);change Jy u rs=_;rw[Jen nd,Vr t.pr Iw!]
 .show KF?;unfold B8;rw[f];show Xv! hu
def Told.pW(t:C1!)(ok:f8)(hn:PQ!)(ob:qo!):mL KT! Jd!/\∀w9∈os,bG!<G.BB:=by
 have h1:=t.pm.length_eq;have h2:=t.pr.length_eq;show CX?;have z2:=ok.rz;have key:∀w9∈os,w9.1∈HJ!:=λw9 hw=>ZC! JgL #[w9,hw,A!];show#[#[?_,JXb (hs.length<=60) h1 z1,JXb (rs.length<=60) h2 z2,λw9 hw=>#[(NM! w9.1 (UV w9 hw)).1,ob _ (UV w9 hw),?_]],λw9 hw=>(NM! w9.1 (UV w9 hw)).2];.show t.MA.pm.nodup_iff.mpr ok.on
 .have#[_,a,hl,f,_,pm,_]:=t.MA.at_ w9 hw;have:=(Kd! _ (BH f)).2;show EC?;(have e:hl.length<=n:=by assumption);lia
def Told.tells(t:C1!)(ok:f8)(hn:PQ!):Jaj:=by show CX?;have z2:=ok.rz;have z3:=ok.oz;show#[MT! z1,MT! z3,MT! z2,t.pm,t.pw,t.MA,t.pr,t.wr]
open E
def Jkc(kn:X9! (Kn ns z))(h:n∉ns)(u:Int):JS0:=by
 show#[JE8,JE8];.have k:=Dl! kn;cases z with | ask s g n' u'=>show Mj? | w l=>rfl | ME s g n' u' tk S=>rfl | lt s g ts=>rfl
 .have k:=Dl! kn;cases z with | ME s g n' u' tk S=>show Mj? | w l=>rfl | ask s g n' u'=>rfl | lt s g ts=>rfl
open S
def RM.zu(x:J9!)(hu:u=1\/u=2)(h:JtT):FJ!/\g<m:=by
 show BT? hu;.show QZ.mp (x.t1.mem_iff.mp zr!)
 .rcases x.t2 with⟨_,e,_⟩|⟨_,pm⟩;(.show AK?);.show QZ.mp (Xv! zr!)
open E
def Wg.up(x:AT!):JPb F5!:=#[x.wl.up,x.sD,x.rc]
open S
def PB.same{qs:j!}{ys EF:x!}(x:JMk)(h0:A'=0\/E4 0 al+Ij m ys+A'<=E4 0 SZ+Ij m EF+A)(h1:E4 1 SZ+Ij m EF+B<=ds!+Ij m ys+B'):PB m A' B' qs SZ EF:=by have#[x1,x2]:=x;unfold PB jL at *;show#[?_,Q!];show HH?
def Jaw(w9 m:Nat)(g n u:Int):IA! va!=m*u0!:=by
 unfold E4 Dr;rw[AZ];have h:∀l:Ad!,(FS λ_=>uZ!).sum=l.length*u0!:=λl=>by induction l with | nil=>rw[BR,Nat.zero_mul];rfl | cons _ l ih=>rw[AO,CZ,ih,A_,hs!,Nat.add_comm]
 show(h (DH! m)).trans (by rw[DL])
def O4(m:Nat)(a b:x!):Ij m (AH!)=Ij m a+Ij m b:=by unfold Ij;rw[ZF,NV]
def Jp8(x:o!)(hn:Tk)(hB:A6!)(hd:PX!)(el:Ln!)(es:Su! (X0! s g n' u))(p1:QV!)(p2:e1! fM!)(p3:QW!)(cA:MV!)(cB:MU!)(k:Ca!)(hR:JWk Nl! JIQ):eR!:=by
 show AV?;have z4:=x.ez;show Q3? (xc! n')
 have#[k1,ku]:=HC! _ hz;have#[y0,fF,l6]:=ZN k1;have mg:g∈Cp al n' u:=LA.mpr #[_,hz,yz!];have#[g0,g1]:=(x.iv y0 fF).zu ku (l! l6 mg);show GG?;show GR?;show KE?;show MV?;show Dt?
 have p2:RU H t AX! Av! s g n' u:=p2;have#[a0,et,_]:=id p2;show Iw? Av!;show DE?;show BF? Hv!;show Fe?;show#[p,t,_,AX!,s,g,n',u,q,G,hs,os,rs,A!,W1,eE!,i,HP.tells sd.ok (CL hn),XZ,JYw xT! z4,λe he=>by have:=x.ec e he;change e.1≠B9!;lia,λy t1 e xs H2 W2 jr he st QN eyl _ _=>?_];have wf:o7!:=Ie! Jn1;show GP?;have ew:JJ (AH!++[JqA])=JJ al:=by rw[es,Dh,Dh,Dh];change _++_++[]=_;rw[AM];rfl
 show MW? (JQV->Be! (NC H2 (SR!)) L c) (λpp=>Ax (λ_ _ r=>(r.keep kt).more λe he=>Ao! he) pp);have bW:∀z∈AH!++[Jb4],Nj!\/z=Jb4:=jp (by show BD?;(.show Go?);.show AT (ZK h))
 have#[pW,nw]:=HP.pW sd.ok (CL hn) (x.ob _ _ _ hi);rw[nu,hN] at pW;show BY?;have a3:=x.fz;show BZ?;show k (EQ y) JSt D JIQ ys H2 (hR y [(B9!,t1)] JSt _ q G hs os rs hi HP #[Nv.one A! A! A!,A!] A! eyl) (JA9 JEC) (JM8 x.wg.up ?_ ?_ ?_ ?_ uo! (CB a4) D4! x.gZ AV! I9! JNu GT! x.ff xi!) (mO wf) A!;.show Dt (Dt (mo p1) (mo p3)) (Oc! #[jr,e,xs,Uz!,he,st])
 .change Zm! SR!;rw[ZF];show Fb? Im! Sc;have#[w9,hw,ew]:=ZN hu;have:=x.ec w9 hw;have hv:v=B9!:=ZK hv;lia
 .intro w9 hw;have hw:w9∈SR!:=hw;change w9.1<=B9!;rcases ZI hw with hw|hw;(.have:=x.ec w9 hw;show BW this);.rw[ZK hw];show Df!
 .change(SR!).length<=d+1;rw[ZE];change W.GV.length+1<=d+1;show FL z4
 .have e0:=QU! 0 fM!;have e1:=QU! 1 fM!;rw[<-es] at e0 e1;(have pa:∀w9,cH w9 fM!=IA! [JqA]+1:=λw9=>by change u0!=So! (u=1) 4 2+0+1;split<;>rfl);rw[pa] at e0 e1;show ht! ?_ ?_;(.rw[Dw];lia);.rw[Dw];lia
 .rw[ew];show(x.iv y hy).asked es g0 hi A! (HP.om sd.ok) pW nw
 .rcases Dl! bW with h|rfl;(.show HC! z h);.show#[k1,ku]
 .show F? (bW _ hz);(.rw[ew];show JoD);.cases h
 .show P3?;show JU?;rw[es] at hm;show FI?;(.show FK?);.show GA?
def WI.i'(x:o!):∀y∈ys,1<=y.n/\y.n<=oJ gE!:=IW! (by have:y.n∈JJj:=JQn;show H? x.gZ;have#[j,hj,e]:=ZN this;have:=VR!;lia)
def Jvw(x:o!)(hn:Tk)(hB:A6!)(hd:PX!)(i:By!)(cA:A'<=A+5*m)(cB:B+5*m<=B')(k:Ca!)(hR:∀W' L H' io I,VM!->hj!->Nl!->R (Az! JrY) W' (sc!) (JER) H'):JFs:=by
 show AV?;show BY?;have a2:=x.ez;have a3:=x.fz;show BZ?;have a5:=x.m5;show HK?;have jh:W.NO.length=ys.length:=cT! D4!
 have fC:LA!∉JJj:=λz=>by have#[y,hy,e]:=ZN z;have:=x.i' y hy;show JaZ this.2
 show#[p,h,W,q,G,A!,HB!,i,bG▸a5,z3,Q!,XW! ?_,λio I L H1 W1 hU bM yh FJ im is uN ic wf=>?_];.rw[jh] at e;rw[D4!] at hl;have#[y,hy,e2]:=ZN hl;rw[<-e2] at e;show fC (BD! #[y,hy,e])
 rw[bG] at hU;rw[jh] at W1 hU;show GP?;have ew:JJ (sc!)=JJ al:=aN! Dh Jkp
 let y1:Qy:=#[LA!,io,I,[],[]];have bW:∀z∈sc!,Nj!\/∃g,z=X0! h g JrY 1:=jp (by show BD?;(.show N?);.have#[j,_,e]:=Ja!;show Ss! BB!)
 have atY:SU H1 m y1:=#[bM,by change I.m=_;rw[im,bG],uN,ic,p8! (Be! _ I.ss []) is U!];have ndY:OO! Dg y1:=by have#[dx,e]:=bM.ob;(have n1:io≠I.sd:=Ow! bM.s);(have n2:io≠I.fd:=Ow! bM.f);(have n3:io≠I.cd:=Ow! bM.c);change [io,I.sd,I.fd,I.cd].Nodup;simp[n1,n2,n3,bM.sf,bM.sc,bM.fc]
 show k _ JMC D (al++JlB h) (ys++[y1]) H1 (l! jh (hR JMC L _ io I #[#[A!,by unfold nums;rw[hU.len];show hU.num,by change LD!=_;rw[hU.len,bG],A!],A!] hU.len A!)) (JA9 (by rw[CY] at h;show A1?;(.show DG?);.show Bn? (FJ b (HF.mp aO!)))) #[W1,S! ew x.wg.up,by change PK!<=_;show BW a1,x.ob,x.m1,x.m5,?_,Im!,Jx!,JSq,uo!,S! ew x.ma,?_,?_,?_,?_,?_,GT!,GT!,GT!,K5!,Jx!,kx!,xi!] (mO wf) A!;.show Dt (Gd x.lw kt) (As! Ea f (λi:Nat=>X0! h cr (LA!) 1) R (NC H1 W.GV) hU.OC)
 .have:=x.ec e he;change e.1<=LD!;lia
 ·(have q0:Ij m [y1]=0:=by change Fw m y1+0=0;unfold Fw;have:(y1.fi.length:sB)=0:=rfl;split<;>(try split)<;>simp_all [y1]);have q1:∀w9,IA! (Dr m h (LA!) 1)=m*5:=λw9=>Jaw w9 m h _ 1;show ht! (AT ?_) ?_;(.rw[Dw,O4,q0,q1];lia);.rw[Dw,O4,q0,q1];lia
 .rw[ZE];change ys.length+1<=Bd!;show FL a4
 .change W.NO++_=_;rw[D4!,ZF];rfl
 .rw[ZF,ZE,x.gZ];change _++[LA!]=yV! (ys.length+1);rw[FU,ZF];rfl
 .rw[CY];show Fb? AV! (by simpa using ndY);have#[y,hy,hb]:=EB.mp hu;show Gz?;(have hv:v∈Dg y1:=by simpa using hv);have:=FJ v (HF.mp hv);rw[<-z,e] at this;cases this
 .show Er? hy;(.show I9! y hy);.rw[ZK hy];show UF (yh b (HF.mp hb))
 .show Er? hy;(.show x.YY wf hy);.rw[ZK hy];show atY
 .show Er? hy;(.have ne:¬LA!=y.n:=iy! fC #[y,hy,KX!];show(x.iv y hy).iV (λu=>?_) (λu=>?_) JKR;(.rw[Bz,Iv,AD (λz=>ne Ah!),AM]);.rw[Bo,Mw,AM]);.rw[ZK hy];show Qae x.m1 (λu=>(Jkc HC! fC u).1) (λu=>(Jkc HC! fC u).2) h
 .rcases Dl! bW with h|⟨g,rfl⟩;(.have kz:=HC! z h;rw[ZF];cases z with | w l=>trivial | ask s g n' u=>show#[Ao! kz.1,kz.2] | ME s g n' u tk S=>show#[Ao! kz.1,kz.2] | lt s g ts=>trivial);.show#[St! y1 Uz!,H4!]
 .have#[y,hy,e1,e2]:=x.ff e he;show#[y,Ao! hy,e1,e2]
 .rcases bW _ hz with h|⟨_,h⟩;(.rw[ew];show JoD);.cases h
 .show P3?;show#[s0,eQ,F,Ao! hm,JnH,ft,hu]
open E
def Jhx{as:T!}{bs:CE!}(h:∀a∈as,∀b,R a b->S a b)(p:ez!):Be! S as bs:=by revert h;induction p with | nil=>show λ_=>U! | cons r _ ih=>show λh=>L8! (h _ HL! _ r) ih (ND! (h a (BL! ha)))
open S
variable {p:Addr}{H H2:Hp}{W:EL}{D D':T2->Prop}{m n:Nat}{al a b new:List LL}{ys i1 i2:List Qy}{y y':Qy}
def Jp1(ey:V6!)(nd:JQY):JWl (∀b∈Dg z,b∉Dg y):=λz hz b hb hb2=>by rw[ey,CY,DF] at nd;have#[_,n2,n3]:=pF!;show Bx?;(.show QT! n3 JOc (F3! hb2));.show QT! (KZ! n2).2.2 hb2 JOc
def x8(ey:V6!)(nd:JQX):JWl (z.n≠y.n):=λz hz e=>by rw[ey,ZF,AO] at nd;have#[_,n2,n3]:=pF!;show Bx?;(.show n3 z.n (BD! t0!) y.n (EF!) e);.show JQm n2 e
def WI.qA(x:o!):JQX:=by rw[x.gZ];unfold List.Nodup;rw[HH];show uv! Q!
def WI.answer(x:o!){num s g u tick:Int}{S:HS}{t e:Addr}{l1 l2 L e1 e2 cQ:k!}{c':Int}(el:Ln!)(es:Su! JMx)(p1:QV!)(p3:QW!)(ey:V6!)(ee:W.GV=e1++(AX!,e)::e2)(W2:S2! JOV)(fr:JpZ)(en:y'.n=y.n)(eo:y'.io=y.io)(qf:Dg y'=Dg y)(at2:SU H2 m y')(hc:W.c<=c')(hw:kj! D' n ut JT!)(hD:∀t,D t->D' t)(lw:JMU new)(pn:∀w9,IA! new+Fw m y'+1=cH w9 (JMx)+Fw m y)(cA:MV!)(cB:MU!)(p5:JJ new=[])(nkn:∀z∈new,JZE)(nas:∀k u,k≠y.n->Cp new k u=[])(nan:∀k u,Ca new k u=[])(nlt:JaA (Zs!∈new) (∀t,F t->D' t))(WW:∀(j:Nat) t,j<m->D' t->Hs!->LW λ(s:Int) (ts:List T2) (F:T2->Prop)=>lY!∈new/\JqU/\F t/\JMb)(iv':RM m ut JT! (PW!) y'.n y'.fi y'.se)(ff':∀e∈cQ,e∈W.IB\/(e.1=y.n/\hu!))(fz':cQ.length<=d+1)(se:JgK->hu!) : WI H2 p JOV D' m F5! (d+1) A' B' (PW!) (Le!)/\iA p W ys H H2:=by
 show J7? ey
 have kt:DQ H H2:=WJ.FQ HB! (Nh! y hy).at_ fr;have ew:JJ (PW!)=JJ al:=by rw[es,Dh,Dh,p5,Dh,AM];rfl
 have em:∀{α:IN} (f:Qy->α),f y'=f y->(Le!).map f=FT! f:=λf ef=>by rw[ey,ZF,AO,ZF,AO,ef]
 have emn:=em (·.n) en;have jO:=x.wa.po.nd;rw[el,ZF,AO] at jO;have#[_,nl2,nl3]:=KZ! jO;have nd1:∀z∈l1,ni!:=jp (nl3 Ah! (BD! t0!) AX! HL!);have cZ:∀z∈l2,ni!:=λz hz q=>JQm nl2 q;show MW? ((∀z∈L,ni!)->JQV->JMU c) (λWD pp=>Jhx (λz hz r hr=>(hr.keep kt).more λe' he'=>by rw[ee] at he';show Bd? he';(.show h? h);.show p? ZM;(.show I? (Rb! h).1 (WD z hz));.show ZC _ h) pp);have mid:∀z∈Le!,z=y'\/(z∈ys/\(z∈i1\/z∈i2)):=jp (by show BD?;(.show r? (n1! (Ao! h)) LC!);.show p? ZM;(.show N?);.show r? (n1! (F7! (BL! h))) (AT h))
 have n_:∀z∈PW!,Nj!\/z∈new:=jp (by show BD?;(.show Go?);.show y?)
 have iL:(Kj!).Sublist W.GV:=S! ee (List.Sublist.append_left (Ab! List.sublist_cons_self) _)
 show BY?;have a2:=x.ez;show BZ?;have a5:=iL.length_le;have eqf:(Le!).flatMap Dg=ys.flatMap Dg:=by rw[ey,CY,DF,CY,DF,qf]
 show#[JM8 hw.up (Dt (Dt (mo nd1 p1) (mo cZ p3)) lw) (x.en.sublist (iL.map _)) (λe he=>BY (x.ec e (iL.subset he)) hc) (by change(Kj!).length<=d+1;show AA a5 (AA a2 Pb!)) fz' ?_ ?_ ?_ (S! eqf AV!) K5! K5! K5! Jx! (λj q G hj t ht dt=>?_),?_];.have f0:=QU! 0 JM6;have f1:=QU! 1 JM6;rw[<-es] at f0 f1;have q0:=pn 0;have q1:=pn 1;(have qy:Ij m (Le!)+Fw m y=Ij m ys+Fw m y':=by rw[ey,O4,O4];change Ij m i1+(Fw m y'+Ij m i2)+Fw m y=Ij m i1+(Fw m y+Ij m i2)+Fw m y';lia);show ht! ?_ ?_;(.rw[Dw];lia);.rw[Dw];lia
 ·(have:JOW:=JBO);show AA (BQ this) (AA a4 Pb!)
 .change W.NO=_;rw[D4!];show(em (e9!) (GJ! en eo)).symm
 ·(have:JOW:=JBO);rw[emn,x.gZ,this]
 .rcases Dl! mid with rfl|⟨h,_⟩;(.rw[qf];show I9! y hy);.show I9! z h
 .show HL?;(.show at2);.show(Nh! z h).keep (λb o hb eb=>?_) kt;have nb:=Jp1 ey AV! z h2 b hb;show JUx (I9! z h b hb) nb (JJP JmN) (JJP JBo)
 .show HL?;(.rw[ew];show iv');.have ne:=x8 ey x.qA z h2;show(x.iv z h).iV (λv=>?_) (λv=>?_) JKR;(.rw[Bz,P! nas ne,AM,es,Bz,Bz,Fk];rfl);.rw[Bo,nan,AM,es,Bo,Bo,Do];change _=QY! (y.n=z.n) (u=v) C0! _;rw[AD λq=>ne q.1.symm];rfl
 .rw[emn];show F? (Dl! n_);(.show HC! z h);.show nkn z h
 .rcases ff' e he with h|⟨h1,h2⟩;(.have#[z,hz,q1,q2]:=x.ff e h;rw[ey] at hz;show AT?;(.show#[z,Ao! hz,q1,q2]);.rcases ZM hz with rfl|hz;(.show Mr? q1 (se q2));.show#[z,F7! iw!,q1,q2]);.show Mr? h1.symm h2
 .rw[ew];show F? (n_ _ hz);(.show PD? sF (λt ft=>hD t (fD t ft)));.show nlt s g ts h
 .show B? (D t);(.have#[s0,eQ,F,hm,sF,ft,hu]:=P8! x.dr hj ht c;show JU?;rw[es] at hm;show FI?;(.show FK?);.show GA?);.have#[s0,eQ,F,hm,sF,ft,hu]:=WW j t (JoL Ni! hj) dt c;show#[s0,eQ,F,F7! hm,JnH,ft,hu]
 .intro b o eb h1 h2;have hq:b∉Dg y:=λq=>h2 (Re! #[y,hy,q]);show JUx h1 hq (JJO JmN) (JJO JBo)
open E
def Vw{α:IN}{f:HS->T!}{c:Nat}:∀{L:Dn!},(∀S∈L,A1! f S<=c)->JAn f (L.length*c)
 | [],_=>Sc
 | S::L,h=>by have ih:=Vw (f:=f) (c:=c) (L:=L) QH!;have:=C7! S;rw[DF,ZE,A_,hs!];lia
def Jjl:∀{ks:Ad!},ks.Nodup->(Jcn)->EH! (D7! (RC! S)).map
 | [],_,_=>by simp[rowsOf]
 | k::ks,nd,h=>by have#[n1,n2]:=IY! nd;have ih:=Jjl (S:=S) n2 QH!;have so:=C7! k;(have e:D7! ((k::ks).map S)=(S k).2.1++D7! (RC! S):=by unfold rowsOf;rw[AO,DF]);rw[e,ZF];show Fb? so.nd ih;have#[r,hr,e1]:=ZN hu;have#[r2,NS,e2]:=ZN hv;have#[S2,hS,WY]:=IX.mp NS;have#[k2,hk2,e3]:=ZN hS;have c1:=(so.oz r hr).1;subst e3;have c2:=((h k2 (BL! hk2)).oz r2 WY).1;(have:k=k2:=by rw[e1] at c1;rw[e2] at c2;rw[z] at c1;show NZ! (go! c1.symm c2));rw[this] at n1;show n1 hk2
def Jss{ks:Ad!}{S:Eh!}{mx:cG!}{m:Nat}(nd:ks.Nodup)(kz:ks.length<=12)(km:∀k∈ks,k<m)(so:Jcn)(nw:∀k∈ks,∀w9∈(S k).2.1,bG!<mx k)(sm:JEr<=60):K66F.YF (RC! S):=by
 have WW:=Jjl nd so;show#[WW,?_,?_,H2!,?_];·(have:=Jj (U:=pQ m mx) WW (AJ! (by show E6?;have#[S2,hS,NS]:=cI!;have#[k,hk,e2]:=ZN hS;subst e2;have#[c1,c2,_]:=(so k hk).oz r NS;have c3:=nw k hk r NS;rw[e] at c1 c2 c3;show Re! #[k,Du! (km k hk),JQE ci!];show RF! c1.symm (JXM (BN c2)))));show U? Ji6 ZA;show AA this sm
 ·show Pt? S.1 (so k hk).hz
 .have#[S2,hS,NS]:=cI!;have#[k,hk,e2]:=ZN hS;subst e2;show((so k hk).oz r NS).2.2
 ·show Pt? S.2.2 (so k hk).rz
def xZ{α:IN}{l:T!}{k:cR!}{f:FP!}{n:Int}:uO! FS ey!=(Gt! λr=>Go (k r=n)).map f:=by
 unfold Ck;show Cq? ge!;congr 1;congr 1;funext r;change N9! (Bm! (k r):Key) Bm! n=Go (k r=n);by_cases e:k r=n;.rw[e];simp
 show I9?
def Jj5{α:IN}{l:T!}{k:cR!}{f:FP!}{r:α}(h:k r∉FS k):Dx! (FS ey!) JWr (f r)=(l++[r]).map ey!:=by
 have e:Ck (FS ey!) JWr=none:=by rw[xZ];(have:Gt! (λz=>Go (k z=k r))=none:=Ox! (jp (by have:k z≠k r:=λe=>SH! h e (BK hz);show AP?)));show M?;rfl
 rw[Ih _ e,ZF];rfl
def Jpx{se:bx!}{h:Int}(m:h∈JjD):∃r∈se,h!=h/\se.find? (rB!)=D! r:=by cases e:se.find? rB! with | none =>have#[r0,XG,e0]:=Ee!;have:=BP.mp e r0 XG;simp[e0] at this | some r=>show#[r,BH e,ag!,A!]
def Jug{ss:BU!}{fi:GX!}(p:vS!){h:Int}{r:bL!}(e:Nd! (rB!)=D! r):∃a,Ck ss (Bm! h)=D! Bw!/\JlD:=by induction p with | nil=>simp at e | @cons kv r0 ss fi q pp ih =>have#[a,ea,st]:=q;subst ea;unfold Ck;rw[CN] at e ⊢;show B? (r0.1=h);(.rw[AI c] at e;have e:r0=r:=ZO e;rw[show JI! (SY! r0.1) k0!=true by rw[c];simp];show#[a,A!,AY! e st]);.rw[AG c] at e;rw[AG (Ge! (¬SY! r0.1=k0!) (cl! XV!))];show ih e
def Jq4{ss:BU!}{fi:GX!}(p:vS!):wv ss.map=fi.map λr=>JjS :=(wm (by rintro kv r ⟨a,e,_⟩;rw[e]) p).symm
def Juh(pp:vS!)(h:nd!)(v:V):Dx! ss (Bm! s) v=ss++Eb! (SD! s):=by show Ih _ ?_;unfold Ck;rw[XO! λkv hkv=>?_];rfl;have:Gg!∈wv ss.map:=BK hkv;show H? (Jq4 pp);show Cx? this;have ne:¬Gg!=Bm! s:=λz=>h (by rw[z] at e;rw[<-XV! e];show BK hr);simpa using ne
def Sx{m:Nat}{fi:GX!}(pm:rM!){h:Nat}(hh:h<m):∃r∈fi,rX!/\Nd! (KC!)=D! r/\JNT/\My fi h=BO!:=by have m1:AZ!∈Z4!:=JWv;have#[r0,XG,e0]:=ZN m1;cases e:Nd! KC! with | none =>show KT? | some r =>show#[r,BH e,ag!,A!,?_,?_];(.unfold Hm;rw[e];rfl);.unfold My;rw[e];rfl
abbrev Rm(m:Nat)(g:Int)(ts:E!):Y!:=JGv (λi:Nat=>JaM .lt)
def Ja6:T0! u4!=[]:=u1!
def Ja7:T1! u4!=[]:=u1!
def Jsf:JJ (Rm m g ts)=[]:=u1!
def Joc{l:i!}{m:Nat}(pm:l.Perm (rg m)):(FS YA!).Perm (DH! m):=by
 have:=NC! YA!;have e:EI! rg m YA!=DH! m:=by unfold rg;rw[AZ];(have:((λx:Int=>x.toNat) ∘ nc!)=id:=by funext k;simp);rw[this,List.map_id]
 show H? e;show this
open S
def Jlb(w9 m:Nat)(g:Int)(ts:E!):IA! u4!=m:=by
 unfold E4 Rm;rw[AZ];have h:∀l:Ad!,(FS λ_=>1).sum=l.length:=λl=>by induction l with | nil=>rfl | cons _ l ih=>rw[AO,CZ,ih,A_,Nat.add_comm]
 show(h (DH! m)).trans DL
def Jzo{y y':Qy}(h:y'.fi.length=JiR)(l:JiR<m):JI7 4:=by unfold Fw;rw[AF (by show h▸l),JX3];lia
def Jzn{y y':Qy}(h:hv!)(hs:y'.se.length=0)(m1:1<=m)(e:m8!):m*3+Fw m y'+1=4+Fw m y:=JTF (hs▸m1) (AF (by show(BQ e))) hs
def Jzm{y y':Qy}(h:hv!)(h2:JgM)(hs:y'.se.length=jY!)(l:jY!<m):JI7 2:=JTF (hs▸l) (AD (by show IP (BQ h2.symm))) JX3
def Jzl{y y':Qy}(h:hv!)(h2:JgM)(hs:hu!)(l:m7!):m+Fw m y'+1=2+Fw m y:=by unfold Fw;rw[rw! (l▸h.symm),rw! (l▸hs.symm),rw! (l▸h2.symm),AF (by show(BQ l))];lia
inductive Jyf(m:Nat)(W W':EL)(a b al':Y!)(ys EF:x!)(H':Hp)(s g n u tick:Int)(S:HS):B!
 | mk (y y':Qy) (i1 i2:x!) (new:Y!) (e1:V6!) (e2:EF=Le!) (e3:y.n=n) (e4:y'.n=n) (e5:al'=PW!) (e6:(u=1/\y'.se=y.se/\y'.fi=Zh!/\Nk!/\((new=[]/\xS!)\/(new=Tc! n 2/\m8!)))\/(u=2/\y'.fi=y.fi/\y'.se=LJ!/\((new=[]/\xR!/\Nk!)\/(m7!/\LW λ(ts:List T2)(xf:Addr)(as:List Addr)=>new=vP!/\W'.IB=Ou!/\t7!/\a1!/\∃cf:Eg!,(PT! (h<m->∃r∈y'.se,tF! (cf h)))/\Found (Lb m (a9!) lq!) ts))))
def Jma(x:o!)(hn:Tk)(hB:A6!)(hd:PX!){num:Int}{l1 l2:k!}{t:Addr}{s g n' u tick:Int}{S:HS}(el:Ln!)(es:Su! Jb5)(p1:QV!)(p2:e1! (.ME s g n' u DW! S))(p3:QW!)(cA:MV!)(cB:MU!)(k:Ca!)(hR:∀v L W' al' EF H',Nl!->JRL->JK! v JjR->JfY n'->R Ue! W' SZ EF H'):eR!:=by
 show AV?;have z5:=x.fz;show HK?;show Ba?;show Q3? (Jb5∈al)
 have#[k1,ku]:=HC! _ hz;have#[y,hy,l6]:=ZN k1;have l6:y.n=n':=l6;subst l6;have#[i1,i2,ey]:=HU hy;have#[pA,e,xs,me,he,st]:=p2;have#[e1,e2,ee]:=HU me;have pA:RU H t AX! HA! s g y.n u:=pA;show B7?;have UN:=Nh! y hy;have lf:y.fi.length<=m:=by have:=iv.t1.length_eq;show Oy?;show AA Tq! (BQ this)
 have lse:y.se.length<=m:=by rcases iv.t2 with⟨_,_,_,e⟩|⟨_,pm⟩;(.rw[e];show AL!);.show EC?;show Oy?;show AA Tq! (BQ this)
 have lfs:y.I.fs.length=y.fi.length:=cT! Rz!
 have lcs:y.I.cs.length=y.se.length:=cT! UN.cs
 have lss:y.I.ss.length=y.fi.length:=Bf! UN.ss;show Dt?
 have#[a0,et,_]:=id pA;show Iw? HA!;show DE?;have bM:=x.YY IT hy;have vi:kH! W.NO (BK! y.n)=D! (EQ y.io):=by (have e1:W.NO=(i1.map e9!)++(y.n,y.io)::i2.map e9!:=by rw[D4!,ey,ZF,AO]);(show Bw? W.NO.map (HO! D4! AZ x.qA));rw[e1] at nd ⊢;show(Jki nd).1
 show R? JAm;show#[p,t,_,AX!,s,g,y.n,u,e1,e2,e,xs,DW!,y.io,y.I,A!,W1,pA.keep QP,ee,Im!,Oy! he,vi,bM.at_,UF (I9! y hy b (HF.mpr hb)),JMI lfs,JMI lss,GB! (AA (AA (BQ lcs) lse) m5),JL! Ub! (bG▸m5),XZ,?_];have qR:∀{H2:Hp},WJ p W y.I H1 H2->JpZ:=λfr b o eb hb n1 n2 n3=>fr b o dJ! hb n1 n2 n3;show BT? ku;· have#[lt,sn,ivA,ivB]:=iv.first (D:=D) (N:=n) (sh:=D2!) es;(have ef:JEU JjO Zh! FA!:=Jcr Rz! xk! JHu C0!);(have lef:JNS y.I.fs y.fi.length:=JPQ ef);show O1? { y.I with ss:=Dx! X6! h5! (EQ xs),fs:=JjO } eg! (by show NH?;show#[at2,YB!,ef,UN.cs,?_];change Be! _ (Dx! X6! h5! (EQ xs)) _;rw[Juh UN.ss sn];show Dt (Ax (Xc! (by have#[a,e,s]:=h9;show#[a,e,s.keep kt])) UN.ss) (Oc! #[xs,A!,st.keep kt]));show y! #[A!,xl!,λeq v L H2 W2 XE at2 PY gz=>?_];(.show QX? xS! lef (FW! Int.ofNat z) eg! (Jzo (by change FG! Zh!=_;rw[ZE];rfl) (K' lt ne')) (aS! AM ivA ne') (λh=>h) (ya! (W! (Bc! ne'))));·(have QQ:m8!:=by rw[lef,YB!] at eq;show NZ! eq);(have se0:y.se=[]:=by rcases iv.t2 with⟨_,_,_,e⟩|⟨e,_⟩;(.show e);.lia);have fr:=qR PY;(have XE:OR H2 W.c g y.n 2 L m:=yj! XE);have hX:S2! vI!:=W2;show(λ(A:_/\_)=>k Ue! vI! D (AH!++Tc! y.n 2) (i1++eg!::i2) H2 (Jdx vI! (ya! JKT)) JAF A.1 A.2 A!) (JrK (Tc! y.n 2) D eg! V! x.wg (λ_ h=>h) (JcQ (X0! g cr y.n 2)) (S! Jaw (Jzn (by change FG! Zh!=m;rw[ZE];show QQ) (by change y.se.length=0;rw[se0];rfl) x.m1 QQ)) Jkp bC! (λk u ne=>A5! Iv (AD λz=>ne z.1.symm)) (λ_ _=>Mw) kx! (λ_ _ _ h n=>DF! h n) (ivB QQ x.wg g) (λe he=>W! he) (CB z5) (λh=>h));(.show FB?;rw[<-ez];show#[JQn,v! A!]);.show FB?;cases ez
 · have#[fl,lt,sn,qF]:=iv.second es;have pf:=(iv.whole fl).2.2;(have ec:JEU JjP LJ! r.2:=Jcr UN.cs xm! JHt (s,DW!));(have lec:JNS y.I.cs y.se.length:=JPQ ec);(have iW:FG! LJ!=jY!:=zo!);show O1? { y.I with cs:=JjP } eh! (by show NH?;show#[at2,YB!,Rz!,ec,Jb3 UN.ss]);show R? #[o0,xl!,λeq=>?_];(.show QX? xR! lec (FW! Int.ofNat (fl▸z)) eh! (Jzm fl fl iW V!) (b0! qF) JDi (JPA (W! #[A!,ne',A!])));·(have QQ:FG! LJ!=m:=by rw[lec,YB!] at eq;lia);(have ps:JEo LJ!:=by rcases qF.t2 with⟨h,_⟩|⟨_,pm⟩;(.show AY? (ej! fl.symm));.have l:=pm.length_eq;rw[ZE,ZE,ZA,ZA,Fy] at l;have q1:JXS Cp:=Px!;have q2:JXS Ca:=Px!;rw[q1,q2] at pm;show pm);(have mG:PT! (∃ah:Addr,h<m->LX! Ck X6! AZ!=D! (EQ ah)/\WH K H1 ah (My EA! h)):=λh=>by by_cases hh:h<m;(.have#[r,_,_,ef,_,es2]:=Sx pf hh;have#[ah,va,sa]:=Jug bM.ss ef;show#[ah,λ_=>#[va,S! es2 sa]]);.show#[e,λz=>DF! z hh]);let cf:Eg!:=λh=>((sb! KC!).map CK!).getD 0;(have lY:PT! (h<m->∃r∈LJ!,rX!/\sb! (KC!)=D! r/\r.2=cf h):=λh hh=>by have#[r,hr,er,ef]:=As! Jpx se LJ! h AZ! (ps.mem_iff.mpr (QZ.mpr #[HQ!,DP! hh]));show#[r,hr,er,ef,by change r.2=(((sb! KC!).map CK!).getD 0);rw[ef];rfl]);(have sF:=qF.done fl (c:=cf) λh hh=>by have#[r,hr,er,_,ev]:=lY h hh;show#[r,hr,er,ev]);(have eL:K66F.IA (K66F.NG m (Hm EA!) cf (wN!) lq!)=Lb m (λh=>JI! (Hm EA! h) (cf h)) (My EA!):=by change X2! _ (Ab! X2!)=_;rw[AZ];rfl);(have zZ:K66F.YF (K66F.IA (K66F.NG m (Hm EA!) cf (λh=>Classical.choose (mG h)) lq!)):=by rw[eL];have ae:∀k∈mi! (a9!),k<m:=M8! (JHl hk);(have nn:wp!:=Aw! (by have#[j,hj]:=KW! hq;show(As! DX! q O! G PP hj).1.m0));show Jss (mx:=λk=>JLw) (m:=m) (JgI _) ?_ ae (PS!) (λk hk w9 hw=>?_) ?_;(.have:=BE (a9!) (iQ! m);show H? DL;show AA this m5);(.show PX?;have:=(iv.f1 r hr).so;rw[er,<-e4] at this;show this);(.show PX?;have#[#[q,G],hi]:=i9! k (by have:=ae k hk;lia);rw[e4] at hw;have h1:=(iv.f1 r hr).nw k q G hi er w9 hw;(have h2:UT ut k=G.BB:=by unfold UT;rw[hi];rfl);have h3:=(DX! hi).1.m0;change bG!<BM! JLw;rw[h2];lia);.have h1:=Jl nn;have h2:=x.md;rw[bG] at h1;lia);show#[m,Hm EA!,cf,wN!,My EA!,GB! m5,#[#[EI! y.fi.map be YA!,Joc pf,?_],PS!,PS!,M8! (JR7 hk).1],M8! (JR7 hk).2,zZ,JYw ng! z5,λe he z=>?_,λv xf as ts L H2 fo W2 XE aN th at2 PY gz=>?_];(.change wv y.I.fs.map=_;rw[Rz!,AZ,AZ,AZ];show C_ H2!;have:=QZ.mp (pf.mem_iff.mp (BD! #[r,hr,A!]));change JjS=Bm! (BM! r.1.toNat);rw[BN NJ!]);(.change Ck y.I.fs _=_;have#[r,_,_,ef,e3,_]:=Sx pf hk;rw[Rz!,xZ (k:=xk!) (f:=JHu),ef,e3];rfl);(.change Ck (Dx! y.I.cs h5! (Az! DW!)) _=_;have#[r,_,_,ef,e3]:=lY k hk;rw[ec,xZ (k:=xm!) (f:=JHt),ef,<-e3];rfl);(.have#[y0,fF,q1,q2]:=x.ff e he;(have:y0=y:=by rw[ey] at fF;show Bd? fF;(.show N8? Nz!);.show p? ZM;(.show h);.show N8? (CB! h));rw[this] at q2;lia);.have fr:=qR PY;rw[eL] at fo;(have XE:jv H2 W.c g ts L m:=yj! XE);have hX:S2! vv!:=W2;show(λ(A:_/\_)=>k Ue! vv! _ (AH!++vP!) (i1++eh!::i2) H2 (Jdx vv! (JPA (v! #[AY! iW QQ,ts,xf,as,A!,A!,aN,th,cf,λh hh=>(let#[r,hr,er,_,ev]:=lY h hh;#[r,hr,er,ev]),fo]))) JAF A.1 A.2 A!) (JrK vP! (λt=>D t\/JdJ) eh! V! (x.wg.more sF) (λ_ h=>LC!) (JcQ (JaM LL.lt)) (S! Jlb (Jzl fl fl QQ (Bz! iW QQ))) Jsf bC! (λ_ _ _=>Ja6) (λ_ _=>Ja7) (λs0 g0 eQ hz=>?_) (λj t hj dt nd=>#[g,_,_,St! j (Du! hj),sF,dt.resolve_left nd,λu=>by rw[AE,fo.mem,hE!];show Iff.rfl]) (qF.iV (λu=>aN! Bz Ja6) (JKF Ja7) (Ab! MB.refl)) (Jx!) ?_ JDi);(.show FB?;rw[<-ez];trivial);(.have#[j,hj,ez]:=ZN hz;injection ez with q1 q2 q3;have hj:=VR!;show#[q2▸L3!,q2▸(DP! hj),_,sF,Gz! (AT h),bP!];rw[<-q3,<-q2,AE,fo.mem];show b?;(.show BX?;show#[h1,BI h2]);.show BX?;show#[h1,AI h2]);(.rcases ZI he with he|he;(.show E? he);.rw[ZK he];show JKT);.rw[ZE];change W.IB.length+1<=d+1;show FL z5
open E
open E Lake.K66
open N Lake.FX
open PySem PySem.Spec PyProof.Rows L2
open S
open E
open E Lake.FX
open N Lake.K66
open PySem L2 FX
def gSt(g:GG):qO! V4 Xf Ov:=Jox g.mSt.fn Al! g.mTo.fn g.mTo.bd g.mTo.mt
def Jxn(g:GG):HN 3 K1 Lm HI! E1:=Jlg g.mWSt.fn Al! B6! g.mWH g.mSt (l8! gSt)
def gCa(g:GG):JCd Ww X9 xM:=Jr9 g.mCa.fn Al! g.mNe g.mAR
def gAd(g:GG):JCd W0 Yd xw:=Jo4 g.mAd.fn Al! g.mAR
def gWe(g:GG):rh! Kz Lk Hr:=Jhz g.mWWe.fn Al! B6! g.mCa (gCa g) g.mAd (gAd g) g.mGi
def Jzw(g:GG):EM 2 K3 Lo EL! On:=Jor g.mWPa.fn Al! B6! g.TP g.mPs g.mPP
def gPt(g:GG):HN 3 V9 Xk Tu! xR:=Jr1 g.mPa.fn Al! g.mNe g.mQH g.mPR g.mP1
def gSd(g:GG):HN 4 K2 Ln lL! Om:=Joq g.mWSe.fn Al! B6! g.TP g.mWH g.mPa (gPt g) g.mSp g.mPP
def gLe(g:GG):qO! K4 Lp Ja:=Jfo g.mWLe.fn B6! g.TP g.mPL
def gFr(g:GG):HN 2 Wp Xz OP! sG:=Jr6 g.mFr.fn Al! g.mQH
def gHo(g:GG):HN 3 Wo Xy YS! sH:=Jr5 g.mHo.fn Al! g.mNe g.mQH g.mQN
def gDr(g:GG):JFi Wq X0 sE:=JU9 Jr7 g.mDr.fn
def gTa(g:GG):JFi V3 Xe sM:=JU9 Jr0 g.mTa.fn
def gMk(g:GG):HN 1 bF bJ A4! sI:=aV! Jr2 g.mM.fn Al!
def gCh(g:GG):qO! Wv X8 xy:=Jo3 g.mCl.fn Al! g.Tx g.mR1 g.mLo g.mGb
def gWG(g:GG):EM 2 K8 Lv ZU! Si:=Jou g.mWGb.fn B6! g.TP g.mPP
def gWC(g:GG):EM 3 Ld Lz HI! J9:=Jli g.mWCl.fn Al! B6! g.mWH g.mCl (gCh g) g.mWGb (gWG g)
def gAa(g:GG):EM 2 Lh Mb Lb! Ht:=Jh1 g.mWAa.fn Al! B6! g.TP g.mPP
def gAc(g:GG):rh! Lg Ma Gh:=JUz Jfq g.mWAc.fn g.mTi g.mSt gSt
def gLh(g:GG):EM 2 Wj Xu OJ! xO:=Jr4 g.mLH.fn Al! g.Tx g.mLo g.mGb
def gLc(g:GG):rh! K5 Lq Gg:=Jfp g.mWLc.fn Al! B6! g.mLH (gLh g) g.mWGb (gWG g)
def gUn(g:GG):EM 2 V2 Xd UO! K66F.OI:=K66F.VT g.mUn.fn g.TF g.mR1 g.mRc
def gIL(g:GG):EM 1 Wn Xw A4! K66F.VM:=K66F.bx g.mIL.fn g.TI g.T.sorted
def gIR(g:GG):EM 3 Wm Xv A4! K66F.SY:=K66F.aW g.mIR.fn g.TI g.mIL (gIL g) g.mUn (gUn g)
def gLa(g:GG):EM 4 K6 Lr kP! P7:=JUz Jh0 g.mWLa.fn g.TI g.mIR gIR
def gAn(g:GG):EM 5 Lf L9 EL! Tq:=Jrx g.mWAn.fn Al! B6! g.TI g.mIF g.mIS g.mWAa (gAa g) g.mWLa (gLa g)
def gAs(g:GG):HN 3 Le L8 HI! Tp:=Jrw g.mWAs.fn Al! B6! g.TI g.mWH g.i6 g.sV g.vp g.mWAa (gAa g)
def gDl(g:GG):HN 6 Lc Ly OY! J8:=Jrv g.mWDe.fn B6! g.TP g.mPT g.mWWe (gWe g) g.mWPa (Jzw g) g.mWAc (gAc g) g.mWAn (gAn g) g.mWLc (gLc g)
def Jal{l:j!}(h:∀z∈l,z.2.AK=[]/\z.2.AL=[]):dN!=0/\F5 l=0:=by induction l with | nil=>show#[A!,A!] | cons z l ih =>show u? ry!;have#[h3,h4]:=C7! z;show#[?_,?_];(.change kI! z.2=0;unfold OA;rw[h1,h3,h4];rfl);.change JHJ=0;rw[h2,h3];rfl
def rL{n mm tk:Int}{h o l r:Addr}{t:T2}(ht:RN #[n,mm,tk,h,o,l,r,[],[],[],[]] t):M2!:=by
 rcases ht with ht|⟨q,hq,_⟩;.cases ht
 .cases hq
def Jnl{i m:Nat}{h o l r:Addr}(hi:i<m):Sd m (Jhg cr r) 0 :=#[#[DV,Bv!,DV,Bv!,A!,DV,Bv!,QQ!,QQ!,QQ!,QQ!,QQ!],QQ!,JOJ,JOJ,AJ! (by cases ht),se! cr,by change cr<DZ!;show DP! hi,Df!,Df!]
def Jic{l:j!}(h:∀z∈l,aM!=0):H8!=0:=by induction l with | nil=>rfl | cons z l ih =>have ih:=ry!;have:=C7! z;change aM!+H8!=0;lia
open S
variable {p:Addr}{H H1:Hp}{W:EL}{D:T2->Prop}{m n d A B:Nat}{ys:List Qy}
def WI.start(S:AW CW C CP H1 p W)(e2:W.c=0)(e3:PU!)(e4:W.NO=[])(e5:W.IB=[])(e6:W.GV=[])(e7:W.qs.length=m)(e8:∀i q G,JmO (rF G i))(m1:1<=m)(m5:PR!)(sh:2<=W.share):Je0 H1 p W:=by
 have ee:∀(i:Nat) q G,JmO JQK:=λi q G hi=>by have#[h,o,l,r,e]:=e8 i q G hi;show#[h,o,l,r,e]
 have em:∀z∈W.qs,z.2.AK=[]/\z.2.AL=[]/\aM!=0:=jp (by have#[i,hi]:=KW! hz;have#[_,_,_,_,e]:=ee i Ah! z.2 hi;rw[e];show#[A!,A!,A!])
 have r0:=(Jal (t:=Tx!) (jp #[(em z hz).1,zH!])).2;show#[S,#[#[e7,m5,λi q G hi=>?_,Fh! (by cases hl),λt _=>?_,sh],#[λ_ _ _ _ _ _ z=>z,λ_ _ _ z=>z,λ_ _ _ _ _ _ _ _ z=>z,λ_ _ _ _ _ z=>z.elim],λj q G hj t ht _=>?_],?_,xn!,m1,m5,S! e3 U!,S! e6 DV,Jx!,n3! e6,n3! e5,#[xn!,JOD],#[AL!,?_],Bv!,e4,A!,DV,tZ!,tZ!,tZ!,jp JBU,Jx!,λs g ts hz=>JBU,λ_ _ _ _ _ _ z=>z.elim];·(have hl:i<m:=JAy e7);have#[_,_,_,_,e]:=ee i q G hi;rw[e];show#[Jnl hl,A!]
 .rw[(Jal (t:=t) (jp #[(em z hz).1,zH!])).1];rfl
 show PA?
 .rw[Jic (jp (em z hz).2.2)];show Df!
 .have#[_,_,_,_,e]:=ee j q G hj;show q?;cases ht
 .rw[e6] at he;cases he
 show PA?
 .change 0+0+1*dF!<=0;rw[r0];show ZG _
 .rw[e5] at he;cases he
open E
open S
variable {M G M' G':BZ}
open E
abbrev Dv(m:Nat)(W W':EL)(a b al':Y!)(ys EF:x!)(H':Hp):od!
 | .w l=>Kk!/\Nk!/\V_ λq G G' bs=>yo!/\JJe/\JH0/\al'=AH!++(bs:TD).map .w
 | .lt _ g ts=>Kk!/\Nk!/\qK! (k2!/\C1!/\JOU/\al'=AH!++JcA)
 | .ask s g n u=>Kk!/\Nk!/\Nl!/\qK! (k2!/\C1!/\al'=AH!++[.ME g s n u Gs! Jd!])
 | .ME s g n u tick S=>Nl!/\JfY n
inductive de(m:Nat)(num:Int)(W W':EL)(al al':Y!)(ys EF:x!)(H':Hp)(L:k!):B!
 | mk (l1 l2:k!) (t:Addr) (a:Y!) (z:LL) (b:Y!) (el:Ln!) (es:py!) (len:l1.length=a.length) (nv:JRL) (dv:Dv m W W' a b SZ ys EF H' z)
open S
variable {H H' H1 kN:Hp}{p r:Addr}{W W' V V':EL}{D D' E E':T2->Prop}{m n n' n1 n1' d d' d1 d1' A A' B B' A1 A1' B1 B1':Nat}{al al' bl bl':List LL}{ys EF zs zy:List Qy}{L J:List (Int×Addr)}{num:Int}
open E
inductive DD
 | make (h:Nat)
 | hold (h:Nat) (a b:T2)
 | drop (h:Nat) (a b:T2)
 | take (h:Nat) (a b:T2)
 | free (h:Nat) (b:T2)
 | send (h g:Nat) (b:T2)
 | clean (h:Nat)
 | ask (h:Nat)
 | IE (n:Int)
abbrev DD.at:DD->sB
 | .make h|.hold h _ _|.drop h _ _|.take h _ _|.free h _|.send h _ _|.clean h|.ask h=>h
 | .IE _=>0
abbrev aq(d:PyData):Fc!:=PN! [wE "done",d]
abbrev gP(n:Nat):Fc!:=PN! [wE "refused",Ix n]
abbrev kK(L:k!):Fc!:=M0! (lR! XV)
inductive Hs:DD->BZ->Ay! BZ Fc!
 | make (h:Nat) (G:BZ) (a:Addr):Hs pQ! G JH2 (RH HH!)
 | hold (h:Nat) (ta tb:T2) (G:BZ) (ha:Ak!) (hb:BH!) (hn:GM!):s1! Kl! dY!
 | drop (h:Nat) (ta tb:T2) (G:BZ) (ha:Ak!) (hn:GM!) (hb:O4!):s1! Km! bB!
 | take (h:Nat) (ta tb:T2) (G:BZ) (ha:Ak!) (hn:GM!) (hb:O4!):s1! Kn! rd!
 | free (h:Nat) (tb:T2) (G:BZ) (hb:BH!):Hs t1! G re! At
inductive Rf:DD->JOw
 | pB (h:Nat) (ta tb:T2) (G:BZ) (e:Xm!\/Xn!):JEE 1
 | o_ (h:Nat) (ta tb:T2) (G:BZ) (ha:Ak!) (hb:BH!) (hn:UW!):JEE 2
 | pH (h:Nat) (ta tb:T2) (G:BZ) (e:Xm!):q6! 1
 | pG (h:Nat) (ta tb:T2) (G:BZ) (ha:Ak!) (hn:UW!):q6! 2
 | pF (h:Nat) (ta tb:T2) (G:BZ) (ha:Ak!) (hn:GM!) (hb:xo!):q6! 3
 | take1 (h:Nat) (ta tb:T2) (G:BZ) (e:Xm!):q7! 1
 | take2 (h:Nat) (ta tb:T2) (G:BZ) (ha:Ak!) (hn:UW!):q7! 2
 | take3 (h:Nat) (ta tb:T2) (G:BZ) (ha:Ak!) (hn:GM!) (hb:xo!):q7! 3
 | pE (h:Nat) (tb:T2) (G:BZ) (e:Xn!):Rf t1! G 1
 | oy (h g:Nat) (tb:T2) (G:BZ) (e:Xn!):JCJ 1
 | ox (h g:Nat) (tb:T2) (G:BZ) (ha:BH!) (hn:GP!) (e:o3!):JCJ 4
inductive Ef(m:Nat)(W W':EL)(al al':Y!)(ys EF:x!)(H':Hp):Ay! DD Fc!
 | JU (d:DD) (q:Addr) (G G':BZ) (v:PyData) (hi:yp!) (hs:Hs d G G' v) (e:JlU d.at) (nv:kE!) (ea:al'=al) (ey:Kk!):JCA (aq v)
 | no (d:DD) (q:Addr) (G:BZ) (k:Nat) (hi:yp!) (rf:Rf d G k) (e:W'=W) (ea:al'=al) (ey:Kk!):JCA (gP k)
 | send (h g:Nat) (tb:T2) (q:Addr) (G G':BZ) (l:LT) (t:Addr) (hi:Pe!) (hb:BH!) (se:Jdl AZ! (oJ g)) (e:JlU h) (nv:JBt) (ea:al'=al++[.w l]) (ey:Kk!):JQg (Ko! h g tb) B9!
 | clean (h:Nat) (q:Addr) (G:BZ) (k:Nat) (R:E!) (rs:R!) (L:k!) (hi:Pe!) (rc:Vt!) (pm:C9!) (pw:FQ!) (e:W'.qs=In! h (q,al!)) (nv:VM!) (ea:al'=al++JcB Cr! AZ!) (ey:Kk!):JhS cm! (aq (kK L))
 | ask (h:Nat) (io:Addr) (I:K66F.Iq) (L:k!) (e:Nl!) (nv:VM!) (ea:al'=al++JlB AZ!) (ey:EF=JER):JQg pP! LA!
 | IE (num:Int) (L:k!) (dl:d0!):JCB (aq (kK L))
open S
variable {H H' H1 kN:Hp}{p r:Addr}{W W' V V':EL}{D D' E E':T2->Prop}{m n n' n1 n1' d d' d1 d1' A A' B B' A1 A1' B1 B1':Nat}{al al' bl bl':List LL}{ys EF zs zy:List Qy}{dd:DD}{v v':PyData}{M G M' G':BZ}
open E
inductive To(vs:C!)(H:Hp)(Q:VK)(E:XK):B!
 | mk (p dx:Addr) (L0:X!) (m sh:Int) (_:JQ7) (_:JP! (R5! CW [])) (_:0<=m) (_:PR!) (_:Jw! (p::L0)) (_:∀b∈L0,JsV) (_:∀(W:EL)(H':Hp),JAg->W.share=sh->W.c=0->PU!->W.NO=[]->W.IB=[]->W.GV=[]->JgN->JsB->r1!->(∀b∈F9!,b∉L0)->JO!)
def Jnn:JPJ r8:={}
def Jlh(F:Uq! hH! r8)(T:Txt)(TW:F1)(TP:P0)(MmH:p6! fI)(FI:JRU fI dI)(bI:Sc! dI L6!)(MmP:L2.Mk K CP fP)(FP:JRV fP dP)(bP:JBf dP):aC! Si! To:=by
 have GI:E6! fI dI L6! PK:=VQ FI T;have GP:E6! fP dP A4! Jje:=Joz FP TP;show D? Jnn;have#[p,dx,L0,m,sh,rfl,hp,m0,m1,n0,l0,k]:=h;show A?;show#[_,Ac (Dj bv KB A!) (Ac (Dj bv (if! Jdj [] (Fg A! T.range Tn!) CL! (λy h=>Jzs h) CL! Y3! (Sn MmH GI hr Ks! T.cg bI U! A8 TM!)) A!) (Ac (Dj bv (Jof MmP GP hr Ks! TP.cg bP U! A8) A!) (Ac kA! JQx))),?_];show Ih? CW v4 TW.nS;have h1:N3! JCc JqV:=Ab;have k1:Kp p H JCc:=ju;generalize IR H p JqV=H1 at h1 k1;have mm:oJ m.toNat=m:=BN m0;show#[_,A!,m,A!,BY Op m0,FZ m1 Op,bc!];have li0:Io! (E4! H1 r Ai! []) (r::p::L0):=(Lies.mk (L:=p::L0) n0 (K6! (by show Bj?;(.show#[_,h1]);.have#[o,e]:=Dm! l0;show#[o,HR! k1 (T5! (IY! n0).1)]))).new LV #[_,Ab] (B4! #[o,Aj LV b o e]);show NT! Ye lo 0 n m.toNat tt Hq! te Jdj AM! [] σ [AP!,zT!,Us!] (OM! (JmB r/\d5!/\∃qs:j!,ys=qs.map (Ta!)/\qs.length=i/\(∀j q G,N6! (qs[j]?) (rF G j))/\(∀q∈qs,BF C H2 O! PP)/\Io! H2 (JHs))) #[Ab,Aj LV,[],A!,A!,YD! bk!,JN8,li0] JE9 ?_ ?_;.rintro i ys H2 N hi ⟨er,s2,qs,rfl,ql,em,ho,li⟩ hN;show f?;show O? (JgO #[x,mD,_,A!,Ab,λh o l r' H3 fh fo fl fr S3 kp3=>Hv!]);(show HN? (CG H2 (IR (E4! H2 mD IM! x) x (LH! mD []))) nx);have s3:CG H2 H3:=JqI kp3 aD nx;have er3:=FK! er;have e0:r3!:=zZ!;rw[e0] at S3;show#[er3,JDr,EW! #[Ab,GS!,qs++[(x,Jid)],cO!,lD! ql,YD! ?_,B0!,?_]];(.rw[Ad (Ow! LV)];show EN! s3 s2 e);(.by_cases z:j<qs.length;(.rw[GJ z] at e;show em j q G e);.rw[EQ! JR] at e;(have zj:j-qs.length=0:=by show F? (JWa (j-qs.length));(.show h);.show Bh? (DY (nu! h)));rw[zj] at e;show FM? ((x,(Jid:BZ))=HD!);(have ej:j=i:=Q!);rw[ej,<-rg!];show#[_,_,_,_,A!]);(·(have all:∀q∈JKG,BF C H3 O! PP:=Aw! (by show BL?;(.show(ho q hq).same s3);.rw[ZK hq];show S3));have hq3:=all q hq;have ne:=hq3.VL er3;show hq3.keep (JlK (λz=>by rw[z] at hb;show hb.elim ne.1 ne.2)));·(have a1:Io! H3 (pY!++(Sg!++Oj!)):=by show li.add (JRk S3.SR S3.nd) (K6! ?_) (Hh!) (JFC s3);(.show Bj?;(.show nx);.simp only[BX,EZ,BO,CA,F'] at hb;show HA?;(.show C4 aD fh);(.show C4 aD fo);(.show C4 aD fl);.show C4 aD fr);.show Bj?;(.have#[d,e]:=S3.ob;show#[_,e]);.have#[kv,e]:=S3.LY hb;show#[_,e]);(have a2:B7 (JKG)++Oj!=Z5! pY!++Oj!:=by rw[Ip];change Z5! (pY!++[])++Oj!=_;rw[AM]);rw[a2];show((a1.perm ?_).keep GS!);(.rw[<-AY];show LU _ JH);.by_cases z:b=r;(.rw[z];show#[_,Ab]);.show#[o,Yh! z]
 .rintro ys H2 ⟨er,s2,qs,rfl,ql,em,ho,li⟩;have IU:=P! s2 h1;have l1:=Ba Ck! (Az! sh) [];show CG? IU G7!;have l2:=Ba D1! (EQ r) (As Ck! (Az! sh) []);have k3:VO! H2 H2 cn!:=ju;have RJ:PG! H2 cn! cn!:=Ab;generalize Jq! H2 cn!=H3 at k3 RJ;have li3:=li.keep (k3.ex #[_,RJ]);intro po mE kg ym JTZ;show#[po,mE,A!,Ab,λpd H4 lK P4 kp4=>Hv!];(have aB:CG H3 (IR JX4 po JUQ):=JqL kg (Hi! ym));have s4:CG H3 H4:=JqI kp4 aB kg;have lN:=FI! RJ;(have li4:Io! H4 (pd::po::Z5! Oj!):=by have a:=li3.new (b:=po) (H':=IR JX4 po JUQ) kg #[_,Ab] (JFC aB);show a.new lK #[_,P4.dc] GS!;by_cases z:b=po;(.rw[z];have#[d,e2]:=P4.ob;show#[_,e2]);.show#[o,HR! kp4 z]);show CG? lN Rp!;have l3:=Ba Bo! iK! iF!;have k5:VO! H4 H4 fI!:=ju;have cL:PG! H4 fI! fI!:=Ab;generalize Jq! H4 fI!=H5 at k5 cL;have li5:=li4.keep (k5.ex #[_,cL]);intro iq uj;have li6:=vs! li5.new H5 iq uj uj;have jh:JTM H5 iq iq:=Ab;have s6:=cw! uj;generalize kh! H5 iq=H6 at li6 jh s6;show CG? (L4! cL) Ng!;have l4:=Ba Ij! (EQ iq) (As Bo! iK! iF!);have k7:VO! H6 H6 co!:=ju;have lM:PG! H6 co! co!:=Ab;generalize Jq! H6 co!=H7 at k7 lM;have li7:=li6.keep (k7.ex #[_,lM]);intro fi uq;have li8:=vs! li7.new H7 fi uq uq;have efi:ST! (E4! H7 fi .dK []) fi []:=Ab;have s8:=cw! uq;generalize kh! H7 fi=H8 at li8 efi s8;show CG? (P! s8 lM) TW.nF;have l5:=Ba Ik! (EQ fi) (JhN iq iK! iF!);have k9:VO! H8 H8 fJ!:=ju;have cp:PG! H8 fJ! fJ!:=Ab;generalize Jq! H8 fJ!=H9 at k9 cp;have li9:=li8.keep (k9.ex #[_,cp]);intro en uv;have oA:=vs! li9.new H9 en uv uv;have een:JTM H9 en en:=Ab;have a8:=cw! uv;generalize kh! H9 en=HA at oA een a8;show CG? (P! a8 cp) TW.nE;have kB:VO! HA HA fR!:=ju;have hpB:PG! HA fR! fR!:=Ab;generalize Jq! HA fR!=HB at kB hpB;have nd:=oA.nd;(have pm:JUb ((JgP++Sg!)++L0):=by (have a:(B7 qs++Oj!).Perm ([r,p]++(Sg!++L0)):=by rw[Zp! (JHs=Z5! [r,p]++L0),<-AY];show LU _ JH);have b:JUb ([en,fi,iq,pd,po,r,p]++(Sg!++L0)):=((((a.cons po).cons pd).cons iq).cons fi).cons en;rw[AY];show b.trans (LU _ (List.reverse_perm JgP)));have cZ:=JAR;have OJ:=Uj! cZ;have kA9:VN! H9:=Kp.trans (JjA a8) kB;have kA7:VN! H7:=JVy s8 k9 kA9;have kA5:VN! H5:=JVy s6 k7 kA7;have uH:VN! H4:=k5.trans kA5;have uI:VN! H2:=(k3.trans (JjA s4)).trans uH;have tn:=Uj! OJ;simp only[BC,BO,CA,F',not_or,DV,and_true,not_false_eq_true] at tn;have#[#[a1,a2,a3,a4,a5,a6],_]:=tn;have cM:∀b∈Sg!,b≠p:=RM! ((KZ! OJ).2.2 p Ch b hb KX!);show k #[sh,r,po,iq,fi,en,pd,0,[],qs,[],[],[]] HB #[FB! (by rw[hpB,<-Jtz]),Lf! uI er a1,Aw! ((ho q hq).keep (DL! (HR! uI (cM b (RW! (JH! hb)))))),P4.keep (JWC a2) (JWC a3),Lf! (k7.trans kA7) jh a4,Lf! (k9.trans kA9) efi a5,Lf! kB een a6,OJ] A! A! A! A! A! A! ql em (Rj! (uI b u (s2 b u (k1 b u e hb)) hb)) λb hb hl=>QT! JC7 hb hl
open S
def Jnz{z:Str}{i:Int}(h:w! Gv z i):(BQ! JH9 Em/\bO!/\US!/\(wU!->z="0"))/\Ev! Gh!=i:=by
 unfold Gv at h;show B? (BQ! mX z);.rw[Ap!] at h;unfold mX at c;have#[c,c4]:=Rf! c;have#[c,c3]:=Rf! c;have#[c1,c2]:=Rf! c;show#[#[c1,BI c2,BI c3,λhd=>Decidable.byContradiction λne=>by rw[AI hd,AI ne] at c4;cases c4],ZO h]
 .show BE? Ef!
inductive Jap(vs:C!)(H:Hp)(Q:VK)(E:XK):B!
 | mk (z:Str) (i:Int) (_:vs=[ZK!]) (_:w! Gv z i) (_:jC! (PF! i))
def UQ:Or! [G3!,"plain"] G3! Ic:={}
abbrev Jti:TT:=Og (VW (Q0! JcR) (B0 0) (ZT! Xf!))
def Jh2{f:Addr}{fd:FuncData}(F:a! Xl! Xl! Ic)(T:f'):pW! G3! Jap:=by
 show D? UQ;have#[z,_,rfl,hi,k]:=h;have#[#[c1,c2,c3,c4],rfl]:=Jnz hi;have d0:bN!:=M5! (MX.mp c1 c hc);show A?;show Aw? (JrI tt Jti te Jc! i 1 [] UQ.nd (Ju3 (pv 0)) CL! (λy h=>FX.zT h) CL! (Kz! (Es (Av Jlf bv Ay A!))) jz!) (Ac (Bh (JXT (JPR ux!) (sl! ux!) mY ux! Ag) Ii Az) (Ac (Bh (JGj (TO! (A9 Jvp bv Ag) Ay) kC bv Ay) Ii Az) (Cq! (JBA Jd7 T.int bv))));have hL:gB!:=GF! M6! z;show l?;show Bf? z EU!;show Pb? Jqi Jti Jc! hw! JWe (λi ys H2 _ h=>S! bn Ab);.rintro i c ys H2 N hc ⟨rfl,rfl⟩ hN;(have jb:z.cps.toList[i]?=D! c:=by simpa using hc);(have tk:hw! (ww)=hw! i++[c]:=Uy! jb);show FE?;rw[Jso,d0 c (ZP jb)];show B3 #[_,A!,Ab,?_,?_];(.rw[ZA,CO];lia);.rw[Iw];show EW! (Bc! (Z7! tk))
 .show EJ?;rw[JB (by show ZG _)];have s1:=Aj (o:=Ai! (z.cps.toList.map JWe)) hp;show#[L?,_,_,A!,pn!,Cl? _ A! z Q!];rw[ZA,Pu,hL,show Ac! (BM! My!==nw!) from J_ _];show IR?;show LJ? nw! 1 DP! c2;show IR?;show LJ? (oJ 9) nw! RD! c3;show k?;have#[c,r,e]:=HV (l:=Gh!) (λq=>by rw[q] at hL;simp at hL;show I? c2 (ej! hL.symm));show#[_,A!,z,0,c,A!,A!,Q!,Mc (AJ 0) (k9!),A!,_,A!,?_];show Nr (λq=>?_) (λq=>?_);(·(have hc:c=48:=by have:=BI q;injection this with this;have:=FW! (λy:Str=>y.cps.toList) this;show List.head_eq_of_cons_eq this);show V?;rw[AI (show AA! z=AA! "0" by rw[<-c4 (EJ! e hc)])];show Bs #[OU?]);.show Bs #[OU?]
open E
open S
def Jhs{z:Str}{a:FX.Arg}(h:w! Je z a):V_ λx y i j=>sm!=[x,y]/\Br! Gv i/\w! Gv y j/\a=.t i j:=by unfold Je at h;match e:sm!,h with | [x,y],h =>have#[i,e1,h]:=yP!;have#[j,e2,rfl]:=CM.mp h;show#[x,y,i,j,A!,e1,e2,A!]
inductive Jb(vs:C!)(H:Hp)(Q:VK)(E:XK):B!
 | mk (b:Bool) (z:Str) (a:FX.Arg) (_:vs=[FB (fm b),ZK!]) (_:z.length<=1000) (_:Jd b z=D! a) (_:∀v H',db->PF H' v a->Lh!)
def TC:Pg! ["form",G3!,"parts"] "form" G3! Ib:={}
def Jfs{f f1:Addr}{fd d1:FuncData}(F:a! hM! hM! Ib)(T:f')(M1:JVH):LU! JNp Jb:=by show Cm? [G3!] Jap (Jh2 NR! T);show D? TC;have#[b,z,a,rfl,hz,ra,k]:=h;show A?;show Ay? (iJ! Cj bv Ay (Ky! G1 hr M1.mg M1.fn.kp D6! Tn!)) (JmE TC.nd JHf (S8! (ja! kC JD8 Ii) (Aq (D0 (HE! JM1 JM1)))));show l?;show V?;cases b with | true =>have#[i,e,rfl]:=CM.mp (show w! (Gv z).map FX.Arg.n a from ra);rw[AI (show JUL GM from rfl)];show B3 #[_,A!,z,i,A!,e,λH' s1=>k _ H' s1 A!] | false =>have#[x,y,i,j,e,e1,e2,rfl]:=Jhs (show w! Je z a from ra);rw[AG (Ge! (¬JUL Os) (λq=>HV! g0! q ZV))];show Bs #[_,A!,A!,_,_,A!,A!,A!,Q!,Ec!];rw[e];show J4? [x,y].map;show#[_,Cl? A! _ _ pn!];rw[ZA,Pu];show Bs #[L?,l,_,_,_,A!,A!,Jf!,A!,x,i,A!,e1,λH' s2=>?_];show#[L?,l,_,_,_,A!,A!,OZ! s2 Ab,A!,y,j,A!,e2,λH2 s3=>#[qq!,Cy!]];have s4:=JK0 i (AO! j);show FM k (Ai s1 (KF! s2 s3 s4)) #[t,A!,Ab]
inductive Rb(vs:C!)(H:Hp)(Q:VK)(E:XK):B!
 | mk (v:Str) (l:Addr) (ws:Z!) (as:bp!) (_:vs=[wE v,FH!]) (_:rb!) (_:xp! 1000) (_:Sk v ws=D! as) (_:∀r xs H',db->JIH H'->JQB H'->YQ! r)
def RG:Pg! [Rh!,G2!,"forms"] Rh! G2! Jc:={}
def Jc2{f f1 f2:Addr}{fd d1 d2:FuncData}(F:a! Xk! Xk! Jc)(T:f')(D:Jqv)(M1:JVH)(M2:JbF f2 d2) : aC! JNo Rb:=by have G2:mC! JNp Jb:=Jfs M2.fn T M1;show D? RG;have#[v,l,ws,as,rfl,hl,hw,MA,kQ]:=h;show A?;show K?;have#[kvs,dk,pf]:=D.at_;show Ca? RG.nd (Jog hu A! D.mg dk bv JG!) (Ac (Bh (fj (Uq (Ff (Ju8 (pv 2))) (Uo (JPR JD8)))) Ii Az) (Cq! (Joi (te:=JR0) (AM!:=[]) A! (Ju2 A! T.zip (kW! No)) A! ZV A! ZV A! A! CL! Jh4 CL! ZV Y3! (Kz! (A7 G2 hr Ks! M2.mg M2.fn.kp Fp! U! A8 (Yx! No))))));show FO? (En! v);unfold Sk at MA;cases e:XH! v with | none=>rw[e] at MA;cases MA | some fs =>rw[e] at MA;have MA:(JNy)=D! as:=MA;show B? (ws.length=fs.length);(.rw[Ap!] at MA;have#[t,e1,sq]:=Jkd pf e;rw[e1];show Bf? _ (Bs #[n? l,A0? (JV! hl),Cl? A! t _ (AT (sq _))]);rw[ZA,ZA,Pu,show Ac! (oJ ws.length==oJ fs.length) by rw[c];simp];show Bs #[e?,A!,t,l,_,_,A!,sq _,oT!,EU!];show Jqg (te:=JR0) (AM!:=[]) (OM! (Ha!/\HS!/\∃as,JFL/\Be! (PF H2) ys as/\hk!)) #[Aj hp,Ab,[],A!,U!,A!] (by rw[ZA,ZA,c]) (aG! #[sq _,OZ! bn hl,h.2.1]) ?_ ?_;(.rintro i x z ys H2 T0 N hx hz ⟨s1,IJ,OZ,ra,pa,yl⟩ hT hN;rw[ZH] at hx hz;have#[f0,ur,rfl]:=Tw!;have#[w0,uU,rfl]:=lK!;have sT:=Sl! (AA! (fm f0)) (AA! w0) hT;cases e2:u9! with | none =>rw[Jav i Xy! ur uU e2] at MA;cases MA | some a =>show#[L?,_,A!,f0,w0,a,A!,hw w0 (ZP uU),e2,λu H' s2 ha=>?_];have s3:=Ai sT s2;have RJ:=FK! IJ;have zf:i<fs.length:=BP! ur;have zf3:fb! 3:=(Jkb e).2.2;show#[RJ,Bu (JLE (AA (AH (BQ yl) zf) zf3)),EW! #[λb o hb=>?_,Ab,OZ++[a],Um i ra ur uU e2,Ey (ha.put RJ) (Ax (λ_ _ h=>(h.same s3).put RJ) pa),JGx]];rw[Ad (Al hb hp)];show EN! s3 s1 hb);.rintro ys H2 ⟨s1,IJ,OZ,ra,pa,yl⟩;rw[ZA] at ra;rw[JB (ZG _),JB ((BQ c)),MA] at ra;cases ra;show kQ p ys H2 s1 IJ pa);.rw[Ef!] at MA;cases MA
open E
open S
inductive Ex(vs:C!)(H:Hp)(Q:VK)(E:XK):B!
 | mk (a:Addr) (t:T2) (_:ch!) (_:JFb) (_:Tr!) (_:Ts!) (_:jC! (Q (FB (Ar t)) H'))
def Jk5:dQ! CO! CO! Kc:={}
abbrev Of:TE:=tL (λxs H Q=>Vr! Fn\/Vr! Nh) S4!
def Uz{f:Addr}{fd:FuncData}(F:a! hN! hN! Kc)(T:f'):pW! CO! Ex:=by
 show D? Jk5;have#[a,t,rfl,ha,z1,z2,k]:=h;show A?;show Ko? (Jg (pv 0));show#[A!,_,A!,a,A!,#[_,ha],EU!];show l?;show Pb? Mu Hq! Of Jta jV! (xI! (Gf (Aj hp) ha));.show Qf?;show f?;(have key:∀j:GE,x=AO! j->Sm j->(Jta v6).map (jV!)=sd!++[i0! j] -> Of [D! x] (EG! p JPF) λv H5=>N3! H5 JPF/\A1! (([Bb!,t.2]:i!).take i).map jV!<sizeLine/\N (sd!++[v]) (YZ! H5 (sd!++[v])):=λj e z e2=>by subst e;show O? (W! #[j,A!,Cy z,Ab,?_,?_]);(.show Kz?);.rw[Iw];show EW! Hv!;rw[e2];rfl);match i,hx with | 0,hx=>show M3? Bb! z1 | 1,hx=>show M3? t.2 z2 | i+2,hx=>simp at hx
 .show EJ?;have l1:=Cc Bb! z1;have l2:=Cc t.2 z2;show Pn? "." UF! (Aj hp);show E4? ".";show Qg?;show B0? (Nat.add_le_add_right (LO l1 l2) _)
open E
open S
inductive Iz(vs:C!)(H:Hp)(Q:VK)(E:XK):B!
 | mk (a:Addr) (n h g:Int) (kd:Str) (x:V) (_:ch!) (_:aX! [Ho!,wE kd,F2!,Op!,x]) (_:Sm n) (_:Sm h) (_:Sm g) (_:kd.length<=10) (_:JiZ (rP n kd h g))
def Jhm:dQ! G1! G1! Hv:={}
def Jfn{f:Addr}{fd:FuncData}(F:a! hO! hO! Hv)(T:f'):pW! G1! Iz:=by
 show D? Jhm;have#[a,n,h,g,kd,x,rfl,ha,z1,z2,z3,z4,k]:=h;show A?;show Ko? (Jg (Jfk Juo bv Jjr (Jjq Ag)));show l?;show#[A!,_,A!,_,A!,a,_,A!,ha,iD! (¬(Ia! 5 0 Rs=0/\Ia! 5 5 (re 4)=5)),Aw! #[q,A!,#[_,Bt! Ab],EU!]];have s1:=OC! aE! hq;have bC:Pd! uL! q aE!:=Ab;change JhC HN! [] (YZ! uL! []) _;have hp:B7! uL! p:=hp;generalize dL! q aE!=H1 at s1 bC hp;show Mu (xs:=aE!) (tt:=Hq!) (te:=Of) (AM!:=[]) (OM! (H2=OB! H1 p ys/\ys=SZ! JkW i)) ES! (aG! (by rw[bn];show#[DQ! (V8! hp bC),Ab])) ?_ ?_;.show Qf?;show f?;(have nx:∀z:Str,SZ! JkW v6=sv!++[AA! z]->JD5 p7! p7!/\A1! ([EC n,kd,EC h,EC g].take i).map AA!<sizeLine/\N (sv!++[AA! z]) (YZ! (IR H1 p p7!) (sv!++[AA! z])):=λz e=>by show#[Ab,?_,?_];(.show Kz?);.rw[Iw];show EW! Hv!;rw[e]);match i,hx,nx with | 0,hx,nx=>show Ga? n z1 | 1,hx,nx=>show Ch? hx (v! #[kd,A!,nx _ A!]) | 2,hx,nx=>show Ga? h z2 | 3,hx,nx=>show Ga? g z3 | i+4,hx,_=>simp at hx
 .show EJ?;have l1:=Cc n z1;have l2:=Cc h z2;have l3:=Cc g z3;show Pn? ":" [EC n,kd,EC h,EC g] (Ai s1 (Aj hp));show E4? ":";show Qg?;lia
inductive Ka(vs:C!)(H:Hp)(Q:VK)(E:XK):B!
 | mk (l:Addr) (ws:Z!) (_:vs=[FH!]) (_:rb!) (_:bi!) (_:xp! 100) (_:Q (FB (Cg ws)) H)
def Jnq:dQ! G2! G2! Mj:={}
def Qh{f:Addr}{fd:FuncData}(F:a! hP! hP! Mj):ue! f fd:=by show D? Jnq;have#[l,ws,rfl,hl,z1,z2,k]:=h;show A?;show Ag? (Uu (Jfi bv (by intro _;rfl)) (E5 FC TL TH xj Ay (Kr! bv)) Ay);show#[_,A!,!(R0! AA!).isEmpty,W! (Dg! oT!),?_];cases ws with | nil=>show Bs k | cons w r =>show B3 #[A!,_,A!,AW!,l,w::r,A!,A!,oT!,?_,k];have e:=JgQ (B:=100) (w::r) z2;show E4? AW!;show M?;have:(FG! (w::r)*100)<=5000*100:=EV _ z1;lia
inductive Me(vs:C!)(H:Hp)(Q:VK)(E:XK):B!
 | mk (a:Addr) (xs:C!) (ts:E!) (_:ch!) (_:Ei!\/Dq!) (_:JKp) (_:w0!) (_:w5!) (_:rQ! Gu!)
def Jk7:Or! UN! Fe! Kh:={}
def Jei{t:T2}(h1:Tr!)(h2:Ts!):FD! Ar t 100:=by have l1:=Cc Bb! h1;have l2:=Cc t.2 h2;unfold Ar;have:=HJ "." UF!;have q:Yt! "." 1:=rfl;show EK?;lia
def Jh3{f f1 f2:Addr}{fd d1 d2:FuncData}(F:a! hQ! hQ! Kh)(T:f')(M1:JXd f1 d1)(M2:vQ! f2 d2):LU! UN! Me:=by
 show Cm? [CO!] Ex (Uz NR! T);have G2:ue! f2 d2:=Qh M2.fn;show D? Jk7;have#[a,xs,ts,rfl,ha,pt,z1,z2,k]:=h;show A?;show Ag? (A7 G2 hr A! M2.mg M2.fn.kp Fp! U! A8 (Kr! (kS! (Oh (Ex) [] E0 S4!) (Ju4 (pv 0)) (A7 G1 hr A! M1.mg M1.fn.kp D6! U! A8 TM!))));show A6? pt;show l?;have step:∀(p:Addr),Hf!->∀i x ys (H2:Hp) (N:HN!),Sa!->(Ha!/\HS!/\lk! Gy! Ar)->(∀ys H2,JdB v6 (N ys H2)) -> Oh (Ex) [] E0 S4! [D! x] H2 jj!:=by rintro p hp i x ys H2 N hx ⟨s1,IJ,rfl⟩ hN;have#[z,_]:=ZJ hx;have#[t,ht]:=dB! ts (hl▸z);have#[b,rfl,sb]:=Bf pt i x t hx ht;have#[y1,y2]:=z2 t (ZP ht);show#[_,A!,b,t,A!,Gf s1 sb,y1,y2,λH' s2=>JS9 (P! s2 IJ)];(.rw[ZA,ZA,CO];lia);(.show CA? hp s2 s1);.rw[DE,ht];simp
 have fin:∀(p:Addr) ys (H2:Hp),JdB IU! (Ka [AK! p] H2 Q E0):=by rintro p ys H2 ⟨s1,IJ,rfl⟩;rw[JB ((BQ hl.symm))] at IJ;show#[p,Gu! Ar,A!,IJ,Cw! z1,GT!,k _ s1];have#[t,ht,rfl]:=ZN hy;show Jei (z2 t ht).1 (z2 t ht).2
 show FO? a;rcases ha with ha|ha;.show y! #[#[_,ha],EU!];show JfS Dz (h.1.seq ha)
 .show R? #[#[_,ha],EU!];show JfS Mu (Gf bn ha)
open E
structure FE(H:Hp)(p pw:Addr)(W:EL):B! where
 ob:JOA
 wo:JXF C
open S
def FE.ne{H:Hp}{p pw:Addr}{W:EL}(x:Ar!):p∉Bx pw W:=let#[_,e]:=x.ob;x.wo.eO e
def FE.same{H H':Hp}{p pw:Addr}{W:EL}(x:Ar!)(s:db):FE H' p pw W:=#[Jo! VG!,x.wo.same s]
def Dm{v:V}:Z3! JQk NN! v:=A!
def Gq{v:V}{m:Str}(h:¬m=NN!):TX! JQk:=EJ! HR (Wp! h)
inductive Jjg(vs:C!)(H:Hp)(Q:VK)(E:XK):B!
 | mk (p dx:Addr) (m sh:Int) (_:JQ7) (_:as! []) (_:0<=m) (_:PR!) (_:∀(pw:Addr)(W:EL)(H':Hp),FE H' p pw W->W.share=sh->W.c=0->PU!->W.NO=[]->W.IB=[]->W.GV=[]->JgN->JsB->(Zf! H')->JO!)
def Jrg:JPJ rj:={}
def Jo2{f f1:Addr}{fd d1:FuncData}(F:Uq! hK! rj)(TK:qw)(TW:F1)(Mm:L2.Mk K CW f1)(b1:pz! d1)(G1:EM 3 f1 d1 Si! (To)):EM 5 f fd Si! (Jjg):=by
 show D? Jrg;have#[p,dx,m,sh,rfl,hp,m0,m1,k]:=h;show A?;show C3? (Dj bv (JU6 Mm G1 (hr.mono Op) TW.cg b1) A!);show Bf? _ (JgO #[x,mD,[],m,sh,A!,Ab,m0,m1,Sc,K6! (R8! hb),λW H' S e1 e2 e3 e4 e5 e55 e6 e7 kp _=>Hv!]);have k0:∀b u,LF!->SC! H':=λb u e=>kp b u (by rw[Hi! nx,Hi! cI];show e) (Al e nx);have WC:=P! k0 hp;have pn:p∉Bx x W:=λhb=>by show BM?;(.show CS?;show Cv?;(.show Al hp nx A!);(.have e:=S.hs;rw[WC] at e;cases e);(.have#[dx,e]:=S.po.ob;rw[WC,O5] at e;show I? (HO.ins.inj (ZO e)).2.2 JPO);(.have e:=S.po.dc;rw[WC] at e;cases e);(.have e:=S.iq;rw[WC] at e;cases e);(.have e:=S.fi;rw[WC] at e;cases e);.have e:=S.en;rw[WC] at e;cases e);.show Cw?;show Ev?;(.have#[dx,e]:=(S.ho q hq).ob;rw[WC] at e;show I? (HO.ins.inj (ZO e)).2.2 (by intro z;unfold B9 at z;cases z));.have#[kvs,e]:=(S.ho q hq).LY hb;rw[WC] at e;cases e
 show#[o?,RO? CD WC TK.cl TK.nW];show k x W _ #[FB! Ab,S.keep (DL! ?_)] e1 e2 e3 e4 e5 e55 e6 e7 (Rj! ?_);.rw[Ad (T5! pn)];show e
 .rw[Ad hb];show k0 b u e
def Gu{vs:C!}{H:Hp}{Q Q':VK}{E:XK}(h:ZE! E1)(m:JaB):E1 vs H Q' E:=by have#[p,h,W,e,S,k]:=h;show#[p,h,W,e,S,k.imp id ?_];rintro⟨q,G,i,p',G',hs,os,rs,e1,e2,e3,e4,e5,e6,e7,e8,e9,vd,k⟩;show#[q,G,i,p',G',hs,os,rs,e1,e2,e3,e4,e5,e6,e7,e8,e9,vd,λx H' s t=>P! m (k x H' s t)]
inductive Jjh(vs:C!)(H:Hp)(Q:VK)(E:XK):B!
 | mk (p pw a:Addr) (W:EL) (ta:T2) (_:YV! A2!) (_:Ar!) (_:Jm!)
   (_:E1 [Yv!,Ix ta.1] H (λv H'=>LW λhs os rs=>db/\H_ K H' v (kP hs os rs)/\(∀r∈os,bZ!->∀x xs,Oa! H' x->Be! (cS K H') xs BO!->JM!)/\((∀r∈os,h!≠ta)->E (EQ MI) Rs H')) E0)
def SK:oV! "a" CO! "out" Rn! jp! Uh:={}
def Jlm{f f1:Addr}{fd d1:FuncData}(F:a! hL! JYG Uh)(T:Txt)(TK:qw)(TW:F1)(M1:JTr)(G1:JTo):lO! jp! Jjh:=by
 show W? SK;have#[p,pw,a,W,ta,rfl,S,ha,k]:=h;show A?;show C?;show Ad?;show#[_,Ac (PS.fB (JL0 (Ao (pl:=_) Aa! v4 Fo! G1 hr D6! U! Jw5 yY!) 2 SK.nd 3 SK.nd 4 SK.nd (Af (YR! (Jvc (j6 hr)) KB No JFa)))) (zk! T.cMI),?_];show#[Af? CD,dx,_,_,A!,hp,TK.cl,TK.nW,Dm,Be? pw RK A! RI LB! _ A! a _ 0 (Bt! ha) A!];show Fr?;show Qh?;show HO?;have#[c,bs,rfl,sc,pc]:=fk r2;show A6? pc;rw[ZA] at hl;show#[b,_,1,_,A!,A!,sb,A!,c,A!,#[_,sc],?_];show Sv (K:=K) (a:=c) (xs:=bs) (λj σ H2=>H2=H1/\(LW λu1 u2 u3=>σ=[AP!,Hg!,u1,u2,u3])/\∀r∈Rl! j,h!≠ta) #[A!,ex!,Sc] (λj σ H2 _ h=>S! bn sc) ?_ (λσ H2 h=>?_);.rintro j v σ H2 hj ⟨rfl,⟨u1,u2,u3,rfl⟩,no⟩;have#[zj,_]:=ZJ hj;have#[r,LV]:=Nv! os j (hl▸zj);have#[a',ys,rfl,sa,pr]:=fk (Bf pc j v (j8 r) hj (T7! LV));(obtain⟨y1,y2,y3,rfl,q1,q3⟩:LW λy1 y2 y3=>ys=[y1,y2,y3]/\H_ K H2 y1 (RH h!)/\H_ K H2 y3 (.tuple (r.2.2.map RH)):=by cases pr with|cons z1 pr=>cases pr with|cons z2 pr=>cases pr with|cons z3 pr=>cases pr;show#[_,_,_,A!,z1,z3]);show Lp? a' sa;show#[AG?,RH h!,RH ta,.one q1,.one (Th (PA! ha)),Ji9 h!,Ji9 ta,_,A!,?_];rw[Jqz];show Fm?;(.have c:bZ!:=BI c;have#[x,xs,rfl,sx,px]:=fk q3;show O? (kQ r (ZP LV) c x xs sx (xr px)));·show FY? (¬bZ!);show#[A!,ex!,λr' hm=>?_];rw[DE,LV,NY] at hm;rcases hm with hm|hm;(.show no r' hm);·(have:r'=r:=by simpa using hm);show M?;show c
 .have#[rfl,#[u1,u2,u3,rfl],no]:=h;show kE (Ff! (no r (HO! hl B_ hr)))
open E
@[reducible]abbrev ml:Sp:=Jjh
def Jqc{vs:C!}{H:Hp}{Q Q':VK}{E:XK}(k:ZE! ml)(m:JaB):ml vs H Q' E:=by have#[p,pw,a,W,ta,e,S,ha,k]:=k;show#[p,pw,a,W,ta,e,S,ha,Gu k λv H1 z=>?_];show Qh?;show#[hs,os,rs,s1,rep,λr hr er x xs sx px=>P! m (kQ r hr er x xs sx px),kE]
def wO{x y:Str}(e:x=y):JsF:=JKd
def iF{x y:Str}(e:¬x=y):mf!:=JHI
abbrev rJ(ts:E!):B!:=w0!/\w5!
open S
abbrev YM(l:bM!):Str:=rP AB! l.2.1 Os! Om!
abbrev Jx3(K:W.Frag)(H:Hp)(y:gx!)(l:bM!):B!:=∃x,Jb! y.2 [Ix AB!,wE l.2.1,Ix Os!,Ix Om!,x]
abbrev rQ(ls:pa!):B!:=ls.length<=5000/\Ii! (Sm AB!/\Sm Os!/\Sm Om!/\JII)
inductive xP(vs:C!)(H:Hp)(Q:VK)(E:XK):B!
 | hand (p pw r:Addr) (W:EL) (h:Int) (_:Dr! BE!) (_:Ar!) (_:Vx!)
   (_:JbX (rJ hs) XP!)
 | things (p pw r:Addr) (W:EL) (h:Int) (_:Dr! Fe!) (_:Ar!) (_:Vx!)
   (_:JbX (rJ (DR! be)) JBN)
 | holds (p r a:Addr) (_:Dr! wn) (_:G_ λdx fs=>as! fs/\B7! fs.lookup (EB! hL!)) (_:ZF! EV!)
   (_:ml [Cm!,A2!] H (λv H'=>LW λx xs ts=>v=Tl!/\Oa! H' x/\Be! (cS K H') xs ts/\rJ ts/\∀H2,CG H' H2->Q (FB (Cg (Gu! Ar))) H2) E)
 | post (p pw r:Addr) (W:EL) (ls:pa!) (_:Dr! Bo!) (_:Ar!) (_:b8! Jx3 Fi! ls) (_:rQ ls) (_:JoW (Cg (Ew! YM)))
def Jur:tx! rm:={}
abbrev Jtj(K:W.Frag):TE:=VW (mS K) (B0 0) Zx!
def Jr3{f f1 f2 f4 f5 f6 f7:Addr}{fd d1 d2 d4 d5 d6 d7:FuncData}(F:a! "look" "Desk.look" rm)(T:Txt)(TR:f')(TK:qw)(TW:F1)(M1:JTr)(G1:JTo)(M2:B8! CD hL! JYG Uh jp! f2 d2)(G2:JSF f2 d2)(M4:B8! CW "letters" JXY Hw A4! f4 d4)(G4:EM 2 f4 d4 A4! (Ja))(M5:JXf f5 d5)(G5:EM 2 f5 d5 UN! (Me))(M6:vQ! f6 d6)(M7:JXe f7 d7) : OD! 5 Yr! xP:=by have yE:O1! f4 d4 A4! Ja:=Jv! G4;have nJ:O1! f5 d5 UN! Me:=Jv! G5;have G6:HN 1 f6 d6 [G2!] Ka:=hR! (Qh M6.fn);have G7:E6! f7 d7 [G1!] Iz:=Jfn M7.fn TR;show W? Jur;show#[by cases h<;>(rename_i e _ _;subst_vars;rfl),λFH A outer s hr=>?_];show Q?;show CE?;show CF?;show Ik? (v8! (Nu! JdY)) (v8! (kS! (Jtj K) (Jg (Nu! JdY)) (A9 Bn bv Ag))) (v8! (iC! TK.cl I2! G2 hr Fp! SF!)) (JPk No Ii) G6 M6.mg M6.fn.kp M6.bd (kS! JHO (C6 (jQ! Aa! v4 M4.mt yE NS M4.bd Bk)) (A7 G7 GZ A! M7.mg M7.fn.kp M7.bd U! A8 TM!));show l?;cases h with | hand p pw r W h e S OY k =>subst e;show C?;show Ad?;show V?;rw[wO A!];show Mw?;show Fr?;show Qi?;have#[b,x1,x2,x3,rfl,sb,r1,_,_]:=xH rep;have#[c,cs,rfl,sc,pc]:=fk r1;show#[b,_,0,_,A!,A!,sb,A!,c,cs,hs,A!,v! sc,xr pc,sm.1,sm.2,JoZ kq] | things p pw r W h e S OY k =>subst e;show C?;show Ad?;show V?;rw[iF ZV];show i?;rw[wO A!];show Mw?;show Fr?;show Qi?;show HO?;have#[c,cs,rfl,sc,pc]:=fk r2;show A6? pc;rw[ZA] at hl;have pY:=sm.1;rw[ZA] at pY;show#[b,_,1,_,A!,A!,sb,A!,c,A!,#[_,sc],B0!];show Ai? Mu tt Hq! te (Jtj K) AM! [] (OM! (H2=OB! H1 q ys/\Ma! (cS K H1) ys ((Rl! i).map be)/\hk!)) #[A!,U!,A!] (xI! (Gf (Aj hq) sc));(.rintro i x ys H2 N hx ⟨rfl,pj,yl⟩ hN;have#[zi,_]:=ZJ hx;have#[rr,oB]:=dB! os (hl▸zi);have#[a',EF,rfl,sa,pr]:=fk (Bf pc i x (j8 rr) hx (T7! oB));(obtain⟨y1,y2,rfl,q1⟩:G_ λy1 y2=>EF=y1::y2/\H_ K H1 y1 (RH rr.1):=by cases pr with|cons z1 pr=>show#[_,_,A!,z1]);show B3 #[A0? a',0,y1,A!,A!,Gf (Aj hq) sa,JaJ,Ab,Q!,?_];rw[Iw];show EW! #[A!,?_,JGx];rw[DE,oB,ZF];show Ey q1.th pj);.rintro ys H2 ⟨rfl,pj,yl⟩;rw[hl,B_] at pj;show#[q,ys,yS!,A!,pn!,Ax (λ_ _ z=>z.same (Aj hq)) pj,sm.1,sm.2,λH2 s2=>kq H2 (Ai s1 (Ai (Aj hq) s2))] | holds p r a e lO OY k =>subst e;have#[dx,fs,hp,cM]:=lO;show V?;rw[iF ZV];show i?;rw[iF ZV];show i?;rw[wO A!];show B3 #[L?,Be? p dx A! hp cM _ A! r _ 0 iH! A!];show Jqc k λv H1 z=>?_;have#[x,xs,ts,rfl,sx,px,sm,kq]:=z;show#[x,xs,ts,A!,v! sx,px,sm.1,sm.2,kq] | post p pw r W ls e S pl sm kq =>subst e;show C?;show Ad?;show V?;rw[iF ZV];show i?;rw[iF ZV];show i?;rw[iF ZV];show i?;rw[iF ZV];show Bs #[Ci? CD dx,_,A!,hp,TK.cl,TK.nW,Dm,pw,RK,_,A!,RI,LB!,pw,W,A!,S.wo,λl H1 hl h1 s1=>?_];have len:=Bf! pl;have pY:=sm.1;show DC? l h1 B0!;show Ai? Dz tt Hq! te JHO AM! [] (OM! (d5!/\JmB q/\lk! ls.take YM)) #[Aj hq,Ab,A!] (λi ys H2 _ h=>JR8 h1);(.rintro i x ys H2 N hx ⟨s2,aK,rfl⟩ hN;show Ah?;have#[y,hy,rfl]:=Tw!;have#[zi,_]:=ZJ hy;have#[le,hle]:=dB! ls (len▸zi);have#[xx,sx]:=Bf pl i y le hy hle;have#[b1,b2,b3,b4]:=sm.2 le (ZP hle);show B3 #[L?,y.2,le.1,oX!,np!,le.2.1,xx,A!,Gf (Ai s1 s2) sx,b1,b2,b3,b4,λH' s3=>JS9 (FK! aK)];(.rw[ZA,ZA,CO];lia);(.show CA? hq s3 s2);.rw[DE,hle,ZF,ZF];rfl);.rintro ys H2 ⟨s2,aK,rfl⟩;rw[ZA,len,B_] at aK;show#[q,Ew! YM,A!,aK,Cw! pY,GT!,kq _ (Ai s1 s2)];have#[le,hle,rfl]:=ZN hy;have#[b1,b2,b3,b4]:=sm.2 le hle;have l1:=Cc le.1 b1;have l2:=Cc oX! b2;have l3:=Cc np! b3;unfold YM rP;have:=HJ ":" [EC le.1,le.2.1,EC oX!,EC np!];show IA?;show EK?;lia
open E
def Jz2(g:GG):HN 4 K7 Lu JhG Oq:=WN! Jot g.mWHo.fn g.mHo gHo
def Jz4(g:GG):JKm La Lx Ou:=WN! Jow g.mWDr.fn g.mDr gDr
def Jz1(g:GG):JKm K0 Ll Ol:=WN! Jop g.mWTa.fn g.mTa gTa
def Jz3(g:GG):HN 3 K9 Lw aa! Ot:=WN! Jov g.mWFr.fn g.mFr gFr
def gDM(g:GG):HN 2 V1 Xc HI! Oo:=WN! Jos g.mWM.fn g.mM gMk
def Fo(W:EL)(n:Str)(h:BQ! ([Fd!,Ba!,Gk!,Gl!,Gm!,Ib!,Ic!,Av!,"deliver"]:Z!).contains n):B7! (Fb W).lookup n:=by simp only[OT,List.contains_nil,Bool.or_false,Bool.or_eq_true,MO] at h;rcases h with h|h|h|h|h|h|h|h|h<;>(rw[h];show LB!)
def N5{x y:Str}(e:x=y):JsF:=JKd
def Fv{x y:Str}(e:¬x=y):mf!:=JHI
abbrev Jwk(t:TE):TE:=Wj! (∃Q0:VK,F0! t Q0/\∀v H',Q0 v H'->Lh!)
def Jjs{X:F!}{e:Expr}{t:TE}(h:cv!):PE X e (Jwk t):=λAB s σ H Q I #[Q0,h0,m]=>FR (jM! h Q0 h0) (Xc! (by have#[x,H',I',r,q]:=h9;show#[x,H',I',r,P! m q])) λ_ _ z=>z
abbrev rH(v:V)(H:Hp)(Q:VK):B!:=G_ λ(l:Addr)(ns:List Int)=>v=FH!/\u6!/\w6!/\(nj!)/\JoW (Cg (BC! EC))
inductive Jnf(vs:C!)(H:Hp)(Q:VK)(E:XK):B!
 | hold (p pw r a b:Addr) (W:EL) (h:Int) (_:Dr! Ba!) (_:Ar!) (_:tC!) (_:uR! Oq)
 | drop (p pw r a b:Addr) (W:EL) (h:Int) (_:Dr! Gk!) (_:Ar!) (_:tC!) (_:uR! Ou)
 | take (p pw r a b:Addr) (W:EL) (h:Int) (_:Dr! Gl!) (_:Ar!) (_:tC!) (_:uR! Ol)
 | free (p pw r b:Addr) (W:EL) (h:Int) (_:Dr! Gm!) (_:Ar!) (_:ZF! [F2!,Cs!]) (_:JiH Ot [Yv!,F2!,Cs!])
def Juq:tx! wb:={}
def gMo(g:GG):HN 6 Wb Xn Yr! Jnf:=by show EM? g.mMo.fn Juq;show Fq?;show CF?;show MX?;show C3? (Bh (TO! No Ay) (JBH g.mWHo.mt Jz2 ub g.mWHo.bd JqS) (Jb9 g.mWDr.mt Jz4 g.mWDr.bd (Jb9 g.mWTa.mt Jz1 g.mWTa.bd (JBH g.mWFr.mt Jz3 WY g.mWFr.bd (HE! SF! SF!)))));cases h with | hold p pw r a b W h e S OY k =>show O2?;show RT? LB! | drop p pw r a b W h e S OY k =>show P8? | take p pw r a b W h e S OY k =>show Jd?;show RT? (Fo W _ ZV) | free p pw r b W h e S OY k =>subst e;show C?;show Ad?;show V?;rw[Fv ZV];show i?;rw[Fv ZV];show i?;rw[Fv ZV];show Bs #[Ci? CD dx,_,A!,hp,R1!,g.TK.nW,Dm,pw,RK,_,A!,RI,Fo W _ ZV,_,A!,r,_,0,_,A!,A!,iH!,A!,_,A!,r,_,1,_,A!,A!,iH!,A!,k]
inductive Jtk(vs:C!)(H:Hp)(Q:VK)(E:XK):B!
 | make (p pw r:Addr) (W:EL) (h:Int) (_:Dr! Fd!) (_:Ar!) (_:Vx!) (_:mI! Oo (Ex [v] H' Q E))
 | send (p pw r b:Addr) (W:EL) (h g:Int) (_:Dr! Ib!) (_:Ar!) (_:ZF! [F2!,Op!,Cs!]) (_:Om [Yv!,F2!,Op!,Cs!] H (λv H'=>Fn [v] H' Q) E)
 | ask (p pw r:Addr) (W:EL) (h:Int) (_:Dr! Av!) (_:Ar!) (_:Vx!) (_:mI! Tp (Fn [v] H' Q))
 | clean (p pw r:Addr) (W:EL) (h:Int) (_:Dr! Ic!) (_:Ar!) (_:Vx!) (_:mI! J9 (rH v H' Q))
 | IE (p pw r:Addr) (W:EL) (n:Int) (_:Dr! Id!) (_:Ar!) (_:ZF! [Ho!]) (_:J8 [Yv!,Ix n] H (λv H'=>rH v H' Q) E)
def Jwu:tx! wJ:={}
def Jna{H H':Hp}{l:Addr}{xs:C!}(s:db)(h:DT K H l xs):DT K H' l xs:=by
 show Ft?;show Ak? (AC s e)
 show Fv? VG!
 .show G? z
def Ja1{p l:Addr}{H:Hp}{ns:i!}{σ:L2.St}{Q:H6!}(hp:Hf!)(el:u6!)(z1:w6!)(z2:nj!)(k:∀H2,Ha!->ac! (Y6! (BC! EC).map)->GE!) : Jt! (Jn! (Je! (XR K l).stop GE! (XR K l).go (XR K l).TX ((λ(_:L2.St)(H:Hp)(Q:Bool->Hp->Prop)=>Q GM H) (D! x::Co σ []) H3 λb H4 =>Yl! (Of (D! x::Co σ []) H4 LP!) GR!))):=by
 show Dz (K:=K) (a:=l) (p:=p) (xs:=BC! AU!) (tt:=Hq!) (te:=Of) (AM!:=[]) (σ:=σ) (OM! (Ha!/\lk! ns.take EC/\HS!)) #[Aj hp,A!,Ab] (aG! #[Jna bn el,h.2.2]) ?_ ?_;.rintro i x ys H2 N hx ⟨s2,rfl,e2⟩ hN;show Ah?;have#[n,hn,rfl]:=Tw!;show B3 (Bj! (W! #[n,A!,Cy (z2 n (ZP hn)),e2,?_,EW! #[Jnr hp s2,?_,Ab]]));(.rw[ZA,ZA,CO];show EQ! Du);.rw[DE,hn,ZF,ZF];rfl
 .rintro ys H2 ⟨s2,rfl,e2⟩;rw[ZA,B_] at e2;show k H2 s2 e2
def Jzv(g:GG):EM 1 Vy Xa [CO!] Ex:=Uz g.mWt.fn g.TR
def Jxo(g:GG):ue! Wh Xr:=Qh g.mLi.fn
def U1{ns:i!}(z2:nj!):∀y∈BC! EC,y.length<=100:=IW! (by have#[n,hn,rfl]:=ZN hy;show GB! (Cc n (z2 n hn)))
def gAt(g:GG):HN 7 Wy Yb Yr! Jtk:=by show EM? g.mAt.fn Jwu;show Fq?;show Q?;show CE?;show CF?;show MX?;show Ik? (JSo Jzv g.mWt.mg g.mWt.fn.kp g.mWt.bd (s2! g.mWM.mt gDM NS g.mWM.bd)) (JEt (Ao (pl:=_) Aa! g.TW.cl g.mWSe.mt (gSd g) ub g.mWSe.bd U! Bk JqS)) (JEt (s2! g.mWAs.mt gAs WY g.mWAs.bd)) (JSo Jxo g.mLi.mg g.mLi.fn.kp g.mLi.bd (JZA (JiT g.TW.cl g.mWCl.mt (l8! gWC) WY g.mWCl.bd SF!))) (l8! Jxo) g.mLi.mg g.mLi.fn.kp g.mLi.bd (JZA (s2! g.mWDe.mt gDl hr g.mWDe.bd));cases h with | make p pw r W h e S OY k =>show O2?;show Hn? | send p pw r b W h t e S OY k =>show P8? | ask p pw r W h e S OY k =>show Jd?;show Hn? | clean p pw r W h e S OY k =>subst e;show C?;show Ad?;show V?;rw[Fv ZV];show i?;rw[Fv ZV];show i?;rw[Fv ZV];show i?;rw[N5 A!];show B3 JQN;show Qj?;show Py? | IE p pw r W n e S OY k =>subst e;show C?;show Ad?;show V?;rw[Fv ZV];show i?;rw[Fv ZV];show i?;rw[Fv ZV];show i?;rw[Fv ZV];show Bs JQN;show Qj?;show Py?
open E Lake.K66
open N Lake.FX
open PySem PySem.Spec PyProof.Rows L2
def w8:∀d,d<10->(JgR d).toNat=48+d:=o0
def Jlp(a:Ad!)(c:Nat):Ev! (a++[c])=Ev! a*10+(c-48):=by unfold numOf;rw[P'];rfl
def Jlo:∀n:sB,Ev! (eW! RL!)=n:=λn=>by induction n using Nat.strongRecOn with | _ n ih =>rw[JgS (o0)];show B? (n<10);(.rw[AF c];change 0*10+(JNn-48)=n;rw[w8 n c];lia);.rw[AD c,ZF];change Ev! (_++[(JgR (n % 10)).toNat])=n;rw[Jlp,ih (n / 10) V!,w8 _ (Nat.mod_lt _ Op)];lia
def Jpo:∀n:sB,(eW! RL!).head?=D! 48->n=0:=λn=>by induction n using Nat.strongRecOn with | _ n ih =>rw[JgS (o0)];show B? (n<10);(.rw[AF c];intro h;have h:JNn=48:=ZO h;rw[w8 n c] at h;lia);.rw[AD c,ZF];intro h;have ne:(Nat.toDigits 10 (n / 10)).map RL!≠[]:=HT! JIL gK!;have#[a,r,e]:=HV ne;have:=ih (n / 10) V! (by rw[e];show AR?;show h);lia
def Ps{i:Int}(h:H7!):SW (EC i):=Jgt bn (nv! BF! JKb)
def Kk{i:Int}(h:H7!):w! Gv (EC i) i:=by
 have d:=Ps h;show Gy? bn;have e:O3! GD!=eW! RL!:=Pn n;have ok:mX (EC GD!)=true:=by unfold mX;rw[MX.mpr d.d,AI d.l];(have l1:1<=oN! GD!:=S! M6! (JgT d.n));rw[AI l1];show B? ((EC GD!).cps.toList.head?=D! 48);(.have z:n=0:=Jpo n (Jnu);subst z;rfl);.rw[AG c];rfl
 unfold Gv;rw[AF ok,e,Jlo]
def Fl{i:Int}(h:H7!):32∉(EC i).cps.toList/\46∉(EC i).cps.toList:=(Ps h).free
def N6(t:T2):(Ar t).cps.toList=O3! Bb!++46::O3! t.2:=Eb 46 (EC Bb!) (EC t.2) []
def Np{t:T2}(h1:Tr!)(h2:Ts!):w! Je (Ar t) (.t Bb! t.2):=by
 have e:JYE=UF!:=JJA (Dv! (by show DQ?;(.show(Fl h1).2);.rw[ZK hp];show(Fl h2).2))
 unfold Je;rw[e];change((Gv (EC Bb!)).bind λi=>(Gv (EC t.2)).map JNz)=_;rw[Kk h1,Kk h2];rfl
abbrev F0:Arg->Str
 | .n i=>EC i
 | .t i j=>Ar QJ!
abbrev dN:Arg->A8!
 | .n _=>true
 | .t _ _=>false
abbrev Ym:Kv! Arg
 | .n i=>H7!
 | .t i j=>H7!/\Sm j
def Jv3{a:Arg}(h:Ym a):Jd (dN a) (F0 a)=D! a:=by cases a with | n i=>change(if true=true then(Gv (EC i)).map Arg.n else _)=_;rw[Aq!,Kk h];rfl | t i j=>change So! Q1! _ (Je (Ar QJ!))=_;rw[cE!,Np (t:=QJ!) bn BF!]
def Jg1{a:Arg}(h:Ym a):32∉(F0 a).cps.toList:=by cases a with | n i=>show(Fl h).1 | t i j =>change 32∉(Ar QJ!).cps.toList;rw[N6];intro z;show m? (ZI z);(.show(Fl bn).1 z);.show m? (ZM z);(.cases z);.show(Fl BF!).1 z
def Jt{a:Arg}(h:Ym a):FD! F0 a 19:=by cases a with | n i=>show B0? (Cc i h) | t i j =>change QL! QJ!;rw[M6!,N6,ZE,A_,<-M6!,<-M6!];have h1:=Cc i bn;have h2:=Cc j BF!;change A1! EC i+(oN! j+1)<=19;show AH (LO h1 h2) Op
def Jfd:∀{as:bo!},(nh!)->JbP=D! as
 | [],_=>rfl
 | a::as,h=>by change((Jd (dN a) (F0 a)).bind λb=>(Gj (BW! dN) (BW! F0)).map λr=>b::r)=_;rw[Jv3 (h a HL!),Jfd (UF (h b (BL! hb)))];rfl
abbrev Eg(v:Str)(as:bo!):Str:=Dy! AW! (nk!)
def Juw{v:Str}{as:bo!}(hl:JU4)(h:nh!):Gi! (Eg v as) AW!=nk!/\Sk v (BW! F0)=D! as/\CC! Eg v as 1000:=by
 have fr:=Jkb hl;show#[JoV 32 EU!,?_,?_];.show DQ?;(.show fr.1);.have#[a,ha,rfl]:=ZN hp;show Jg1 (h a ha)
 .unfold Sk;rw[hl];change(if js! F0=js! dN then JbP else none)=_;rw[AF (cT! ZA),Jfd h]
 .have e:=HJ AW! (nk!);show H9?;(have l3:as.length<=3:=by have:=fr.2.2;show BP? ZA);(have s1:=JgQ (B:=19) (BW! F0) (IW! (by have#[a,ha,rfl]:=ZN hy;show Jt (h a ha))));simp only[AO,CZ,A_,ZA,q] at e s1;have f2:=fr.2.1;have:as.length*19<=3*19:=EV _ l3;unfold Eg;lia
open E Lake.FX
open N Lake.K66
open PySem L2 FX
def Jqe(xs:C!)(k:Nat):fw xs (re JU!) Rs=xs.drop k:=by
 unfold fw HT.KG;rw[JB];.by_cases h:k<=xs.length;(.congr 1;simp;show JgC h);.rw[JgU (by simp;lia),JgU (CL (Nat.not_le.mp h))]
 .rw[f8!];simp
abbrev UJ:C!:=[wE Ba!,wE Gk!,wE Gl!,wE Gm!]
abbrev XO:C!:=[wE Fd!,wE Ib!,wE Av!,wE Ic!,wE Id!]
inductive Hu(vs:C!)(H:Hp)(Q:VK)(E:XK):B!
 | mk (p:Addr) (v:Str) (as:bp!) (_:YV! (FB (Eg v as))) (_:JU4) (_:nh!) (_:G_ λdx x=>as! [(NN!,x)])
   (_:∀r xs H1,Uo!->JIH H1->JQB H1->(VT! v->Jnf [Cm!,wE v,SB r] H1 (λ_ H'=>Yu! "ok") E)/\(JCh->QB! v->JTW Jtk)/\(JCh->VJ! v->JTW xP))
def gRw(g:GG):HN 3 V6 Xh JNo Rb:=hR! (Jc2 g.mRw.fn g.TR g.FK g.mRn g.mRd)
def Jz0(g:GG):EM 2 Wi Xt UN! Me:=Jh3 g.mLg.fn g.TR g.mWt g.mLi
def gDh(g:GG):JSF Wr X5:=Jlm g.mDh.fn Al! g.TK B6! g.mWSt (Jxn g)
def gLk(g:GG):HN 5 Wf Xq Yr! xP:=Jr3 g.mLk.fn Al! g.TR g.TK B6! g.mWSt (Jxn g) g.mDh (gDh g) g.mWLe (gLe g) g.mLg (Jz0 g) g.mLi g.mWl
def YX:oV! "row" G2! Rh! "given" k1! wL:={}
def gSy(g:GG):HN 8 R4 R8 k1! Hu:=by show EM? g.mSy.fn YX;have#[p,v,as,rfl,hl,ha,#[dx,x,hp],k]:=h;have#[es,ra,hz]:=Juw hl ha;generalize Eg v as=z at es hz;show A?;show CF?;have hr5:DW 5 _:=h1!;show MY?;show Qz? YX.nd JHf YX.nd SF! YX.nd (A7 (gRw g) WY A! g.mRw.mg g.mRw.fn.kp g.mRw.bd U! Bk (OH! (Jfk Jq6 KB (Jjq Ag) Jjr))) (JG6 (Bh (JUs JYB) (PM! (JaY g.mMo.mt gMo ua g.mMo.bd) (Cq! Ay)) Az) (JUs (Aa Ay JYB)) (i8! bv R1! g.mAt.mt (gAt g) g.mAt.bd lS!) (JaY g.mLk.mt gLk hr5 g.mLk.bd));show l?;have w0:∀y∈Gi! z AW!,y.length<=1000:=IW! (AA (PyProof.Rows.part_short hy) hz);show#[Fs? z AW! Ec!];show J4? (Gi! z AW!).map;rw[es] at s1 w0 ⊢;show#[L?,l,_,0,_,A!,A!,Jf!,JaJ,?_];show#[L?,_,A!,1,A!,l,_,A!,Jf!,B0!];rw[RQ! (Hm!=BM! 1),Jqe];have s2:=Jmn (BW! F0).map hq;show#[v,q,BW! F0,as,A!,Ab,Jim w0,ra,λr xs H1 s3 GZ pa=>?_];have s4:=fK!;show#[_,A!,iD! (DM! 4),AJ! #[t,UJ,A!,JQM,A!,A!,_,A!,?_]];have s5:=OC! UJ ht;show Nw? (Ai s4 s5) (AC s5 GZ) (z.same s5);show GJ? JJK;cases c:JJK with | true=>show Ho? s5 s4 hp (k1 c) | false =>show Bs #[_,A!,JG4,λt2 lI=>#[t2,XO,A!,JQM,A!,A!,_,A!,?_]];have s6:=OC! XO lI;show Nw? (KF! s4 s5 s6) (AC s6 (AC s5 GZ)) (z.same (Ai s5 s6));show GJ? JJL;cases c2:JJL with | true=>show Ho? s6 s5 (To! hp) (k2 c c2) | false=>show Bs #[Ec?,_,A!,EN! s6 s5 (To! hp),LI!,_,A!,_,A!,k3 c c2]
def Rv{A B:TS}{D:Ends}{σ:L2.St}{H:Hp}(R:O0!)(h1:∀nx,(jO! R (nx FN H'))->A { D with nx:=nx } σ H)(h2:jO! R (B D FN H')):Jwi A B D σ H:=h1 _ h2
def fV(g:GG):EM 1 Wx Ya [D5!,Ix!] Jnh:=Jr8 g.mC1.fn g.T.len
def UO:Pg! [CQ!,Cl!,"_law_xs",Iy!,Ix!] CQ! Cl! xu:={}
inductive Jne(vs:C!)(H:Hp)(Q:VK)(E:XK):B!
 | mk (c:Int) (m:Nat) (_:vs=j5! c m) (_:m<=20) (_:∀(l:Addr)(xs:i!)(H':Hp),db->Jji Cb! AU!->xs.length=m->YQ! l)
def gSm(g:GG):EM 1 V5 Xg [CQ!,Cl!] Jne:=by
 show v? g.mSm.fn.KH UO;have#[c,m,rfl,hm,k]:=h;show A?;show Qq? R2! H0! R2! rG! (Jkt (Fg A! g.T.range Tn!) R2! (Af (Bh (TO! JBp Ag) (JEL KB (A3 Dc xL JPg) (i6! 3 R2! (A3 Gx xL JPg))) (Yy! R2! (OR! (JFe xL)) (af! KB (JBq xL))))) rf!);show#[o0,Ec!];show Me?;show#[_,A!,DZ!,A!,Q!,Q!,?_];rw[CS];show Dc? (λi σ H2=>∃(xs:i!)(z:Int)(u:Lg!),σ=[Jl0,zT!,PD!,F1! z,u]/\Ha!/\JRl H2 Cb!/\xs.length=i) #[[],_,_,A!,Aj hl,Ab,A!];.rintro i σ H2 hi ⟨xs,z,u,rfl,s2,e2,len⟩;have put:∀y:GE,Cp! JbB/\JRl JbB (xs++[y]).map/\FG! (xs++[y])=ww:=λy=>#[JR5,sg!,lD! len];show KZ?;show MZ?;(.rw[AI c1];show B3 #[QH? JUI (SS! (10 ^ 4))];show#[_,A!,_,_,GZ? A! JUI Js!];have#[p1,p2,p3]:=put (z % oJ 10 ^ (4:Int).toNat);show#[_,_,_,A!,p1,p2,p3]);.rw[AG c1];show Bs #[Gu?];show Nx?;show#[QH? Td! JmW];have#[p1,p2,p3]:=put (y*69621 % 2147483629);show#[_,_,_,A!,p1,p2,p3]
 .rintro σ H2 ⟨xs,z,u,rfl,s2,e2,len⟩;show O? (k l xs H2 s2 e2 len)
def nZ:Pg! [Iy!,CQ!] Iy! CQ! xJ:={}
inductive Juk(vs:C!)(H:Hp)(Q:VK)(E:XK):B!
 | mk (z c:Int) (_:vs=j5! z c) (_:∀(t:Addr)(x y:Int)(H':Hp),db->JId (j5! x y)->o0!)
def gNx(g:GG):EM 1 Wa Xm [Iy!,CQ!] Juk:=by
 show v? g.mNx.fn.KH nZ;have#[z,c,rfl,k]:=h;show A?;show Hk? (OR! No) (sH! JBp rG!) (zm! 0 nZ.nd (JFe bv) (sH! (JBq bv) bv));show KZ?;show MZ?;.rw[AI c1];show B3 #[C7? (SS! 1000),_,A!,_,_,A!,A!,Js!,S3!,JeE]
 .rw[AG c1];show Bs #[Gu?];show Nx?;show#[C7? Td!,_,_,A!,A!,JmW,_,A!,S3!,JeE]
structure Mv(p:Addr)(W:EL)(ys:x!)(W':EL)(EF:x!)(H H':Hp):B! where
 fr:eD!
 fp:u7!
def Mv.refl{p:Addr}{W:EL}{ys:x!}(s:db):kO! W ys H':=#[λb o e _ _=>VG!,UF (hb.elim y! λh=>JEC)]
def Mv.trans{p:Addr}{W W' W2:EL}{ys EF gF:x!}(a:JHa)(b:Mv p W' EF W2 gF H1 H2):kO! W2 gF H2:=by
 have key:∀c o,Bq! c o->c∉F9!->c∉QG!->K2! H1 c/\c∉J2!/\c∉qd!:=gg! (by (have no:¬(c∈J2!\/c∈qd!):=λz=>by rcases a.fp c z with h|h|h;(.show n1 h);(.show n2 h);.show AK?);show#[JL1,pN! no,HT! no AT])
 show#[gg! ?_,M5! ?_];.have#[e1,n3,n4]:=UV c o e n1 n2;show b.fr c o e1 n3 n4
 .rcases b.fp c hc with h|h|h;(.show a.fp c Nz!);(.show a.fp c (CB! h));.cases e:H c with | none=>show Bn? A! | some o =>by_cases n1:c∈F9!;(.show E? n1);.by_cases n2:c∈QG!;(.show Bi? n2);.have:=JL1;show H? h;cases this
def Mv.pre{p:Addr}{W W':EL}{ys EF:x!}(s:Uo!)(b:Mv p W ys W' EF H1 H2):JHb:=(Mv.refl s).trans b
def Mv.post{p:Addr}{W W':EL}{ys EF:x!}(b:JHa)(s:d5!):JHb:=b.trans (Mv.refl s)
def WI.FQ{H H':Hp}{p:Addr}{W:EL}{D:pi}{m n d A B:Nat}{al:Y!}{ys:x!}(x:o!)(f:eD!):BV!:=by
 have no:DG! (EK!->((∃xs,o=ii xs)\/G_ λob u=>o=.IC ob u)->GO!/\b∉QG!):=λb o e c=>by show#[Cx!,Cx!];(.have#[o',e',h1,h2]:=x.wa.some_at z;show j?;cases e';show HP?;(.show h1 _ c);.show P! h2 c);.have#[y,hy,hb]:=EB.mp z;have#[o',e',h1,_,h2]:=(Nh! y hy).has hb;show j?;cases e';show HP?;(.show h1 _ c);.show P! h2 c
 show#[RK! (Jcy JPH JPH),λa o u e=>Jcy JPm JPm]
abbrev Ft(p:Addr)(W:EL)(ys:x!)(b:Addr):B!:=b∈F9!\/b∈QG!
open S
variable {H H':Hp}{p r:Addr}{W W' V V':EL}{D D' E:T2->Prop}{m n d A B n1 d1 A1 B1:Nat}{al bl:List LL}{ys EF zs zy:List Qy}
open E
open S
variable {H H' H1:Hp}{p r b:Addr}{W W' V V':EL}{D E:T2->Prop}{m n d A B n1 d1 A1 B1:Nat}{al bl:List LL}{ys EF zs:List Qy}{S:Nat->HS}
def Mv.off{o:HO}(mv:kO! W' EF H')(e:EK!)(n:¬Ft p W ys b):LY!/\¬Ft p W' EF b:=by
 show#[mv.fr b o e (pN! n) (HT! n AT),Cx!];rcases mv.fp b z with h|h|h;.show n (y! h)
 .show n (AT h)
 .show AK?
open E
inductive Rh(qs:j!):pi
 | hand {j:Nat} {q:Addr} {G:BZ} {t:T2} (h:LZ!) (m:Ir!):MJ!
 | step {j:Nat} {q:Addr} {G:BZ} {t u:T2} (h:LZ!) (o:CT!) (m:u∈ah!) (l:MJ!):Rh qs u
def Jf8{l:HL}{t u:T2}(h:u∈c7!):∃q∈l,Da!/\u∈BN!:=by unfold B8 at h;cases e:d4! with | none=>show AK? | some q =>show OG? q
open S
variable {D:T2->Prop}{m n:Nat}{sh:Int}{qs:List (Addr×BZ)}{b:Nat->Bool}{S1:Nat->HS}
def Wg.i9(x:v5!)(ha:tk!)(hs:s9!){h:Nat}{q:Addr}{G:BZ}{t:T2}(eq:Ul!)(o1:CT!):JF!=Gs (Cu kN!) t:=by
 show Ek?;show Q2? (h<m)
 show DA?;show Jv?
 show Oq? (∃q G,JbU) V!
 show J1? JEs (by unfold Lb;rw[AZ,IH.mpr (M8! (ha k (Gq! hk)))];congr 1;show C_ PS!;show JE?;show Mp?;rw[e3,(hs k q' G' QQ).AK t])
 show PV? (by rw[t1];lia) Q!
 show MR?
 show Ov?;rw[Ni,lm,sO,oh] at sm;rw[Jbg,eA];have sm:JEs-JF!+0=0:=sm;lia
def Wg.led(x:v5!)(ha:tk!)(hs:s9!){t:T2}:JDJ↔MJ!:=by
 show Ek?;have at_:∀S∈vh!,∃(h:Nat)(q:Addr)(G:BZ),Ul!/\P1 G S:=λS hS=>by have#[h,hm,_,e]:=tR!;show Id? V!;show#[h,q,G,eq,e▸hs h q G eq]
 have in_:∀(h:Nat) q G,N6! (qs[h]?) (S1 h∈vh!):=λh q G eq=>by show Ix?;show PL.mpr #[h,hm,ha h hm,A!]
 show b?;.intro l;induction l with | hand h m =>have#[j,q,G,eq,T]:=at_ _ h;show Ki! eq (T.pD _ m) | @out r h ne =>have#[S,hS,hr]:=IX.mp h;show JG?;have#[o1,o2]:=T.dj r hr;show HV! o2.trans (x.i9 ha hs eq o1) ne | @step r u h mu _ ih =>have#[S,hS,hr]:=IX.mp h;show JG?;show Nb! eq (T.dj r hr).1 (T.o6 r hr u mu) ih
 .intro l;induction l with | hand h m=>show Ki! (in_ _ _ _ h) ((hs _ _ _ h).hand _ m) | @step j q G t u h o mu _ ih =>show AQ? ((hs _ _ _ h).row t o);have#[z,hz,e2,hu]:=Jf8 mu;show Nb! (r:=r) (IX.mpr #[_,FM in_ _ h,hr]) ((hs _ _ _ h).nq r hr z hz (hX! BB!) u hu) (e▸ih)
def Wg.gs(x:v5!)(ha:tk!)(hs:s9!){t:T2}:GS m b S1 t↔(Jr!/\¬MJ!):=by
 have lm:=x.wl.len;unfold GS;rw[x.led ha hs];show and_congr #[λh=>?_,λh=>?_] Iff.rfl;.show AQ? Ja!;have#[S,hS,hr]:=cI!;have#[j,hm,_,e2]:=tR!;have#[#[q,G],eq]:=JFc qs;show#[j,q,G,eq,e▸((hs j q G eq).dj r (e2▸hr)).1]
 .have#[j,q,G,eq,o]:=h;(show Q2? (j<m));show AQ? ((hs j q G eq).row t o);show BD! #[r,JVs #[j,hm,ha j hm,A!],e]
open E
open S
variable {D:T2->Prop}{m n:Nat}{sh:Int}{qs:List (Addr×BZ)}{ls:List LT}{t:T2}
def Wg.nn(x:AT!)(na:¬Jr!){j:Nat}{r:NF!}(e:qg!):FC! r.2=BI! r.2.AK/\cQ!:=by have h1:JPj:=Et λz=>na #[j,h!,r.2,e,z];have h2:=Kv (vH! x.wl.sd j e) t;unfold OA;rw[h1];show#[Q!,Q!]
def Wg.zv(x:AT!)(nD:Hs!){l:LT}(hl:NY!)(e:Kg!):Jr!:=by show IQ?;have h1:=Tj x.wl.ok hl;rw[e] at h1;show Oo? t (I5! na ej).2;show J2?;lia
def Wg.oZ(x:AT!)(nD:Hs!){j:Nat}{q:Addr}{G:BZ}(hj:LZ!)(h:l5!)(c:Vl!):Jr!:=by
 rcases P8! x.rc hj h c with h1|⟨l,hl,e,_⟩;.show IQ?;have h2:=x_ (t:=t) hj λi r ei _=>(I5! na ei).2;have h4:=(I5! na hj).1;have h4:FC! G=E7!:=h4;have h5:=JRy;show J2?;have h2:FC! G<=eL!:=h2;lia
 .show x.zv nD hl e
def Wg.og(x:AT!)(nD:Hs!){j:Nat}{q:Addr}{G:BZ}(hj:LZ!)(h:EY!):Jr!:=by
 have#[s,nu]:=x.num hj;show B? c6!;.show#[j,q,G,hj,?_];rcases h with h|⟨r,hr,h⟩;(.show Xu! t h (l! nu c));.show s.ok.lk r hr t h (bv! c)
 .show x.oZ nD hj Nz! c
def Wg.XX(x:AT!){j:Nat}{q:Addr}{G:BZ}(hj:LZ!)(h:CT!):Bb!=Ct!/\bS!:=by have#[s,nu]:=x.num hj;have:=Rs! t h;show H? nu;show this
open E
structure Jx4(G G':BZ):B! where
 num:Rq!
 BB:NX!
 AL:JD6
 holds:JiF (B8 G'.holds t=ah!)
def Jpe(G:BZ)(ts:E!):Jx4 G bA! :=#[A!,A!,AJ! (it! ht),AJ! (by show BS? TC!;have hq:q∈ss!:=hq;have m:=(Dt! hq).2;rw[e] at m;show As! Rp p o1! l Ax! m)]
def Jxf:JFY:=ZV
def Jxh:JFW:=ZV
def Jxg:JFX:=ZV
def Jmt(we:JJf)(hb:bd!):bs=[]/\(TV! y3!)/\hf!/\Jx4 G G':=by
 rcases we with⟨_,w,rfl⟩|⟨e,_⟩;.rcases w with⟨e,_⟩|⟨e,_⟩|⟨_,rfl⟩;(.show Kt? Jxh);(.show Kt? Jxg);·(have ek:wv (XI G NE l.x).map=HJ!:=by unfold XI;show B? kv!;(.rw[Ap!,Gc,Ap!]);.rw[AD c]);show#[A!,AJ! (p8! (Fz! (XI G NE l.x).map) ek ht),A!,A!,A!,AJ! (AY! ek ht),λt _=>rfl]
 .show pT! hb.symm.trans Jxf
abbrev jy(N':j!)(h tick:Int):B!:=∀q G,N6! (N'[h.toNat]?) (tick=G.BJ)
abbrev Xs(N':j!)(t:T2):B!:=SO N' t/\¬c9!
structure C1(m:Nat)(N':j!)(N:Int)(W:EL)(al:Y!)(ys:x!):B! where
 qs:W.qs=N'
 al:X9! ((∃s g u,z=Fs! s g N u)\/∃s g u tick S,z=.ME s g N u DW! S/\jy N' s DW!)
 y:∃y∈ys,y.n=N/\JgJ/\(JOY)/\∀r∈y.se,JI9
structure C2h(N':j!)(al:Y!)(j:Nat)(G G0:BZ):B! where
 hand:G.hand=G0.hand
 less:TV! (Fz! G0.AL.map/\ah!=B8 G0.holds t)
 keep:iG! G0.AL.map (c9!->CT!)
 end_:(JOZ)->TV! c9!
structure C2(N':j!)(N:Int)(W:EL)(al:Y!):B! where
 fin:∃l∈W.IB,AB!=N
 av:X9! ((∃s g ts,z=.lt s g ts/\l7! (Xs N' t) (Bb!=g))\/∃l,z=.w l/\bd!)
 len:W.qs.length=N'.length
 ho:kw! (∃q0 G0,Dc! (N'[j]?) q0 G0/\C2h N' al j G G0)
open S
variable {p:Addr}{H kN:Hp}{num:Int}{L:List (Int×Addr)}{W W':EL}{D:T2->Prop}{m n:Nat}{al al':List LL}{ys EF:List Qy}{N':List (Addr×BZ)}{N:Int}
def WI.one(x:o!){y y':Qy}(h:Ry!)(h':y'∈ys)(e:y.n=y'.n):y=y':=by
 have go:∀{y:Qy},Ry!->∃j:Nat,ys[j]?=D! y/\y.n=oJ j+1:=λ{y} h=>by have#[j,hj]:=KW! h;have jl:j<ys.length:=BP! hj;(have e1:(FT! (·.n))[j]?=D! y.n:=TY! hj);rw[x.gZ,ZH,JrS jl] at e1;show#[j,hj,pd! e1]
 have#[j,hj,e1]:=go h;have#[k,hk,e2]:=go h';have:j=k:=Q!
 rw[this,hk] at hj;cases hj;rfl
def C1.ws(c:fQ!):Lm!=[]:=GK.mpr (jp (by rcases Dl! c.al with⟨_,_,_,rfl⟩|⟨_,_,_,_,_,rfl,_⟩<;>rfl))
def Jse{al:Y!}{s g n u:Int}(h:xc! n):JtT:=JZZ g g
def Jjz{al:Y!}{s g n u tick:Int}{S:HS}(h:LL.ME s g n u DW! S∈al):C0!∈Ca al n u:=JZZ C0! C0!
def C1.last(x:o!)(c:fQ!){y:Qy}(hy:Ry!)(yn:y.n=N){a b:Y!}{s g tick:Int}{S:HS}(es:Su! (.ME s g N 2 DW! S))(le:m7!):AH!=[]/\JEn:=by
 show B7?;rw[yn] at iv;have z2:C0!∈Ca al N 2:=Jjz (OE! es);rcases iv.t2 with⟨_,_,e,_⟩|⟨fl,tw⟩;.rw[e] at z2;cases z2
 show EL?;have l2:=tw.length_eq;rw[Fy,ZE,ZE,ZA,ZA] at l1 l2;have k2:(Ca al N 2).length=(Ca CU! N 2).length+1:=by rw[es,Bo,Bo,Do,ZE,ZE,ZE];change _+((if N=N/\bt!=2 then some C0! else none).toList.length+_)=_;show FG?;change _+(1+_)=_;lia
 have k3:∀u,JVu al=JVu CU!:=λu=>by rw[es,Bz,Bz,Fk,ZE,ZE,ZE];change _+(0+_)=_;lia
 have k4:(Ca CU! N 1).length<=JLj:=by rw[es,Bo,Bo,Do,ZE,ZE,ZE];lia
 have q1:=k3 1;have q2:=k3 2;show#[List.eq_nil_iff_forall_not_mem.mpr aK!,?_];·(have hw':w∈al:=JqJ hw);have kn:=HC! w hw';rcases c.al w hw' with⟨s',g',u',rfl⟩|⟨s',g',u',tk',S',rfl,_⟩;(.show N3? Jse);.show N3? Jjz
 .have t1:=iv.t1;rw[JKJ (Cp al N 1).length,JKJ JLj] at t1;show t1
def C1.found(x:o!)(c:fQ!){y:Qy}(hy:Ry!)(yn:y.n=N)(fi:JOY)(pm:JEn){cf:Eg!}(hc:PT! (h<m->jy N' AZ! (cf h))){t:T2}:JdJ↔Xs N' t:=by
 have wg:=x.wg;rw[c.ws] at wg;have lm:=wg.wl.len;show B7?;have at_:PT! (h<m->∃q G,Pe!/\Hm EA! h=G.BJ/\P1 G (My EA! h)):=λh hh=>by show HE? h V!;have#[r,hr,e1,e2,e3]:=wV pm hh;have e4:FA!=G.BJ:=fi r hr q G (by rw[e1,CS,<-c.qs];show eq);show#[q,G,eq,hX! e4,e3▸((iv.f1 r hr).tk h q G eq e1).2 e4]
 have:=wg.gs (b:=a9!) (S1:=My EA!) (t:=t) (λh hh=>by have#[q,G,eq,e,_]:=at_ h hh;show AI (e.trans (hc h hh q G (by rw[CS,<-c.qs];show eq)).symm)) λh q G eq=>by show Ix?;have#[q',G',QQ,_,e]:=at_ h hm;rw[eq] at QQ;cases QQ;show e
 rw[this,c.qs];show Iff.rfl
def Jxw(x:o!)(c:fQ!)(af:rW!):C1 m N' N W' SZ EF\/JTp:=by
 show RV?;show Nm?
 show IL?
 rcases Dl! c.al with⟨s,g,u,rfl⟩|⟨s,g,u,tick,S,rfl,tk⟩;.have#[ey,_,eq,q,G,hs,os,rs,hq,_,ea]:=ef;show y! #[eq.trans c.qs,aK!,n1! c.y];rw[ea] at hw;show FJ?;(.show c.al w (sw w h));.rw[ZK h];show R? #[g,s,u,_,Jd!,A!,λq' G' e=>?_];rw[<-c.qs,hq] at e;cases e;rfl
 .have#[eq,y,y',i1,i2,new,e1,e2,e3,e4,e5,e6]:=ef;have#[y1,lF,n1,se1,f1,s1]:=c.y;(show J7? e1);(have gh:y'∈EF:=OE! e2);have ey:y1=y:=x.one lF hy (n1.trans e3.symm);subst ey;rcases e6 with⟨u1,se,fi,_,nw⟩|⟨u2,fi,se,nw⟩;(.show O7? (S! se se1) H2! (S! se s1);(.rw[e5] at hw;show FJ?;(.show c.al w (sw w h));.rcases nw with⟨rfl,_⟩|⟨rfl,_⟩;(.cases h);.have#[i,_,rfl]:=Ja!;show W! ex!);.show c? fi;show Bz?;(.show f1 r h);.show BA? tk);·(have s2:∀r∈y'.se,JI9:=Ff! (by show c? se;show Bd? hr;(.show s1 r h);.show BA? tk));rcases nw with⟨rfl,ne,_⟩|⟨le,ts,xf,as,rfl,IB,_,_,cf,lY,hfo⟩;(.show O7? (by rw[se,ZE];change y1.se.length+1<m;lia) (S! fi f1) s2;rw[e5,AM] at hw;show c.al w (sw w hw));.subst u2;have#[ab,pm]:=c.last x hy n1 es le;rw[ab,List.nil_append] at e5;have gx:∀t,RZ!↔Xs N' t:=λt=>(hfo.mem t).trans (c.found x hy n1 f1 pm λh hh=>by have#[r,hr,h1,h2]:=lY h hh;have:=s2 r hr;show U? h1 h2;show this);have lm:=x.wg.wl.len;show R? #[Dg! (S! IB Uz!),aK!,A5! eq c.qs,λj q G hj=>?_];(.rw[e5] at hw;have#[i,_,rfl]:=ZN hw;show E? #[_,_,_,A!,λt=>by rw[AE,gx,hE!]]);.rw[eq] at hj;(have jm:j<m:=JiE hj);show#[q,G,yk! c.qs,A!,AJ! #[ht,A!],λt ht _=>ht,λno=>OF! ?_ (no g (g4! (SB! c6!)))];rw[e5];show BD! #[j,Du! jm,A!]
def Jxv(x:o!)(c:C2 N' N W al)(af:rW!):JTp:=by
 show RV?;show Nm?
 show IL?
 have kS:∀w∈al,w=z\/w∈AH!:=λw hw=>by rw[es] at hw;show Bd? hw;(.show G? jZ!);.show p? ZM;(.show N?);.show G? (Bu! h)
 rcases Dl! c.av with⟨s,g,ts,rfl,ht⟩|⟨l,rfl,hb⟩;.have#[_,fs,q,G,hs,os,rs,hq,_,eq,ea]:=ef;have#[g0,g1,_]:=x.lt s g ts hz;show N6? aK! (λj q' G' hj=>?_);(.rw[ea] at hw;show FJ?;(.show c.av w (sw w h));.show Bb? Ja!;have#[r,_,rfl]:=ZN hl;show G? (Dg! A!));.rw[eq] at hj;show KG?;(.subst ej;show Oz?;have ls:=Jpe G ts;(have nt:∀t,Fz! (Li G ts).AL.map->Xz!:=Xd! (by show AQ? Oz!;show Bk? ss!;have:=BI (Dt! hr).2;show this (e▸h2)));show#[q0,G0,h0,YE!,Jco,Xd! ?_,λ_ t h1=>?_];(.show Cx? JYZ;have NS:r∈ss!:=Ll! hr (AI λz=>((ht _).mp z).1.2 (e▸h2));show BD! #[r,NS,e]);.show Q4? (λnr=>nt t h1 ((ht t).mpr #[#[#[_,q0,G0,h0,(h.less t (ls.AL t h1)).1],nr],?_]));have:=(R3! hq (ls.AL t h1)).1;show M?;show BN g0);.show Ny? G';show#[q0,G0,h0,YE!,h.less,h.keep,λno=>YF! λs' gL hm=>?_];rcases kS _ hm with e|hm;(.cases e;show nj (by rw[CS]));.show no s' gL (l! ea (Ao! hm))
 .have#[_,fs,q,G,G',bs,hq,we,eq,ea]:=ef;have#[ebs,ky,hh,ls]:=Jmt we hb;rw[ebs,EZ,AM] at ea;show N6? (λw hw=>c.av w (sw w (ea▸hw))) (λj q' G2 hj=>?_);(have kj:(∀s ts,lY!∉al')->JOZ:=λno s ts hm=>by rcases kS _ hm with e|hm;(.cases e);.show no s ts (ea▸hm));rw[eq] at hj;show KG?;(.subst ej;show Oz?;show#[q0,G0,h0,hh.trans YE!,Jco,Xd! (ky t JYZ),λno t h1=>YF! (kj no) t (ls.AL t h1)]);.show Ny? G2;show#[q0,G0,h0,YE!,h.less,h.keep,λno=>YF! (kj no)]
def Jqk(x:WG!)(c:C1 m N' N W [] ys\/C2 N' N W []):(∃l∈W.IB,AB!=N)/\∀t,P1!->Rh ut t:=by
 rcases c with c|c;.have#[y,hy,yn,le,_]:=c.y;show B7?;show EL?;rw[Fy,ZE,ZE,ZA,ZA] at l1;show KH?;show HM?;(.lia);.have l2:=pm.length_eq;rw[Fy,ZE,ZE,ZA,ZA] at l2;show KI?;lia
 .show#[c.fin,Gz! ?_];(have up:∀t,c9!->Rh ut t:=Gz! (by (have at_:∀(j:Nat) q0 G0,Dc! (N'[j]?) q0 G0->∃q G,JsG (C2h N' [] j G G0):=λj q0 G0 e=>by show HE? j (by rw[c.len];show BP! e);have#[q1,G1,h1,h]:=JSl;rw[e] at h1;cases h1;show#[q,G,eq,h]);induction h with | hand h m =>show KJ?;show Ki! eq (h2.hand▸m) | step h o mu l ih =>show KJ?;have o2:=h2.keep _ o l;show Nb! eq o2 ((h2.less _ o2).2▸mu) ih));have#[j,q,G,eq,o]:=h;have#[q0,G0,h0,h]:=JSl;show up t (YF! (λ_ _ z=>by cases z) t o)
open E
def Nn{qs:j!}(x:AT!)(h:MJ!):Hs!/\Jr!:=by induction h with | hand h m =>have nD:=x.sD.hand _ _ _ h _ m;show#[nD,x.og nD h (y! m)] | step h o m l ih =>have#[r,hr,e,hu]:=Jf8 m;have nD:=λdu=>ih.1 (e▸x.sD.hold _ _ _ h r hr _ hu du);show#[nD,x.og nD h (AT #[r,hr,hu])]
open S
variable {H:Hp}{p:Addr}{W:EL}{D:T2->Prop}{m n d A B:Nat}{ys:List Qy}
def WI.quiet(x:WG!):Ij m ys=0:=by
 have:∀{l:x!},(∀y∈l,Fw m y=0)->Ij m l=0:=λ{l} h=>by induction l with | nil=>rfl | cons y l ih =>change Fw m y+Ij m l=0;rw[C7! y,ih QH!]
 show this GT!;show B7?;show EL?;rw[Fy,ZE,ZE,ZA,ZA] at l1;show KH?;show HM?;.lia
 .have l2:=pm.length_eq;rw[Fy,ZE,ZE,ZA,ZA] at l2;show KI?;unfold Fw;rw[AD (Q!),AD (Q!)]
def WI.reset(x:WG!):WI H p W D m n d 0 (F5 ut) [] ys :={ x with pb:=#[AL!,by change 0+Ij m ys+1*dF!<=_;rw[x.quiet];lia] }
def xq:r5! (∀z∈l,z.2.AK.length<=n) (F5 l<=l.length*n)
 | [],_=>AL!
 | z::l,h=>by have ih:=xq (l:=l) (Jim h);have:=C7! z;change JHJ<=(bU!)*n;rw[hs!];lia
def WI.AK(x:o!)(m4:m<=4):dF!<=4*n:=by
 have h1:=As! xq n n l ut (jp (by show Ew?;show(As! DX! G z.2 q Ah! hj).1.ok.rz))
 rw[Ni!] at h1;show AA h1 (EV n m4)
def WI.yQ(x:WG!){j:Nat}{q:Addr}{G:BZ}(e:PC!){t:T2}(ht:GK!):P1!:=by
 by_cases dt:D t;.have#[_,_,_,hm,_]:=P8! x.dr e ht dt;cases hm
 .have#[s,nu]:=DX! e;show x.wg.oZ dt e (CB! ht) (Bz! nu (Cv! s.ok.rk))
def WI.yP(x:WG!){L:E!}(hL:∀t,P1!->t∈L):dF!<=m*L.length:=by rw[<-Ni!];show xq K5!;show Ew?;have:=Ce! xU l (wv z.2.AK.map) m L (As! DX! G z.2 q Ah! hj).1.ok.rn (aL! hL (Ce! x.yQ G z.2 q Ah! hj ht));show Bl?;show this
open E
def WI.upn(x:o!)(cA:E3!)(cB:JA!):Jcw H W al:=by show BY?;have a2:=x.ez;have a3:=x.fz;show BZ?;show{ x with wg:=x.wg.up,md:=BW a1,ez:=CB a2,fz:=CB a3,iz:=CB a4,pb:=#[AA cA x.pb.1,AA x.pb.2 cB] }
abbrev cT(W:EL)(m:Nat):cB!
 | .send h g _=>h<m/\g<m
 | .IE n=>LW λl1 l2 t=>JCW
 | d=>d.at<m
abbrev DoA(p:Addr)(H:Hp)(Q:VK)(E:XK):cB!
 | .make h=>JFq
 | .hold h ta tb=>vq! Oq
 | .drop h ta tb=>vq! Ou
 | .take h ta tb=>vq! Ol
 | .free h tb=>JAi JXQ
 | .send h g tb=>JAi JRX
 | .clean h=>JFr
 | .ask h=>JFs
 | .IE n=>J8 [Cm!,Ho!] H Q E
structure mV(H:Hp)(v:V)(d:PyData):B! where
 rep:qw! d
 ok:JJv 5
def Jfw{H:Hp}:∀L:k!,P4! (CM! λz=>AO! Ah!) lR! XV
 | []=>U!
 | z::L=>am (XV _) (Jfw L)
def Hl{H:Hp}{y:Addr}{L:k!}(e:Bq! y JjR):mV H (EQ y) (kK L):=by
 show#[Ai! (NL! e) (Jfw L),?_];show u? (As! Jxx n 1 ds (EI! CM! be PyData.int) (λd hd=>by have#[i,_,rfl]:=ZN hd;show#[A!,x1!]))
 unfold kK;show#[by simp only[PyData.canLay0,h1],by simp only[PyData.depth];show ic! h2]
open S
variable {H:Hp}{p:Addr}{W:EL}{D:T2->Prop}{m n d A A' B B':Nat}{al:List LL}{ys:List Qy}{dd:DD}{Q:VK}{E:XK}
abbrev sY(m A A' B B':Nat):cB!
 | .IE _=>MV!/\MU!
 | .ask _=>A'<=A+5*m/\B+5*m<=B'
 | _=>E3!/\B+5<=B'
def Jp(g:GG)(x:o!)(hn:Tk)(hB:A6!)(hd:PX!)(cs:wB!)(ok:QO!)(k:∀(v:V) (dv:PyData) (W':EL) (D':pi) (al':Y!) (EF:x!) (H':Hp),mV H' v dv->rn!->JI5->eD!->u7!->W'.hs=W.hs->Lh!)(kE:∀cls i,uC!->Jaz H (gP i)->OA! cls):DoA p H Q E dd:=by
 have kk:KT p K W m n d A' B' ys H Q (λv W' al' EF H'=>∃dv,mV H' v dv/\rn!):=λv W' D' al' EF H' r fp wi fr ehs=>by have#[dv,h1,h2]:=r;show k v dv W' D' SZ EF H' h1 h2 wi fr fp ehs
 have cn:∀{h:Nat},h<m->G_ λq G=>Pe!/\M_ W AZ! q G:=λ{h} hh=>by have#[#[q,G],e]:=i9! h (l! Ni! hh);show#[q,G,e,HQ!,e]
 have tn:∀H',mV H' wS At:=λH'=>#[.one wS,A!,o0];have ti:∀H' i,mV H' Ui! (XV i):=λH' i=>#[.one (XV i),A!,x1!];cases dd with | make h =>show Pz? Jsx (λt a W' H' et nw e=>#[_,#[.one (Th et),(sP _).1,GB! (sP _).2],.JU _ q G _ _ hi (.make h G a) e nw A! A!]) | hold h ta tb =>show Bq?;intro a b ea eb;by_cases c1:Ak!/\BH!;(.have#[ha,hb]:=c1;show FC?;(.show Jsy x hn hB i ea eb ha hb c2 cs.1 ay! kk (JpE (JSQ Kl!)));.show RB? (Zq! #[ha,hb,c2,i5! g.X2 2 (JSQ .o_)]));.show IX? c1 .pB (Classical.not_and_iff_not_or_not.mp c1) | drop h ta tb =>show Bq?;intro a b ea eb;by_cases ha:Ak!;(.show FC?;(.show RZ?;(.show Js0 x hn hB i ea eb ha hb c2 cs.1 ay! kk (JJG Km!));.have#[ad,fd]:=(DX! Uf).1.ok.find ha c2;show Bg? _ (v! #[H1? c2 (JbL .pF)]));.show RB? (Je5 .pG));.show IX? ha .pH ha | take h ta tb =>show Bq?;intro a b ea eb;have z1:=(DX! Uf).1.ok.hz;by_cases ha:Ak!;(.show FC?;(.show RZ?;(.show Jsv x hn hB i ea eb ha hb c2 cs.1 ay! kk (JJG Kn!));.have#[ad,fd]:=(DX! Uf).1.ok.find ha c2;show Bg? _ (v! #[In? c2 (JbL .take3)]));.show H2? (Je5 .take2));.show H2? (JqK ha .take1 ta ha) | free h tb =>show Bq?;intro b eb;by_cases hb:BH!;(.show Jsz x hn hB i eb hb cs.1 ay! kk (JpE (Eq! h tb G hb)));.show Px? _ (HY! hb (i5! g.X1 1 (.pE h tb G hb))) | send h g' tb =>have#[o1,o2]:=ok;have#[q,G,hi,i]:=cn o1;intro b eb;by_cases hb:BH!;(.show Jsw x hn hB i L3! (DP! o2) eb hb cs.1 cs.2 kk (λW' G' l t H' se nw e=>#[_,ti _ _,Ko! h g' tb q G G' l t hi hb se e nw A! A!]) λc2 w0=>i5! g.X4 4 (.ox h g' tb G hb c2 w0));.have z1:=(DX! Uf).1.ok.oz;have z2:=(DX! Uf).1.ok.rz;show AV?;have#[q2,G2,_,i2]:=cn o2;show#[p,b,_,_,W,tb,q,G,A!,HB!,eb,i,#[q2,G2,i2],Zt!,qE!,JAr,JqK hb .oy g' hb] | clean h =>show Pz? Jp7 (λy W' k9 R' rs H' L rc pm pw nw e ey=>#[_,Hl ey,YC! h q G k9 R' rs L hi rc pm pw e nw A! A!]) | ask h =>show Bq?;show(Jvw x hn hB hd i cs.1 cs.2 kk λW' L H' io I nw el e=>#[_,ti _ _,Fs! h io I L e nw A! A!]) | IE num =>have#[l1,l2,t,el]:=ok;have lw:=x.lw;rw[el] at lw;have#[a,z,b,es,p1,p2,p3]:=Jnc lw;have ll:=Bf! p1;cases z with | w l=>show QQ? Jl9 (λy L bs W' q G G' H' hi we nw e ey=>JoY #[l1,l2,t,a,_,b,el,es,ll,nw.toNv,A!,nw.fi,q,G,G',bs,hi,we,e,A!]) | ask s g n' u=>show Pv? Jp8 (JfV e q G hs os rs hi tl) | ME s g n' u tk S=>show Pv? Jma (λv L W' al' EF H' e nv ey an=>JoY #[l1,l2,t,a,_,b,el,es,ll,nv,e,an]) | lt s g ts=>show QQ? Jvv (JfV q G hs os rs hi tl e)
open E
open E Lake.K66
open N Lake.FX
open PySem PySem.Spec PyProof.Rows L2
def Ob:JN3 (JVw->Vn! FT! AA!)
 | _,_,.nil=>U!
 | _,_,.cons y t q=>L8! P2! Ob q
abbrev jS(a b:Str):B!:=a.cps.toList<=b.cps.toList
def Jau:∀{p:Str} {l:Z!},risingS p l=true->(p::l).Pairwise jS
 | p,[],_=>JLn _ _
 | p,x::r,h=>by have h:Ac! (! ltCps x.cps.toList p.cps.toList&&risingS x r):=h;show u? (Rf! h);have ih:=Jau h2;(have px:jS p x:=by rw[ltCps_eq] at h1;(have:¬x.cps.toList<p.cps.toList:=by simpa using h1);show List.not_lt.mp this);show DI.mpr #[GT!,ih];show E1?;(.show px);.show List.le_trans px ((KR! ih).1 y hy)
def Jhl:∀{l:Z!},BQ! sortedS l->l.Pairwise jS
 | [],_=>U!
 | _::_,h=>Jau h
def Jn3:∀{a b:Z!},a.Perm b->a.Pairwise jS->b.Pairwise jS->a=b
 | [],b,p,_,_=>JGk
 | x::a,[],p,_,_=>R8! p.length_eq
 | x::a,y::b,p,h1,h2=>by (have e:x=y:=by have hx:=p.mem_iff.mp (ZL (a:=x) (l:=a));have hy:=XK! (ZL (a:=y) (l:=b));rcases ZM hx with e|hx;(.show e);.rcases ZM hy with e|hy;(.show BB!);.show Oj (List.le_antisymm ((KR! h1).1 y hy) ((KR! h2).1 x hx)));subst e;rw[Jn3 (JLO p) (KR! h1).2 (KR! h2).2]
open S
variable {X:Cx Kx}
inductive N2(xs:C!)(H:Hp)(Q:VK):B!
 | mk (l:Addr) (ns:Z!) (_:xs=[FH!]) (_:Bq! l (Y6! BC!)) (_:ns.length<64) (_:JZ9 Z! (ms.Pairwise jS) (Y6! X5!))
def Hb:Vc! N2:=by show CQ?;have#[l,ns,rfl,hl,UW,q]:=h;show Fz?;show J?;have#[z,its,n,r,YS,e]:=I.WM hl;have li:=r.length;rw[ZA] at li;show PyProof.Rows.sorted_strs (l:=l) (vs:=At!) #[_,e,A!,n,A!] (Nj r) V! λout ms a1 a2 a3=>?_;have#[c,ec]:=ON! sortedAll_at At! out;have hn:im! H=none:=Qu! (DO _);show#[JCE,_,Jjj JJ! (Ai! (X5! AA!)) (λb o hb=>sortedAll_old hb) Pb! (JcK Ob),A!,q _ ms hn a2 (Jhl a3)];rw[ZA,a2.length_eq,CQ];show HQ?
open E
structure Wd(w:Str):B! where
 b:32∉w.cps.toList
 n:w≠G0!
 l:w.length<=60
def Jsb{ws:Z!}(h:nl!)(ne:ws≠[]):JaC/\¬Cg ws=G0!:=by
 have e1:JaC:=by unfold Cg;rw[AD ne];show Fe (c:=32) ne (Dv! (h p hp).b)
 show#[e1,Lu!];have e2:Gi! G0! AW!=[EB! G0!]:=Ce! Fe c 32 ps [EB! G0!] Ch (Dv! (by rw[ZK hp];show Ab?));rw[e,e2] at e1;show(h G0! (Bz! e1 (DM.mpr A!))).n A!
def Jty{ws:Z!}(h:nl!)(z:bi!):DM! (A1! Cg ws+2):=by
 show l?;unfold Cg;show B? (ws=[]);.rw[AF c];show Ab?
 .rw[AD c];have:=HJ AW! ws;show H9?;(have s:JBx R0!<=ws.length*60:=by clear this z c;induction ws with | nil=>show AX _ | cons w ws ih =>have h1:=(h w HL!).l;have h2:=ry!;rw[AO,CZ,A_];lia);show H? q;lia
def Jpz{w:Str}{c:Nat}{r:Ad!}(e:w.cps.toList=Gj!)(h:Sd!):w≠G0!:=λz=>by rw[z] at e;have e:[110,111,110,101]=Gj!:=e;cases e;show AY? Op
def Jbt{z:Str}(h:SW z):JKX:=VR.first (f:=GM) h
def Jmx{t:T2}(h1:Tr!)(h2:Ts!):Wd (Ar t):=by have hl:=N6 t;show#[Jg1 (a:=.t Bb! t.2) d3!,?_,AA (JSr d3!) Op];have#[c,r,e,f]:=Jbt (Ps h1);rw[e] at hl;show Jpz hl f
open E Lake.FX
open N Lake.K66
open PySem L2 FX
def Gr(a b:Str):(a++b).length=a.length+b.length:=by change(a.cps++b.cps).size=a.cps.size+b.cps.size;simp
inductive Jzh(K:W.Frag)(x:V)(y:V)(H:Hp)(Q:VK):B!
 | mk (a b:Addr) (xs:C!) (_:Bx!) (_:PP!) (_:Ei!) (_:DT K H b []) (_:La! xs.isEmpty)
def Jon{X:F!}(hu:VK!):JSM Jzh:=by
 show AD?;have#[a,b,xs,rfl,rfl,ha,hb,q]:=h;show J?;cases ry;have#[its,v1,l1,_]:=DK! ha;have#[gY,v2,l2,_]:=DK! hb;have e2:gY=[]:=by cases v2;rfl
 subst e2;have ll:JEZ:=zh!;cases At! with | nil =>have e1:xs=[]:=Gn! ll;subst e1;show Jeg A! (λj h1 _=>pl! h1) (Vb! lE!) | cons z r =>(have e1:xs.isEmpty=false:=by cases xs;{ cases ll };{ rfl });rw[e1] at q;show SeqAt.eq_list_lengthsAt l1.isList l2.isList Ch (AH K3! hu) (Vb! q9!)
abbrev NB(t:T2):B!:=Tr!/\Ts!
abbrev jw:cB!
 | .make h=>Sk!
 | .hold h a b=>tA!
 | .drop h a b=>tA!
 | .take h a b=>tA!
 | .free h b=>Sk!/\NB b
 | .send h g b=>Sk!/\Sm (oJ g)/\NB b
 | .clean h=>Sk!
 | .ask h=>Sk!
 | .IE n=>Sm n
def xi{l:j!}(m0:JOX){q:NF!}(h:NE!):LS!<=H8!:=by induction l with | nil=>cases h | cons z l ih =>have h0:=SM! m0 z;(have hl:0<=H8!:=by (have:r5! JOX (0<=H8!):=λ{l} h=>by induction l with | nil=>show AJ _ | cons y l ih =>have h1:=C7! y;have h2:=ih QH!;change 0<=y.2.BB+H8!;show Xt! h1 h2);show this JE2);change LS!<=aM!+H8!;show E5?;(.show JgD hl);.have:=ih (JE2) h;show BY this (FG h0)
def WI.sm{H:Hp}{p:Addr}{W:EL}{D:pi}{m n d A B:Nat}{al:Y!}{ys:x!}(x:o!)(hn:Tk){j:Nat}{q:Addr}{G:BZ}(hj:PC!){t:T2}(h:Dj!):GG!:=by
 have#[i,q2,G2,e,h1,h2,h3]:=x.ma.has j q G hj t h;show Ba?;have il:i<m:=JFk
 have md:=x.md;have h4:G2.BB<=PK!:=xi (jp JVD) (ZP e);show#[Ys! (h1▸L3!),Ys! h2]
abbrev dC:DD->Str
 | .make _=>Fd!
 | .hold _ _ _=>Ba!
 | .drop _ _ _=>Gk!
 | .take _ _ _=>Gl!
 | .free _ _=>Gm!
 | .send _ _ _=>Ib!
 | .clean _=>Ic!
 | .ask _=>Av!
 | .IE _=>Id!
abbrev XM:DD->bp!
 | .make h=>[.n h]
 | .hold h a b=>u3!
 | .drop h a b=>u3!
 | .take h a b=>u3!
 | .free h b=>[.n h,.t b.1 b.2]
 | .send h g b=>[.n h,.n g,.t b.1 b.2]
 | .clean h=>[.n h]
 | .ask h=>[.n h]
 | .IE n=>[.n n]
def Jxs(dd:DD):Np! XH! (dC dd) (XM dd).map dN/\FD! dC dd 5/\FD! XM dd 3:=by cases dd<;>show#[A!,by simp only[dC];show Ab?,by simp only[XM,A_,BR];decide]
def Js1{dd:DD}(h:Vi!):∀a∈XM dd,Ym a:=by cases dd with | make h'=>show Db? | clean h'=>show Db? | ask h'=>show Db? | IE n=>show Db? | hold h' x y=>show Ds? | drop h' x y=>show Ds? | take h' x y=>show Ds? | free h' y=>intro a ha;simp only[XM,BO,CA,F'] at ha;show BT? ha;{ show bn };{ show BF! } | send h' g y=>show Ds?
def Je9(v:Str)(as:bp!)(a:FX.Arg):Eg v (bQ!)=Eg v as++AW!++F0 a:=by unfold Eg;rw[ZF,<-List.cons_append,Jge AW! Ch Ch];rfl
def Qd{v vb:Str}{a:FX.Arg}(h:tn!):nm!=Eg v [a]:=by show Oj ?_;have e:(Eg v [a]).cps.toList=v.cps.toList++32::(F0 a).cps.toList:=Eb 32 v (F0 a) [];rw[e];change(vb.cps++(F0 a).cps).toList=_;rw[KP,h];simp
structure Nm(W:EL)(i:Nat):B! where
 c0:0<=W.c
 c1:W.c<=cr+oJ W.ls.length
 ls:∀l∈W.ls,0<=AB!/\AB!<=W.c
open S
variable {H H':Hp}{p:Addr}{W W':EL}{D D':T2->Prop}{m n d A B i:Nat}{al al':List LL}{ys EF:List Qy}{dd:DD}{dv:PyData}
def Nm.sm(x:VV!)(h:i<=1000)(hl:FM!):∀l∈W.ls,Sm AB!:=λl hm=>by have h1:=x.ls l hm;have h2:=x.c1;show#[h1.1,Q!]
def Nm.up(x:VV!):Nm W (ww):=#[x.c0,by have:=x.c1;lia,x.ls]
def Nm.nv{QD L:k!}(x:VV!)(nv:lu!)(sub:JlV)(ll:JpC):Nm W' (ww)/\JOa:=by
 have c0:=x.c0;have c1:=x.c1;have new:JOa:=λl YS=>by (have h1:AB!∈nums W.c L.length:=oG! nv.nu BK YS);have#[j,hj,e]:=Oz!;have:=VR!;rw[nv.c,<-e];constructor<;>lia
 show#[#[S! nv.c (Xt! c0 L3!),by rw[nv.c,nv.ls,ZE];lia,λl YS=>?_],new];rw[nv.ls] at YS;show Bd? YS;.have:=x.ls l (sw l h);rw[nv.c];show#[NJ!,Q!]
 .show new l h
def de.sub{num:Int}{L:k!}(h:d0!):∃QD,JXl:=by
 have#[l1,l2,t,a,z,b,el,_,_,nv,_]:=h;show#[_,nv,Ec!,by rw[el,ZE,ZE,A_];show Bv!];rw[el];show Cj?;.show h? h
 .show EP?
def Ef.nv(e:JFx):W'=W\/G_ λQD L=>JXl:=by have jW:(xq!)/\W.ls.length<=W.ls.length+1:=#[he!,DO _];cases e with | JU _ q G G' v hi hs e nv=>show Dh? | no _ q G k hi rf e=>show E? e | send h g tb q G G' l t hi hb se e nv=>show Dh? | clean h q G k R rs L hi rc pm pw e nv=>show Dh? | ask h io I L e nv=>show Dh? | IE num L dl =>have#[QD,nv,sub]:=dl.sub;show v! #[_,_,nv,sw]
def Ef.nm(e:JFx)(x:VV!):Nm W' (ww):=by
 rcases e.nv with e|⟨QD,L,nv,sub,ll⟩;.rw[e];show x.up
 .show(x.nv nv sw ll).1
abbrev v7(L:k!):B!:=L.length<=5000/\∀n∈ZZ!,Sm n
inductive aw:DD->Ay! Fc! Str
 | make (h:Nat) (t:T2) (s:GG!):aw pQ! (RH t) (Ar t)
 | hold (h:Nat) (a b:T2):tD! Kl!
 | drop (h:Nat) (a b:T2):tD! Km!
 | take (h:Nat) (a b:T2):tD! Kn!
 | free (h:Nat) (b:T2):aw (Eq! h b) At "ok"
 | send (h g:Nat) (b:T2) (n:Int) (s:Sm n):JZG (Ko! h g b)
 | ask (h:Nat) (n:Int) (s:Sm n):JZG pP!
 | clean (h:Nat) (L:k!) (s:v7 L):aw cm! (kK L) JKv
 | IE (n:Int) (L:k!) (s:v7 L):aw (.IE n) (kK L) JKv
def Ef.tx(e:rn!)(wi:o!)(hn:Tk)(x:VV!)(hi:i<=999)(ll:W'.ls.length<=2400):∃z,vW!:=by
 have nums:∀{QD L:k!},lu!->(JlV)->JpC->v7 L:=λ{QD L} nv sub l0=>by show u? (x.nv nv sw l0);have c1:=h1.c1;have ll':=ll;rw[nv.ls,ZE] at ll';show#[Q!,PS!];show Bb? (ZN hk);have:=h2 l hl;show#[NJ!,Q!]
 have jW:xq!:=he!;have m5:=wi.m5;generalize ed:aq dv=u at e;cases e with | no=>cases ed | JU _ q G G' v UL hs e nv =>cases ed;(cases hs with | make h _ a =>have#[sd,nu]:=YG! UL;(have il:h<m:=JAx UL);have h4:G.BB<=PK!:=xi (jp (by have#[k,hk]:=KW! hz;show(As! YG! q Ah! G z.2 hk).1.m0)) (ZP UL);have md:=wi.md;have m0:=sd.m0;have nu:G.num=AZ!:=nu;show#[_,.make h _ #[#[JL! (0<=G.num) (nu▸L3!),op! (G.num<=100000)],#[m0,op! (G.BB<=100000)]]] | hold h a b=>show#[_,Kl! h a b] | drop h a b=>show#[_,Km! h a b] | take h a b=>show#[_,Kn! h a b] | free h b=>show#[_,Eq! h b]) | send h g tb q G G' l t UL hb se e nv =>cases ed;have:=x.c0;have:=x.c1;have ll2:=ll;rw[nv.toNv.ls,ZE] at ll2;show#[_,Ko! h g tb _ c8!] | clean h q G k R rs L UL rc pm pw e nv =>cases ed;show#[_,YC! h L (nums nv.toNv jW Pb!)] | ask h io I L e nv =>cases ed;have:=wi.iz;show#[_,Fs! h _ JiW] | IE num L dl =>cases ed;have#[QD,nv,sub,l0]:=dl.sub;show#[_,.IE AX! L (nums nv sw l0)]
open E
def aG:Hz! Fd!/\Hz! Ib!/\Hz! Av!/\Hz! Ic!/\Hz! Id!/\VT! Ba!/\VT! Gk!/\VT! Gl!/\VT! Gm!:=ZV
def mJ:QB! Fd!/\QB! Ib!/\QB! Av!/\QB! Ic!/\QB! Id!:=ZV
def bb{P:B!}{b:Bool}(h1:Qy!)(h2:b=false):P:=by rw[h1] at h2;cases h2
def eZ{R:Ek!}{xs:T!}{a:β}(h:in! [a]):∃x,xs=[x]/\R x a:=by cases h with|cons r h=>show Ch? h r
def pr2{R:Ek!}{xs:T!}{a b:β}(h:in! IT!):G_ λx y=>xs=[x,y]/\R x a/\R y b:=by cases h with|cons r h=>have#[y,rfl,r2]:=eZ h;show#[_,_,A!,r,r2]
def pk{R:Ek!}{xs:T!}{a b c:β}(h:in! Rg!):LW λx y z=>xs=[x,y,z]/\R x a/\R y b/\R z c:=by cases h with|cons r h=>have#[y,z,rfl,r2,r3]:=pr2 h;show#[_,_,_,A!,r,r2,r3]
def Jfa{H:Hp}{v:V}{ns:i!}(h:qw! (M0! (BC! XV))):∃l,v=FH!/\u6!:=by generalize e:PyData.list (BC! XV)=u at h;cases h with | one h=>cases h<;>cases e | @BM a xs ds sq pr =>cases e;show#[a,A!,?_];(have:∀{xs:C!} {ns:i!},P4! xs BC! PyData.int->xs=BC! AU!:=λ{xs ns} pr=>by induction ns generalizing xs with | nil=>cases pr;rfl | cons n ns ih =>cases pr with | cons r pr=>cases r;rw[ih pr];rfl);rw[<-this pr];show sq
def Jjm{H:Hp}{v:V}{n:Int}(h:qw! N2!):v=Ho!:=by cases h with | one h=>cases h;rfl
def Juz{H:Hp}{v:V}{t:T2}(h:Rep K H v (RH t)):uQ!:=by generalize e:RH t=u at h;cases h with | one h=>subst e;show h.th | BM=>cases e
open S
variable {H:Hp}{p pw:Addr}{V:EL}{D:T2->Prop}{m n d A A' B B':Nat}{al:List LL}{ys:List Qy}{dd:DD}{Q:VK}{E:XK}
def Jgv(g:GG)(S:U8!)(x:Vv!)(hn:Tk)(hB:A6!)(hd:PX!)(cs:wB!)(vC:B'<=2400)(nm:Nm V d)(sm:Vi!)(ok:cT V m dd)(k:∀(z:Str) (dv:PyData) (W':EL) (D':pi) (al':Y!) (EF:x!) (H0 H':Hp),CG H0 H'->vW!->Jb8 H0->JI6->Mv pw V ys W' EF H H'->dE!)(kE:∀cls i H0 H',db->uC!->Jb7 H0->E (EQ cls) Rs H'):lU! zV!:=by
 show C?;show#[p,dC dd,XM dd,A!,(Jxs dd).1,Js1 sm,#[dx,_,hp],JgV ?_];show AN?;have x1:=x.same s1;have bad:∀cls i,uC!->Jb7 H1->E (EQ cls) Rs H1:=λcls i xf ef=>kE cls i H1 H1 s1 xf ef;have fin:∀{v:L2.V} {dv:PyData} {W':EL} {D':pi} {al':Y!} {EF:x!} {H2:Hp},Jb8 H2->JiO H2 pw F5! (d+1)->iA pw V ys H1 H2->Fp pw V ys W' EF H1->∃z,vW!/\∀H',CG H2 H'->dE!:=λ{v dv W' D' al' EF H2} ef wi fr fp=>by have#[z,tx]:=ef.tx x1 hn nm V! (wi.OM vC);show#[z,tx,λH' s=>k z dv W' D' SZ EF H2 H' s tx ef (wi.same s) ((Mv.pre s1 #[fr,fp]).post s)]
 cases dd with | make h =>show#[TJ! aG.1,TI!,Uc! mJ.1];show A8?;show Fd? .make (.make h);show A3?;show Bc?;(cases tx with | make _ t st =>have#[a,rfl,sq]:=Juz tl.rep;show#[a,t,A!,sq,st.1,st.2,λH' s=>AY! ez (kq H' s)]) | hold h ta tb =>show Gv? JDF JDF Kl! Kl! | drop h ta tb =>show Gv? zG! zG! Km! Km! | take h ta tb =>show Gv? JAB JAB Kn! Kn! | free h tb =>show#[OW!,λc=>bb JBh c,λc=>bb JBh c];have#[_,_,rfl,rfl,#[b,rfl,eb]]:=pr2 pa;show Eq! p pw r b V h A! S1 er (JfU (Eq! h tb));show A3?;cases tx;show kq _ Sr! | send h t tb =>show#[TJ! aG.2.1,TI!,Uc! mJ.2.1];have#[_,_,_,rfl,rfl,rfl,#[b,rfl,eb]]:=pk pa;show Ko! p pw r b V h t A! S1 er (JfU (Ko! h t tb));show A3?;show Bc?;(cases tx with | send _ _ _ j sj =>show PZ?) | clean h =>show#[TJ! aG.2.2.2.1,TI!,Uc! mJ.2.2.2.1];show A8?;show Fd? YC! (YC! h);show A3?;show Bc?;(cases tx with | clean _ L sL =>show P0?) | ask h =>show#[TJ! aG.2.2.1,TI!,Uc! mJ.2.2.1];show A8?;show Fd? Fs! (Fs! h);show A3?;show Bc?;(cases tx with | ask _ j sj =>show PZ?) | IE num =>show#[TJ! aG.2.2.2.2.1,TI!,Uc! mJ.2.2.2.2];show A8?;show .IE p pw r V AX! A! S1 er (Jp (dd:=.IE AX!) g x1 hn hB hd cs ok (λv dv W' D' al' EF H2 tl ef wi fr fp eh=>?_) bad);show A3?;show Bc?;cases tx with | IE _ L sL =>show P0?
open E
abbrev aY:LL->Str×gd!
 | .w l=>(l.kind,l.s,l.g)
 | .lt s g _=>(Fm!,s,g)
 | .ask s g _ _=>(Av!,s,g)
 | .ME s g _ _ _ _=>(HA!,s,g)
abbrev SG(m:Nat)(z:LL):B!:=(0<=uJ!/\uJ!<m)/\0<=uD!/\uD!<m
open S
variable {H H' H0:Hp}{p:Addr}{W W':EL}{D D':T2->Prop}{m n d A B n' d' A' B' i:Nat}{al al':List LL}{ys EF:List Qy}{dd:DD}{dv:PyData}
def rB(x':JYQ){l:LT}(h:LL.w l∈al')(s:0<=l.s/\l.s<m):SG m (.w l):=by
 have#[a,b,e]:=HU h;have hl:l∈JJ SZ:=OE! (Ta e)
 have#[g0,g1,_]:=x'.wg.wl.ok _ hl;show#[s,g0,g1]
def Ef.sg(o:QO!)(e:JMK)(x:o!)(x':JYQ)(s:PV!):∀z∈al',SG m z:=by
 have inm:∀{h:Nat} {q:Addr} {G:BZ},N6! (W.qs[h]?) (R7!<=AZ!/\AZ!<m):=λ{h q G} hi=>by have:=BP! hi;show H? Ni!;constructor<;>lia
 cases e with | JU _ q G G' v hi hs e nv ea=>rw[ea];show s | no _ q G k hi rf e ea=>rw[ea];show s | send h g tb q G G' l t hi hb se e nv ea =>intro z hz;have aJ:=hz;rw[ea] at aJ;show DI?;(.show s z h1);(.rw[ZK h1] at hz ⊢;show Do?;(have:l.s=AZ!:=by rcases se with⟨_,_,rfl⟩|⟨_,_,_,rfl⟩|⟨_,_,_,rfl⟩<;>rfl);show M?;show inm hi) | clean h q G k R rs L hi rc pm pw e nv ea =>intro z hz;have aJ:=hz;rw[ea] at aJ;show DI?;(.show s z h1);.show Bb? Oz!;show Do?;have#[r,_,rfl]:=ZN hl;show inm hi | ask h io I L e nv ea =>intro z hz;rw[ea] at hz;show E9?;(.show s z h1);.show FA?;have:=VR!;have o:h<m:=o;show#[#[se! AZ!,JJI AZ! o],se! Ct!,JJI Ct! this] | IE num L dl =>have#[l1,l2,t,a,z0,b,el,es,_,nv,dv]:=dl;have old:∀z∈AH!,SG m z:=jp (s z (JqJ hz));have s0:=s z0 JID;cases z0 with | w l =>have#[_,_,q,G,G',bs,hi,we,_,ea]:=dv;intro z hz;have aJ:=hz;rw[ea] at aJ;show DI?;(.show old z h1);(.have#[l',YS,rfl]:=Oz!;show Do?;(have hl:l∈Lm!:=OE! (Ta es));have#[g0,g1,_,kk]:=JFO;rcases we with⟨_,_,rfl⟩|⟨kp,we⟩;(.cases YS);(·(have gt:bf!:=by show HJ?;(.rw[kp] at e;show t6!);(.rw[kp] at e;show t6!);(.rw[kp] at e;show t6!);.show e);(have:l'.s=Fr!:=by rcases we with⟨_,_,rfl⟩|⟨_,_,rfl⟩;(.rw[ZK YS]);.show F? (ZM YS);(.rw[h]);.rw[ZK h]);rw[this,<-gt];show#[g0,g1])) | lt s' g ts =>have#[_,_,q,G,hs,os,rs,hi,_,_,ea]:=dv;intro z hz;have aJ:=hz;rw[ea] at aJ;show DI?;(.show old z h1);.have#[l',YS,rfl]:=Oz!;show Do?;have#[r,_,rfl]:=ZN YS;show s0.2 | ask s' g n0 u =>have#[_,_,_,q,G,hs,os,rs,hi,_,ea]:=dv;intro z hz;rw[ea] at hz;show E9?;(.show old z h1);.rw[ZK h1];show#[s0.2,s0.1] | ME s' g n0 u tick S =>have#[_,y,y',i1,i2,new,e1,e2,e3,e4,e5,e6]:=dv;intro z hz;rw[e5] at hz;show E9?;(.show old z h1);.have key:∀j:sB,j<m->(FJ!/\g<m)/\R7!<=Ct!/\Ct!<DZ!:=λj hj=>#[s0.2,HQ!,DP! hj];rcases e6 with⟨_,_,_,_,⟨rfl,_⟩|⟨rfl,_⟩⟩|⟨_,_,_,⟨rfl,_⟩|⟨_,ts,xf,as,rfl,_⟩⟩;(.cases h1);(.show FA?;show UV j (Gq! hj));(.cases h1);.show FA?;show UV j (Gq! hj)
abbrev aH(ns:i!)(al:Y!):pa!:=EI! ns.zip al (λy=>(wT,aY y.2))
def NC.zY{GV:k!}{y:gx!}{z:LL}(h:tE!):∃v,LE! y.2 [Ix wT,wE (aY z).1,Ix uJ!,Ix uD!,v]:=by cases z with | w l=>have#[a,b,e,_]:=h;show#[_,e] | ask s g n u=>have#[a,e,_]:=h;show#[_,e] | ME s g n u t S=>have#[#[a,e,_],_]:=h;show#[_,e] | lt s g ts=>have#[a,as,e,_]:=h;show#[_,e]
def Jpc{GV:k!}:∀{ls:k!} {al:Y!},JQO ls->b8! Jx3 ls (aH (Ew! be) al)
 | _,_,.nil=>U!
 | _,_,.cons r t=>am (by have#[v,e]:=r.zY;show#[v,DQ! e]) (Jpc t)
def Jpa{ns:i!}{al:Y!}{l:bM!}(h:l∈aH ns al):AB!∈ns/\∃z∈al,l.2=aY z:=by have#[y,hy,rfl]:=Ja!;show#[(NX hy).1,y.2,(NX hy).2,A!]
def Jq7(x:o!){z:LL}(hz:Nj!):(aY z).1.length<=10:=by cases z with | w l =>have#[a,b,e]:=HU hz;show I3?;change l.kind.length<=10;(rcases JBi with⟨h,_⟩|⟨h,_⟩|⟨h,_⟩|⟨h,_⟩<;>(rw[h];show Ab?)) | lt=>show Gg? Fm! | ask=>show Gg? Av! | ME=>show Gg? HA!
def Jig(x:o!)(hB:A6!)(nm:QC!)(hd:bj!)(s:PV!):JMg:=by
 show Ba?;show#[?_,Ec!];.unfold aH;rw[ZA,List.length_zip,ZA];have:=x.OM hB;lia
 .have#[h1,z,hz,e]:=Jpa hl;have#[y,hy,e1]:=Oz!;have e1:wT=AB!:=e1;have sz:=Dl! s;have sl:=Jq7 x hz;rw[e,<-e1];show#[JbS x.OM hy,#[sz.1.1,by have:=sz.1.2;lia],#[sz.2.1,by have:=sz.2.2;lia],sl]
open E
open S
variable {H:Hp}{p pw:Addr}{V:EL}{D:T2->Prop}{m n d A B i:Nat}{al:List LL}{ys:List Qy}
def jR:Hz! BE!/\Hz! Fe!/\Hz! Bo!/\VJ! BE!/\VJ! Fe!/\VJ! Bo!:=ZV
def Jxc:Hz! wn/\VJ! wn:=ZV
def WI.a7(x:WI H p V D m n d A B al ys)(hn:Tk){h:Nat}{q:Addr}{G:BZ}(hq:b3!){t:T2}(ho:CT!):GG!:=by
 show Ba?;show DP?
 have#[e1,e2]:=R3! hq ho;have h3:=x.ob h q G hq t ho;have md:=x.md;have h4:G.BB<=Cz V.qs:=xi (jp JVD) (ZP hq);show#[Ys! (e1▸HQ!),Ys! h3]
def Jrj{G:BZ}{hs:E!}{os:Ae!}{rs:R!}(HP:C1!)(on:oj!){a b:Dd!}(ha:a∈os)(hb:b∈os)(e:a4!):a=b:=by show Bw? DR! (HP.MA.pm.nodup_iff.mpr on);have f1:=U3 nd ha;have f2:=U3 nd hb;rw[e] at f1;show ZO (f1.symm.trans f2)
def Ja5{Q:VK}{E:XK}{h:Nat}{q:Addr}{G:BZ}{hs:E!}{os:Ae!}{rs:R!}(S:U8!)(x:Vv!)(hn:Tk)(hq:b3!)(HP:C1!)(k:rQ! XP!):JLb BE!:=by
 show Iu?;show DP?
 show Oc? BE! jR.1 jR.2.2.2.1;show A8?;show AN?;show JW?;show NU?;show PI? Ki! (AJ! (x.sm hn hq (y! (K8! hx! ht))));have:=HP.pm.length_eq;have:=gd.h2;lia
def Rl{Q:VK}{E:XK}{h:Nat}{q:Addr}{G:BZ}{hs:E!}{os:Ae!}{rs:R!}(S:U8!)(x:Vv!)(hn:Tk)(hq:b3!)(HP:C1!)(sm:∀r∈os,NB h!)(k:rQ! JBN):JLb Fe!:=by
 show Iu?;show DP?
 show Oc? Fe! jR.2.1 jR.2.2.2.2.1;show A8?;show AN?;show JW?;show NU?;show PI? .things Cy!;.have:=HP.MA.pm.length_eq;rw[ZA] at this ⊢;show Bl?;have:=gd.o2;lia
 .have#[r,hr,rfl]:=TC!;show sm r hr
def Qn{Q:VK}{E:XK}(S:U8!)(x:Vv!)(sm:rQ (aH yi! al))(k:JiZ (Cg ((aH yi! al).map YM))):lU! (wE Bo!):=by show C?;show#[p,Bo!,[],A!,A!,(ND! os!),#[dx,_,hp],JgV (JqQ jR.2.2.1 jR.2.2.2.2.2)];show .post p pw r V _ A! (S.same s1) (Jpc (x.same s1).lw) sm (JoZ k)
def Nu(x:o!)(hn:Tk){h:Nat}{q:Addr}{G:BZ}(hq:Pe!){hs:E!}{os:Ae!}{rs:R!}(HP:C1!){r:Dd!}(hr:YH!):rJ BO!:=by have#[_,a,hl,e1,e2,e3,_]:=HP.MA.at_ r hr;show#[S! e3.length_eq (Jg7 e2),AJ! (x.sm hn hq (VF! #[_,BH e1,e3.mem_iff.mp ht]))]
def Vj{Q:VK}{E:XK}{h:Nat}{q:Addr}{G:BZ}{hs:E!}{os:Ae!}{rs:R!}{r:Dd!}(S:U8!)(x:Vv!)(hn:Tk)(hq:b3!)(HP:C1!)(hr:YH!)(k:JEx):lU! (FB (Eg wn [Z0!])):=by
 show C?;have ho:JJ7:=HP.MA.pm.mem_iff.mp (BK hr);have e1:=(R3! hq ho).1;show DP?
 show Ba?;have sm:NB h!:=x.a7 hn hq ho;show#[p,wn,[Z0!],A!,A!,ND! (S! (ZK ha) sm),#[dx,_,hp],λr' xs H1 s1 er pa=>JqQ Jxc.1 Jxc.2];have#[_,rfl,a,rfl,ea]:=eZ pa;show AN?;have x1:=x.same s1;show .holds p r' a A! #[dx,_,Uh! hp,LI!] er ?_;have gd:=x1.wg.wl.good (CL hn) hq;have iw:M_ V r.1.1 q G:=#[Uf! HQ!,HO! e1 CS hq];show#[p,pw,a,V,h!,A!,S1,ea,pw,r.1.1,V,A!,S1.wo,v! #[q,G,iw,q,G,hs,os,rs,A!,iw.at S1.wo,gd.h2,gd.o2,gd.r2,HP.pm,HP.pw,HP.MA,Fv!,HP.wr,λy H' s st=>#[hs,os,rs,s,st.rep,λr2 NS e x xs sx px=>?_,λno=>DF! A! (no r hr)]]];have e:r2=r:=Jrj HP (x1.wg.num hq).1.ok.on NS hr e;subst e;show#[x,xs,r2.2.2,A!,sx,px,Nu x1 hn hq HP NS,λH2 s2=>k H2 (KF! s1 s s2)]
open E
def Jy2:dQ! Ri! Ri! wZ:={}
inductive Jul(vs:C!)(H:Hp)(Q:VK)(E:XK):B!
 | mk (ws:Z!) (_:vs=[FB (Cg ws)]) (_:nl!) (_:bi!) (_:JJF (JK! l kd!))
def fQ(g:GG):EM 1 We Xp [Ri!] Jul:=by
 show v? g.mLl.fn.KH Jy2;have#[ws,rfl,hw,zw,k]:=h;show A?;show DD? (JPk bv (Z6! Ew Ae)) sV!;show V?;show B? (ws=[]);.subst c;show KY?;show B3 #[AL!,Fh! JcN]
 .have#[e1,e2]:=Jsb hw c;rw[Fv e2];show Bs #[_,A!,A!,Cg ws,AW!,A!,A!,A!,Jty hw zw,Ec!];rw[e1];show JcN
def bU:y8! [G4!,NP!,hy!,"e"] NP! wY:={}
inductive Jng(vs:C!)(H:Hp)(Q:VK)(E:XK):B!
 | VE (p pw:Addr) (W:EL) (D:pi) (m n d A A' B B':Nat) (al:Y!) (ys:x!) (dd:DD) (_:YV! zV!) (_:Ar!) (_:Pq!) (_:Tk) (_:A6!) (_:PX!) (_:wB!) (_:B'<=2400) (_:QC!) (_:Vi!) (_:QO!)
   (_:∀(z:Str)(dv:PyData)(W':EL)(D':pi)(al':Y!)(EF:x!)(H0 H':Hp),Ef m W W' al SZ ys EF H0 dd (aq dv)->JI6->s8!->dE!)
   (_:∀(k:Nat)(H0 H':Hp),Jaz H0 (gP k)->db->PF! 0)
 | holds (p pw:Addr) (W:EL) (D:pi) (m n d A B:Nat) (al:Y!) (ys:x!) (h:Nat) (q:Addr) (G:BZ) (hs:E!) (os:Ae!) (rs:R!) (r:Dd!) (_:YV! (FB (Eg wn [Z0!]))) (_:Ar!) (_:Pq!) (_:Tk) (_:Pe!) (_:C1!) (_:YH!)
   (_:JEx)
def vF(g:GG):cU! 9 Wc Xo NP! Jng:=by show v? g.mLs.fn.KH bU;show Fq?;show Hj? bU.nd Kl (Jn5 (i:=3) A! A! A! bU.nd A! A! A! g.cHE (λAB E ES hES=>JS5 (Joe (pl:=_) bv R1! hz! (gSy g) hr h0! hES Tn!)) (λex=>JS5 (JBA Jmh g.TR.int (Be Jmg Ks! g.T.uM N_ (OH! (Jrr (v:=SB NR) Ks! g.cNR.mg A!)))))) rf!;cases h with | VE p pw W D m n d A A' B B' al ys dd e S wi hn hB hd cs vC nm sm ok k kE =>show NB? (Jgv (B':=B') g S wi hn hB hd cs vC nm sm ok (λz dv W' D' al' EF H0 H' _ tx ef gK mv=>Bj! (k z dv W' D' SZ EF H0 H' ef gK mv)) (λcls c H0 H2 s2 xf ef=>#[cls,Bc! xf.sub,λex hx=>#[_,A!,ex,cls,SB NR,SB NR,Os,A!,A!,Ab,xf.isX,xf.k7,v! #[Os,A!,_,A!,kE c H0 _ ef (Ai s2 (Aj hx))]]])) | holds p pw W D m n d A B al ys h q G hs os rs r e S wi hn hq HP LV k =>show NB? (Vj S wi hn hq HP LV λH' s'=>Bj! (k H' s'))
def Jyv:A3! WE! WE! wc:={}
inductive Juj(vs:C!)(H:Hp)(Q:VK)(E:XK):B!
 | mk (l:Addr) (ws:Z!) (x:Int) (o:Str) (_:vs=[FH!,Ix x,wE o]) (_:rb!) (_:bi!) (_:∀(w:Str)(H':Hp),(w=o\/w∈ws)->db->Yu! w)
def vE(g:GG):EM 1 V8 Xj WE! Juj:=by show v? g.mPk.fn.KH Jyv;have#[l,ws,x,o,rfl,el,zw,k]:=h;show A?;show DD? (YR! JHL bv H0! rf!) (qb! (A3 Dc No JD9));show K6?;have s1:=JCM;have g_:=Uh! el;show#[Oj? l (Co! g_)];generalize TZ! H b=H1 at s1 g_;cases ws with | nil=>show B3 (Bj! (JAQ s1)) | cons w0 ws =>(have lp:SG! rL!:=by rw[ZA,A_];lia);show Bs #[e?,A!,_,A!,l,GZ? _ (JV! g_) lp];show KK? rL!;have j1:=GX x lp;have#[y,hy]:=Nv! (w0::ws) (Dh! (x % rL!)) (by rw[ZA] at j0 j1 ⊢;lia);show#[l,_,_,_,A!,A!,Co! g_,sk! j0 hy,k y _ (AT (ZP hy)) s1]
def dW(g:GG):EM 8 R4 R8 k1! (tf! Hu):=FX.FY.no (gSy g)
def Jqw{t u:T2}(h:GG!)(h':NB u)(e:Ar t=Ar u):t=u:=by have a:=Np bn BF!;rw[e,Np h'.1 h'.2] at a;injection ZO a with a b;show RF! a.symm b.symm
def Jj6(z:Str):∀ws:Z!,MZ (FB z) (R0! AA!)=Go (z∈ws)
 | []=>rfl
 | y::ws=>by have ih:=Jj6 z ws;unfold MZ at ih ⊢;rw[AO,NA,ih];change((y==z) || _)=_;show B? (y=z);(.subst c;simp);.rw[show CA! (y==z) by simpa using c,JBc];by_cases d:z∈ws;(.rw[AI d,AI (BL! d)]);.rw[AG d,AG λq=>(ZM q).elim (λq=>c q.symm) d]
def Qu:∀ws:Z!,BQ! (R0! AA!).all Nf
 | []=>rfl
 | _::ws=>by rw[AO,gD!,Qu ws];rfl
@[reducible]abbrev UR(ts:E!):C!:=SZ! Gu! Ar
def yB(a b:E!):UR (AH!)=UR a++UR b:=by unfold UR;rw[ZF,ZF]
def Jpl{u:T2}{ts:E!}(hu:NB u)(hs:kt!):MZ JKo (UR ts)=Go X8!:=by
 rw[Jj6];show B? X8!;.rw[AI c,AI (BK c)]
 .rw[AG c,AG λq=>by have#[t,ht,e]:=ZN q;show c (Jqw (hs t ht) hu e▸ht)]
def Hn{ts:E!}(h:kt!):∀w∈Gu! Ar,Wd w:=λw hw=>by have#[t,ht,rfl]:=ZN hw;show Jmx (h t ht).1 (h t ht).2
open S
variable {H:Hp}{p:Addr}{W:EL}{D:T2->Prop}{m n d A B:Nat}{al:List LL}{ys:List Qy}
def WI.tQ(x:o!)(hn:Tk){t:T2}(h:P1!):GG!:=by have#[j,q,G,e,o]:=h;show x.a7 hn e o
def WI.dq(x:o!){l:E!}(nd:l.Nodup)(h:XX! P1!):g1!:=by have h1:=Kt (qs:=ut) nd (EE! (by have#[j,q,G,hq,o]:=Cv! h;have#[a1,a2]:=R3! hq o;show#[j,q,G,hq,a1,x.ob j q G hq _ o,a2])) (jp (by show Ew?;show(As! DX! q Ah! G z.2 hj).1.m0));have:=x.md;lia
def WI.tell(x:o!)(hn:Tk){j:Nat}(hj:j<m):qK! (JsG C1!):=by show JH? hj;show IF?;show#[q,G,hs,os,rs,e,HP]
def Told.held{G:BZ}{hs:E!}{os:Ae!}{rs:R!}(T:C1!){r:Dd!}(hr:YH!)(u:T2):u∈BO!↔u∈p5!:=by
 have#[_,_,hl,a2,_,a3,a4]:=T.MA.at_ r hr;have g1:p5!=hl:=pb! a2
 rw[a3.mem_iff,g1]
open E
inductive WO(H1:Hp)(lr:Addr)(ts us:E!)(i:Nat)(Hc:Hp):B!
 | mk (r:E!) (e:JSn (Nm!)) (nd:Jw! Nm!) (sub:∀t∈r,t∈us) (all:JOE) (fr:JEd (b≠lr) Hc)
def WO.step{H1 Hc:Hp}{lr:Addr}{ts us:E!}{i:Nat}{u:T2}(a:JVA)(hu:us[i]?=D! u)(h1:kt!)(h2:∀t∈us,GG!)(zl:ts.length+us.length<=1000)(X:O0!)(σ:L2.St)(k:∀H',WO H1 lr ts us v6 H'->X σ H') : LW λ(xs:List V)(b:Bool)(ws:List V)=>DT K Hc lr xs/\JoM/\MZ JKo xs=b/\Nr! Hc lr ws/\ws.length<sizeLine/\(b=false->X σ (E4! Hc lr Ai! (ws++[FB (Ar u)])))/\(Qy!->X σ Hc):=by
 show Qk?;have mu:=ZP hu;have sm:Ey! Nm! GG!:=JZB h1 h2;have tk:WT! (ww)=WT! i++[u]:=Uy! hu
 show#[_,_,_,NL! e,Qu _,Jpl (h2 u mu) sm,e,?_,λc=>?_,λc=>?_];.rw[ZA,ZA,ZE];have WW:=sD!;have:=xU WW sw;show EQ! Bu
 .have nu:=JLF c;show k _ #[r++[u],by rw[Ab,<-AY,yB (Nm!) [u]];rfl,?_,Cy!,Cy!,λb o hb ne=>WF ne (fr b o hb ne)];(.rw[<-AY];show KV! #[nd,Sc,λa ha b hb z=>by rw[ZK hb] at z;show nu (z▸ha)]);(.show Ap?;(.show sw t h);.show BA? mu);.rw[<-AY];show d? tk;show Ap?;(.show h? (all t h));.show ZC _ h
 .show k _ #[r,e,nd,sw,Cy!,fr];show d? tk;show Ap?;(.show all t h);.rw[ZK h];show BI c
def WL:A3! [G4!,Cl!,JgW,YI!,"_law_thing","_law_at",hy!] [G4!,Cl!] wj:={}
inductive Jui(vs:C!)(H:Hp)(Q:VK)(E:XK):B!
 | mk (p pw:Addr) (W:EL) (D:pi) (m n d A B:Nat) (al:Y!) (ys:x!) (_:o9! DZ!) (_:Ar!) (_:Pq!) (_:Tk)
   (_:∀(l:Addr)(ts:E!)(H':Hp),OQ!->db->Jji UR ts->Xe!->(∀t,RZ!↔Rh ut t)->z3!)
structure Wk(H:Hp)(qs:j!)(lr:Addr)(ts:E!)(Hc:Hp):B! where
 sm:Cp! Hc
 e:JSn ts
 nd:Xe!
 rh:∀t∈ts,MJ!
def Wk.add{H H1 Hc:Hp}{qs:j!}{lr:Addr}{ts us:E!}{i:Nat}(w:Wk H qs lr ts H1)(hl:BJ! lr)(a:JVA)(ru:∀t∈us,MJ!):∃r,Wk H qs lr (Nm!) Hc/\JOE:=by show Qk?;show#[r,#[λb o hb=>fr b o (w.sm b o hb) (Al hb hl),e,nd,JZB w.rh ru],all]
def gWk(g:GG):cU! 10 Vz Xb Cl! Jui:=by
 show v? g.mWk.fn.KH WL;have#[p,pw,W,D,m,n,d,nA,nB,al,ys,rfl,S,wi,hn,k]:=h;show A?;show Q?;show Df?;show Ca? Kp! H0! (JCn 3 Kp! (Af (JqE (C6 (lp! (dH! xL))) (Jg4 4 Kp!) Jbf)) (JGu Kp! Ag (Ur hS! (Av Jw CV! JEA YL!) (JDR Kp! (JbM (JQb CV!)) (ju! (ri (Hh (JfC FN!))) Kl) (Jkt (JES FN!) Kp! Jbf (jv! 5 Kp! (aZ! CV!))))) 2));show l?;have m5:=wi.m5;show#[AL!,λlr jY=>?_];have w0:Wk H ut lr [] (YX! lr []):=#[Aj jY,Ab,DV,UX!];generalize TZ! H lr=H0 at w0;show#[_,A!,DZ!,A!,HQ!,JpS m5,?_];show Dc? (λi σ Hc=>LW λ(u3 u4:Option V)(ts:List T2)=>σ=[AP!,Di!,TN!,u3,u4,none,none]/\JI8/\hh! (j<i->PC!->Ka! RZ!)) #[_,_,[],A!,w0,λj q G hj=>pl! hj];.rintro h σ Hc hh ⟨u3,u4,ts,rfl,wk,qe⟩;show GD?;have#[q,G,hs,os,rs,hq,HP]:=wi.tell hn hh;show B8?;show B9?;show Ma?;(show Mb?);have S2:=JN! wk.sm;have#[dx,hp]:=S2.ob;show#[L?,p,dx,_,A!,hp,LI!,_,A!,AZ!,A!,Cy RC,_,_,A!,A!,?_,?_];(.show RA? 5;lia);show LF?;show Ee? "hand " S1! Hc;rw[r1];show Ja5 S2 JKH hn hq HP λH3 s3=>#[_,A!,Hn gO,Jk!,JOb];have aB:=st!;show KV? (FK! wk.e) gq;show O0? wk.nd R4!;show Nz?;show KL?;show Ai? Kw K K a lw xs (UR hs) (JZl JaD hs) JeZ JaE;(.show QN? gO JaD hs [AP!,Di!,TN!,k6!,JCj,none,none]);.show Ql?;have#[r,tE,all]:=gJ.add jY ap (AJ! (Ki! hq (hx! ht)));show#[_,_,Nm!,A!,tE,λj q' G' hj e' t ht=>?_];show B? (j=h);(.subst c;rw[hq] at e';cases e';show all t (by rw[ZA,ZA,B_];show HP.pm.mem_iff.mpr ht));.show h? (qe j q' G' V! e' t ht)
 rintro σ Hc ⟨u3,u4,ts,rfl,wk,qe⟩;have lU:JGh:=YD! (qe j q G (JoL wi.wg.wl.len e) e);clear qe w0;show#[λμ σ Hc=>bO λ(at_:Nat)(ts:List T2)(u3 u4 u6:Option V)=>μ=1000-at_/\σ=[AP!,Di!,TN!,u3,u4,JmA,u6]/\at_<=ts.length/\JI8/\(JGh)/\∀(i:Nat) t,i<at_->Vj!->hh! (PC!->CT!->wv! X8!),#[1000,0,ts,u3,u4,Rs,A!,A!,AL!,wk,lU,λi t hi=>pl! hi],?_];clear lU wk;rintro μ σ Hc ⟨at_,ts,u3,u4,u6,rfl,rfl,qM,wk,lU,cl⟩;show Nz?;show#[HX? lr (JV! wk.e)];show B? (at_<ts.length);.rw[AI (show JWH by rw[ZA,ZA];show DP! c)];show Iz?;have#[t,et]:=Nv! ts at_ c;have mt:=ZP et;have#[j,q,G,hq,o]:=(Nn wi.wg (R4! t mt)).2;(have hj:j<m:=JAx hq);have#[q',G',hs,os,rs,YR,HP]:=wi.tell hn hj;rw[hq] at YR;cases YR;have#[r,LV,rfl]:=JKK o;have kT:NB h!:=wi.a7 hn hq o;have la:=Jt (a:=Z0!) kT;have rr:∀u∈BO!,Rh ut u:=Fb! (Nb! hq o ((HP.held LV u).mp hu) (R4! _ mt));have smR:∀u∈BO!,NB u:=Fb! (wi.tQ hn (Nn wi.wg (rr u hu)).2);have zr:=(Nu wi hn hq HP LV).1;show#[e?,A!,_,A!,lr,_,_,_,A!,A!,Co! wk.e,Mc (i:=oJ at_) L3! (by rw[CS,ZH,ZH,et];rfl),_,_,A!,A!,?_,?_];(.have la:QL! h!:=la;change Sf! 6 Ar h!<=_;lia);show M2? (Ar h!) JCT;change Jng [Cm!,FB (EB! "holds "++Ar h!)] Hc _ _;rw[r1];show .holds p pw W D m n d nA nB al ys j q G hs os rs r A! (S.same wk.sm) JKH hn hq HP LV λH3 s3=>?_;show O? #[Po?];show#[_,A!,_,A!,Hn smR,Cw! zr,JOb];have aB:=st!;show KV? (FK! wk.e) gq;show O0? wk.nd R4!;show KL?;(have zq:JDO:=by have#[_,_,hl,e1,e2,e3,_]:=HP.MA.at_ r LV;have:=(YG! hq).1.ok.ln _ (BH e1);rw[e3.length_eq];show AA this.2 (AV hn));show Ai? Kw K K a lw xs (UR BO!) (JZl Jcp BO!) JeZ JaE;(.show QN? smR Jcp BO! [AP!,Di!,TN!,u3,JCj,JmA,LK! FB (Cg (r.2.2.map Ar))]);.show Ql?;have#[r2,tE,all]:=gJ.add jY ap rr;show#[L?,_,_,A!,A!,1000-(at_+1),Q!,at_+1,ts++r2,_,_,_,A!,A!,iU! ZE,tE,λj q G e t ht=>Ao! (lU j q G e t ht),λi t hi ei j' q' G' e' o' u hu=>?_];by_cases ci:i=at_;(.subst ci;rw[GJ c,et] at ei;cases ei;(have ej:j'=j:=by have h1:=(wi.wg.XX e' o').1;have h2:=(wi.wg.XX hq o).1;lia);subst ej;rw[hq] at e';cases e';show all u (by rw[ZA,ZA,B_];show(HP.held LV u).mpr hu));·(have il:i<at_:=Q!);rw[EQ! GJ] at ei;show Ao! (cl i t il ei j' q' G' e' o' u hu)
 .rw[AG (show ¬JWH by rw[ZA,ZA];show cl! DU.mp)];(have ea:at_=ts.length:=Q!);show Bs (Bj! (k lr ts Hc jY wk.sm wk.e wk.nd λt=>#[R4! t,λrh=>?_]));induction rh with | hand h m'=>show lU _ _ _ h _ m' | @step j q G t u h o m' l ih =>have#[i,hi]:=KW! ih;show cl i t (by rw[ea];show BP! hi) hi j q G h o u m'
def Jj0:∀{ns:i!} {al:Y!},ns.length=al.length->JOu=ns
 | [],[],_=>rfl
 | n::ns,z::al,h=>by have:=As! Jj0 ns ns al al (RJ! h);change n::JOu=_;show M?
 | [],_::_,h=>GQ!
 | _::_,[],h=>GQ!
def Sq{k:Str}(h:k=Ba!\/k=NU!\/k=D8!\/k=E1!\/k=Fm!\/k=Av!\/k=HA!):32∉k.cps.toList/\58∉k.cps.toList:=by rcases h with rfl|rfl|rfl|rfl|rfl|rfl|rfl<;>decide +kernel
def Jl7{c:Nat}(h:Sd!):c≠58:=λz=>by rw[z] at h;show JmG h
open S
variable {H:Hp}{p:Addr}{W:EL}{D:T2->Prop}{m n d A B:Nat}{al:List LL}{ys:List Qy}
def Jup(x:o!){z:LL}(hz:Nj!):32∉(aY z).1.cps.toList/\58∉(aY z).1.cps.toList:=by cases z with | w l =>have#[a,b,e]:=HU hz;show I3?;show Sq (k:=l.kind) ?_;rcases JBi with⟨h,_⟩|⟨h,_⟩|⟨h,_⟩|⟨h,_⟩;(.show N?);(.show DG?);(.show G? JmM);.show Hz? | lt=>show Sq (AT (id! Py!)) | ask=>show KW? Py! | ME=>show KW? p2!
def Jpd{l:bM!}(h1:Sm AB!)(h2:Sm Os!)(h3:Sm Om!)(hk:JII)(kf:32∉l.2.1.cps.toList/\58∉l.2.1.cps.toList):Jdg:=by
 have e:(YM l).cps.toList=O3! AB!++58::(l.2.1.cps.toList++58::(O3! Os!++58::O3! Om!)):=by change(Dy! (one 58) JrD).cps.toList=_;rw[Eb,Eb,Eb];rfl
 have f1:=(Fl h1).1;have f2:=(Fl h2).1;have f3:=(Fl h3).1;have c1:∀{i:Int},H7!->58∉(EC i).cps.toList:=λ{i} hi z=>Jl7 ((Ps hi).d _ z) A!;have l1:=Cc AB! h1;have l2:=Cc Os! h2;have l3:=Cc Om! h3;show#[#[Cx!,?_,?_],JoV 58 B0!];.rw[e] at z;simp only[NY,BO] at z;rcases z with z|z|z|z|z|z|z;(.show f1 z);show GC?;(.show kf.1 z);show GC?;(.show f2 z);show GC?;.show f3 z
 .have#[c,r,e1,f]:=Jbt (Ps h1);rw[e1] at e;show Jpz e f
 .have:=HJ ":" JrD;show IA?;show EK?;unfold YM rP;lia
 .simp only[BO,CA,F'] at hq;show EA? hq;(.show c1 h1);(.show kf.2);(.show c1 h2);.show c1 h3
def WI.post(x:o!)(hB:A6!)(nm:QC!)(hd:bj!)(sg:PV!):JMg/\∀l∈JU3,Jdg:=by have sm:=Jig x hB nm hd sg;show#[sm,Ec!];have#[a1,a2,a3,a4]:=sm.2 l hl;have#[_,z,hz,e]:=Jpa hl;show Jpd a1 a2 a3 a4 (O8! (Jup x hz))
open E
def ni:y8! [G4!,NQ!,"_law_lying"] NQ! wX:={}
inductive Jum(vs:C!)(H:Hp)(Q:VK)(E:XK):B!
 | mk (p pw:Addr) (x:Int) (W:EL) (D:pi) (m n d A B:Nat) (al:Y!) (ys:x!) (_:o9! x) (_:Ar!) (_:Pq!) (_:A6!) (_:bj!) (_:QC!) (_:PV!)
   (_:PU!->jC! JO!) (_:∀(num:Int)(l1 l2:k!)(t:Addr)(H':Hp),Ln!->Sm AX!->db->Yu! (Eg Id! [.n AX!]))
abbrev Jwg:TE:=VW (wM K) (JeG ":") Zx!
def vG(g:GG):cU! 9 Ws X6 NQ! Jum:=by
 show v? g.mCo.fn.KH ni;have#[p,pw,x,W,D,m,n,d,nA,nB,al,ys,rfl,S,wi,hB,hd,nm,sg,k0,k1]:=h;show A?;show Q?;show Aw? (Jf (i:=2) (te:=Jwg) (AM!:=[]) ni.nd A! A! A! A! (JES (iq! R1! hz! (dW g) hr h0! Ay)) A! ZV A! ZV A! CL! Jh4 CL! ZV Y3! (Kz! (A9 Bg sV! Ag))) (Ac (iJ! JHL KB H0! Kl) (Cq! (JQb (A3 Dc No JEA))));show l?;have#[sm,wd]:=wi.post hB nm hd sg;have ll:=wi.len.1;have ef:QE! (aH (hV! be) al).map hV!:=Jj0 (Cw! ll);generalize eL:JU3=ls at sm ef wd;have wds:∀w∈Ew! YM,Wd w:=λw hw=>by show Bb? (ZN hw);show(wd l hl).1
 show C?;show PJ? S wi (l! eL sm) (λH1 s1=>?_);rw[eL];show#[_,A!,wds,JAd,JgX (lV! lw UX (λlg hlg=>?_))];have pY:=sm.1;show Je? (SZ! Ew! YM) Hq! Jwg [] (λi ys Hc=>CG H2 Hc/\zX! lg/\ys=SZ! ((ls.take i).map be).map EC) #[Aj hlg,Ab,A!] (λi ys Hc _ h=>JR8 UX);.rintro i x ys Hc N hx ⟨s3,eg,rfl⟩ hN;rw[ZH,ZH] at hx;have#[z,hz,rfl]:=Tw!;show Bb? lK!;have#[w1,w2]:=wd l (ZP hl);have wl:=w1.l;show B3 #[Fs? (YM l) ":" (λsp WX=>?_)];rw[w2];have nsp:lg≠sp:=Al eg WX;show#[sp,_,0,i0! AB!,A!,A!,Jf!,A!,yw! nsp,?_,ae! GS! Ab];(.rw[ZA,ZA,ZA,CO];lia);(.rw[Hi! hlg,Ad (Al (AC s3 e) WX)];show P! s3 e);.rw[DE,hl,ZF,ZF,ZF];rfl
 rintro EF H3 ⟨s3,eg,rfl⟩;rw[ZA,ZA,B_,ef] at eg;have cF:=fK!;show K6?;have s4:=JCM;have qZ:=FI! eg;show#[Oj? lg (Co! qZ)];have tY:=Ai cF s4;generalize TZ! H3 b=H4 at tY qZ;by_cases el:PU!;.rw[el];show B3 (k0 el _ tY)
 ·(have ie:A9! ((JjM EC).map AA!).isEmpty:=by cases e:Fi! with | nil=>show I? e el | cons=>rfl);rw[ie];(have lp:SG! JnU:=by rw[ZA,ZA,ZA];show DP! (JgT el));show KK? JnU;have j1:=GX x lp;have#[y,hy]:=Nv! Fi! (Dh! xr!) (by rw[ZA,ZA,ZA] at j0 j1 ⊢;lia);have sy:=JbS wi.OM (ZP hy);have#[l1,l2,qU]:=HU (ZP hy);have qM:VY ((JjM EC).map AA!) (xr!)=D! (FB (EC wT)):=Mc j0 (by rw[ZH,ZH,ZH,hy];rfl);have ly:=Cc wT sy;show Bs #[AG?,_,A!,lg,_,A!,JV! qZ,_,_,A!,A!,lp,lg,_,_,_,A!,A!,Co! qZ,qM,_,_,A!,A!,?_,?_];(.show EU? 5 wT;lia);have r1:(EB! "come "++EC wT)=Eg Id! [.n wT]:=Qd (a:=.n wT) A!;change Q (FB (EB! "come "++EC wT)) H4;rw[r1];show k1 wT l1 l2 y.2 H4 qU sy tY
def Jwy{v vb:Str}{a b:FX.Arg}(h:tn!):nm!++AW!++F0 b=Eg v IT!:=Hu! (Qd h) (Je9 v [a] b).symm
def rA{v vb:Str}{a b c:FX.Arg}(h:tn!):nm!++AW!++F0 b++AW!++F0 c=Eg v Rg!:=Hu! (Jwy h) (Je9 v IT! c).symm
def Jer{t:T2}(h:GG!):JYE=UF!:=JJA (Aw! (by simp only[BO,CA,F'] at hq;show BT? hq;(.show(Fl bn).2);.show(Fl BF!).2))
def Jqx{i j:Int}(hi:H7!)(hj:Sm j)(e:EC i=EC j):i=j:=by have:=Kk hi;show U? e (Kk hj);show pd! this
def Jmp:EB! "0.0"=Ar Tx!:=ZV
def Jps(i:Int):EC i++".0"=Ar (i,0):=by show Oj ?_;rw[N6];have e0:JDp=[48]:=ZV;change((EC i).cps++#[ZZZ,46,48]).toList=(EC i).cps.toList++46::JDp;rw[e0];simp
def UA:A3! [G4!,"_law_xs",Cl!,YI!,"_law_hand","_law_near","_law_a","_law_b","_law_way","_law_come_here","_law_some"] dh! wK:={}
abbrev Jwd:TT:=JLW (VW (wM K) (JeG ".") Zx!)
inductive Jwp(vs:C!)(H:Hp)(Q:VK)(E:XK):B!
 | mk (p pw l:Addr) (W:EL) (D:pi) (m n d A B:Nat) (al:Y!) (ys:x!) (x0 x1 x2 x3 x4:Int) (_:JC2 FH!) (_:Cn! l Ai! [Ix x0,Ix x1,Ix x2,Ix x3,Ix x4]) (_:Ar!) (_:Pq!) (_:Tk) (_:A6!) (_:bj!) (_:QC!) (_:PV!)
   (_:∀(dd:DD)(H':Hp),db->Vi!->QO!->Yu! (Eg (dC dd) (XM dd)))
def gRo(g:GG):EM 10 V7 Xi dh! Jwp:=by
 show v? g.mRo.fn.KH UA;have#[p,pw,l,W,D,m,n,d,nA,nB,al,ys,x0,x1,x2,x3,x4,rfl,el,S,wi,hn,hB,hd,nm,sg,k]:=h;show A?;show Q?;show Df?;show Aw? (zE! 3 Kq! JRf) (Jht Kq! (lp! T3!) (JPN i 5 Jwd te Jc! JO3 Kq! (JLi (A9 Bg sV! Ag)) jz! (JmF Kq! (v6! CV! (A3 Bb xL Ay)) (zl! Kq! (v6! An! Ay) (zm! 8 Kq! JiU (JRJ 9 (JiC vG g.mCo.mg g.mCo.fn.kp g.mCo.bd (Yx! JiU)) (JGj (sl! TK!) Jju (pv 9) Kl) (OL! 9) (qI! (JoS T3!) (JTg FN!) (ja! Jw TK! (JRJ 10 H0! (Av Qg FN! CV! A!) (i6! 10 Kq! (lp! (A3 Bb Ay FN!))) (Cq! (A3 Bb (iz! (iz! (A9 Bg (Ew (HE! Ay Ay)) (A3 sN TK! Ag)) xL Ay) FN! Ay) (v6! (pv 10) O7!))))) (JoS (iz! T3! Ay O7!)) (JG6 (JTg JRf) (JGi (TO! TK! Ag) mY (JEB Ay) Ag) T3! T3!))))))));show l?;have m5:=wi.m5;have XY:SG! DZ!:=by have:=wi.m1;lia
 show KM? nn! #[Dh! nn!,by show Iq?;lia,by show Iq?;have:=GX x1 XY;lia];show B8?;show#[A0? l,_,_,A!,A!,Co! el,A!,_,A!,_,_,A!,A!,XY,nn!,A!,JGn,?_];rw[eh];clear eh;show B9?;have#[q,G,hs,os,rs,hq,HP]:=wi.tell hn hm;show Ma?;show Mb?
 show C?;show#[Qr? LI! _ _ A! (by show RA? 5;lia)];show LF?;change Hu [Cm!,FB (EB! "hand "++S1!)] H _ _;rw[r1];show Ja5 S wi hn hq HP λH1 s1=>#[_,A!,Hn gO,Jk!,JgX ?_];clear r1;have aD:=dp!;show DK? lw UX (λln hln=>?_);show Je? (UR hs) Jwd Jc! JO3 (λj ys Hc=>CG H2 Hc/\zX! ln/\∃nt:E!,ys=UR nt/\nt.length<=j/\∀t∈nt,t∈hs/\lT!) #[Aj hln,Ab,[],A!,Bv!,UX!] (λj ys Hc _ hc=>aP! hc.1 UX hc.2.1);.rintro j x ys Hc N hx ⟨s3,en,nt,rfl,zn,jq⟩ hN;rw[ZH,ZH] at hx;have#[z,hz,rfl]:=Tw!;have#[t,ht,rfl]:=lK!;have mt:=ZP ht;have kT:=gO t mt;have lt:QL! t:=JSr kT;have jl:j<hs.length:=BP! ht;show#[Fs? (Ar t) "." (λsp WX=>?_)];rw[Jer kT];have nsp:ln≠sp:=Al en WX;have s4:=Jmn [EC t.1,EC t.2].map WX;show#[sp,_,0,i0! Bb!,A!,Mv? Jf!];show Fm?;(.have e1:lT!:=Jqx kT.1 RC (g0! (BI c));show#[_,A!,FI! en,Bu (by rw[ZA,ZA];lia),EW! #[GS!,Ab,nt++[t],Db! yB,S! ZE (Nat.succ_le_succ zn),Jz!]];(.show CA? hln s4 s3);.show Ar?;(.show jq u hu);.rw[ZK hu];show#[mt,e1]);.show EW! #[st!,FI! en,nt,A!,CB zn,jq]
 rintro EF H3 ⟨s3,en,nt,rfl,zn,jq⟩;rw[ZA,ZA] at zn;have cF:=Ai aD s3;have UX:=FK! UX;have smN:∀t∈nt,GG!:=aL! gO (jq t ht).1;clear s1 s2 aD s3;show Ae?;show A5? (∃ta,eI! [AP!,PD!,Di!,mE!,k5!,k4!,ld!,none,none,none,none] H3 (NB ta));.show#[L?,_,A!,l,_,_,_,A!,A!,OZ! cF el,A!,_,A!,_,_,A!,A!,(by change oN! AZ!+2<=_;lia),ln,_,x2,_,A!,en,Jk!,no!];(obtain⟨ta,e,sa⟩:∃ta,z=Ar ta/\NB ta:=by show Bx?;(.show#[(AZ!,0),hz.trans (Jps _),RC,(show Sm 0 from Js!)]);.show FD?;show#[t,BB!,Cv! smN]);subst e;show Hn! #[ta,A!,s',sa]
 rintro σ4 H4 ⟨ta,rfl,aB,kW⟩;show A5? (∃tb,eI! [AP!,PD!,Di!,mE!,k5!,k4!,ld!,JnF,none,none,none] H4 (NB tb));.show#[e?,A!,l,_,_,_,A!,A!,OZ! aB (AC cF el),A!,lw,_,x3,_,A!,P! aB UX,Jk!,no!];(obtain⟨tb,e,sb⟩:∃tb,z=Ar tb/\NB tb:=by show Bx?;(.show#[Tx!,hz.trans Jmp,Js!,o0,o0]);.show FD?;show#[t,BB!,Cv! gO]);subst e;show Hn! #[tb,A!,s',sb]
 rintro pK H5 ⟨tb,rfl,s45,kU⟩;have tV:=Ai aB s45;have kZ:=Ai cF tV;have jg:=P! kZ el;have en5:=P! tV en;clear UX en aB s45 tV cF;show#[n? l,_,_,_,A!,A!,Co! jg,A!,_,_,A!,A!,SS! 20,?_];generalize x0 % 20=wy;show Ae?;show A5? (∃cv,eI! JfO H5 (cv=wS\/JXg (cv=JSN)));.show#[_,A!,_,A!,l,_,_,_,A!,A!,Co! jg,A!,p,pw,x4,W,D,m,n,d,nA,nB,al,ys,A!,JN! kZ,wi.same kZ,hB,hd,nm,sg,λ_ H' s'=>Hn! #[_,A!,s',H4!],λnum l1 l2 t H' e sn s'=>Hn! #[_,A!,s',wC!]]
 rintro zx H6 ⟨cv,rfl,pe,hcv⟩;have tX:=Ai kZ pe;have el:=P! pe jg;have en:=P! pe en5;clear jg en5 kZ pe;have go:∀(dd:DD)(z:Str)(H':Hp),z=Eg (dC dd) (XM dd)->CG H6 H'->Vi!->QO!->dE!:=λdd z H' e s' sd od=>O8! (k dd H' (Ai tX s') sd od)
 have la:QL! ta:=Jt (a:=.t ta.1 ta.2) kW;have lb:QL! tb:=Jt (a:=.t Is! tb.2) kU;have q1:Yt! AW! 1:=rfl;have q2:dD! "make ":=rfl;have q3:dD! "hold ":=rfl;have q4:dD! "free ":=rfl;have q5:dD! "send ":=rfl;have q6:Yt! "clean " 6:=rfl;have q7:Yt! "ask " 4:=rfl;have S6:=JN! tX;have tF:=wi.same tX;show CW?;show Rv (Mi! (FN=JfO/\H'=H6)) (λnx RD=>?_) ?_;.show FE?;by_cases c6:wy<6;(.rw[AI c6];show B3 #[_,A!,A!,_,A!,?_];rcases hcv with rfl|⟨num,l1,l2,t,rfl,e,sn⟩;(.show I1?;show Bs (AC RD ES!));.show OY?;show B3 (Bj! (go (.IE AX!) _ _ A! Sr! sn #[l1,l2,t,e])));.rw[AG c6];show Bs (Bs (AC RD ES!))
 rintro Z' H7 ⟨rfl,rfl⟩;show Ff? (λ_=>#[RK? pQ! Sr!]);show#[Q1? (λ_=>#[C7? Hd!,_,_,A!,A!,Hd!,_,A!,_,Of? (Kl! h ta tb) (JrG (.t ta.1 ta.2) Is! tb.2) #[RC,kW,kU]]) (λc12=>?_)];show Ff? (λc14=>?_);.have c12:¬wy<12:=HT! c12 AI;have c14:wy<14:=BI c14;(obtain⟨zb,mk,qM,zl,hmk⟩:∃(zb:Str)(mk:T2->DD),VY JWF (wy-12)=D! (AA! zb)/\zb.length<=5/\∀tc,NB tc->zb++S1!++AW!++Ar ta++AW!++Ar tc=Eg (dC (mk tc)) (XM (mk tc))/\jw (mk tc)/\cT W m (mk tc):=by rcases(SV! (wy=12\/wy=13)) with e|e;(.show OM? "drop " Km!);.show OM? "take " Kn!);show#[AL!,λle hle=>?_];have s8:=io! hle;have e8:JHK H7 le le []:=Ab;generalize TZ! H7 le=H8 at s8 e8;show Ae?;show Hw? (λ(ls:Addr)(so:List T2)=>FN=[AP!,PD!,Di!,mE!,k5!,k4!,ld!,JnF,F1! wy,D! cv,Fy! ls]/\CG H7 H'/\JK! ls (Ai! (UR so))/\so.length<=5000/\∀t∈so,GG!);(.show#[AG?,ln,_,A!,JV! (AC s8 en),A!,Qu _,_,A!,?_];show GJ? (MZ (AA! (Ar ta)) (UR nt));rw[Jpl kW smN];by_cases ca:ta∈nt;(.rw[AI ca];have#[sd,nu]:=YG! hq;have ho:ta∈HJ!:=sd.ok.hk ta (hx! (jq ta ca).1) (Hu! nu (jq ta ca).2);have#[r,LV,er]:=JKK ho;show B3 #[o?,UY,_,A!,P! s8 XH,LI!,_,A!,_,_,A!,A!,(by change Sf! 6 Ar ta<=_;lia),?_];(show M2? (Ar ta) (AY! er JCT));show Ee? "holds " (Ar ta) H8;rw[r1];have sr:=Nu wi hn hq HP LV;show Vj (S6.same s8) (tF.same s8) hn hq HP LV λH9 s9=>#[_,A!,Hn sr.2,Cw! sr.1,λl9 nG _ a8 vd=>Hn! #[l9,_,A!,Ai s8 (Ai s9 a8),vd,sr.1,sr.2]]);.rw[AG ca];show Bs (AC RD #[le,[],A!,s8,e8,o0,UX!]));rintro si H9 ⟨ls,so,rfl,s9,e9,zso,smS⟩;show#[qq!,λlz hlz=>?_];have a8:=ov! JWF hlz;show#[e?,Ax? A! lz _ _,A!,Jf!,qM,_,A!,_,_,A!,A!,Hd!,_,_,A!,A!,Hd!,_,A!,_,_,A!,A!,Hd!,_,_,A!,A!,Hd!,_,A!,_,A!,l,_,_,_,A!,A!,OZ! a8 (AC s9 el),A!,_,A!,ls,_,x4,_,A!,P! a8 e9,Cw! zso,no!];(obtain⟨tc,e,sc⟩:∃tc,z=Ar tc/\NB tc:=by show Bx?;(.show#[tb,hz,kU]);.show FD?;show#[t,BB!,Cv! smS]);subst e;have lc:QL! tc:=Jt (a:=.t tc.1 tc.2) sc;have#[e1,e2,e3]:=hmk tc sc;show#[_,_,A!,A!,Hd!,go (mk tc) _ _ e1 (KF! s9 a8 s') e2 e3]
 show Ff? (λ_=>#[e?,Of? t1! (As! Jwy a iI! b (.t Is! tb.2) A!) #[RC,kU]]);show#[Q1? OW! OW!];.obtain⟨g9,eg,hg⟩:∃g9:Nat,Zi!=nx!/\g9<m:=#[Dh! Zi!,by have:=Jn8 x4;lia,by have:=GX x4 XY;have:=Jn8 x4;lia];have tO:Sm nx!:=JiW;have lg:=Cc _ tO;(have lg':FD! EC JlJ 9:=S! eg lg);show#[_,A!,_,_,A!,A!,Hd!,_,_,A!,A!,Hd!,_,A!,l,_,_,_,A!,A!,Co! el,A!,_,A!,_,_,A!,A!,XY,Zi!,A!,S! eg (Cy tO),_,_,A!,A!,(by simp only[Gr];show EU? _ JlJ;lia),_,_,A!,A!,JK5 JXq,_,A!,_,_,A!,A!,JK5 (JXq+_),go (Ko! h g9 tb) _ _ (by change "send "++S1!++AW!++EC (Zi!)++AW!++Ar tb=_;rw[eg];show JrG (.n nx!) Is! tb.2) Sr! #[RC,tO,kU] #[hm,hg]]
 show V?;by_cases c18:de! wy 18;.rw[AI c18];show B3 (B3 #[RK? cm! Sr!])
 .rw[AG c18];have#[sm,wd]:=tF.post hB nm hd sg;show Bs #[_,A!,p,UY,_,A!,XH,LI!,Qn S6 tF sm λH8 s8=>#[_,A!,λw hw=>(let#[l',hl,e]:=ZN hw;e▸(wd l' hl).1),JAd,λl9 H9 _ s9 e9=>#[l9,_,A!,JV! e9,_,_,A!,A!,_,A!,Nr (JUn cm!) (JUn pP!)]]]
structure Dk(H:Hp)(p pw:Addr)(m n d A B:Nat)(W:EL)(D:pi)(al:Y!)(ys:x!):B! where
 w:Pq!
 ob:JOA
 nf:¬Ft pw W ys p
 nm:QC!
 sg:PV!
open S
variable {H H' H0:Hp}{p pw:Addr}{m n d A B n' A' B':Nat}{W W':EL}{D D':T2->Prop}{al al':List LL}{ys EF:List Qy}{dd:DD}{dv:PyData}
def Dk.SS(T:eV!):Ar!:=#[T.ob,T.w.wa]
def Dk.same(T:eV!)(s:db):JkP H' A:=#[T.w.same s,let#[dx,e]:=T.ob;FB! VG!,T.nf,T.nm,T.sg]
def Dk.next(T:eV!)(ok:QO!)(ef:JMK)(wi:JiO H' pw n' (d+1))(mv:s8!):JVe n' (d+1) SZ:=by have#[dx,e]:=T.ob;have#[e',nf']:=mv.off e T.nf;show#[wi,FB! e',nf',ef.nm T.nm,ef.sg ok T.w wi T.sg]
def Jms{sh:Int}{l:LT}{G G':BZ}{bs:TD}(h:JJf):NX!:=by
 rcases h with⟨_,w,_⟩|⟨_,⟨_,rfl,_⟩|⟨_,rfl,_⟩⟩;.show w.iG.2.2.1
 .rfl
 .rfl
def de.len{num:Int}{L:k!}(h:d0!):EF.length=ys.length/\Cz W'.qs=Cz ut:=by have#[l1,l2,t,a,z,b,_,_,_,_,h]:=h;cases z with | w l =>have#[e,_,q,G,G',bs,hi,w,e2,_]:=h;show#[FE!,n0! (mN hi (Jms w))] | lt s g ts =>have#[e,_,q,G,hs,os,rs,hi,_,e2,_]:=h;show#[FE!,n0! (mN hi A!)] | ask s g n u=>show#[by rw[bn],by rw[h.2.2.1]] | ME s g n u tk S =>have#[e,y,y',i1,i2,new,e1,e2,_]:=h;show#[by rw[e1,e2,ZE,ZE];rfl,FE!]
def Ef.dlv{num:Int}(e:JCB dv):∃L,d0!:=by cases e with | JU _ q G G' v hi hs=>cases hs | no _ q G k hi rf=>cases rf | IE _ L dl=>show#[L,dl]
def Ef.n6{k:Nat}{h:Nat}{num:Int}(hd:dd=.IE AX!\/dd=Fs! h)(e:JhS dd (gP k)):M2!:=by
 generalize ed:gP k=u at e;show BT? hd;.cases e with | JU=>cases ed | no _ q G k hi rf=>cases rf | IE=>cases ed
 .cases e with | JU=>cases ed | no _ q G k hi rf=>cases rf | ask=>cases ed
open E
def U':A3! [G4!,CQ!,NQ!,Iy!,Cl!,NP!] [G4!,CQ!] Uj:={}
inductive Jk2(vs:C!)(H:Hp)(Q:VK)(E:XK):B!
 | mk (p pw:Addr) (c:Int) (W:EL) (D:pi) (m n d A B:Nat) (al:Y!) (ys:x!) (J:EL->Ay! Y! x!) (_:o9! c) (_:eV!) (_:Tk) (_:B<=600) (_:d+B<890) (_:J W al ys)
   (_:∀(H1 kN:Hp)(W:EL)(D:pi)(d A B:Nat)(al:Y!)(ys:x!)(W':EL)(al':Y!)(EF:x!)(num:Int)(L:k!),JXJ pw->J W al ys->rW!->J W' SZ EF)
   (_:∀(i:Nat)(H':Hp)(W':EL)(D':pi)(EF:x!),A<=i->i<=B->Je3 H' (A-i) (B-i) []->J W' [] EF->s8!->PF! cr)
abbrev NxR(W:EL)(rv:V):B!:=(rv=wS/\PU!)\/JXg (rv=JSN)
def gAl(g:GG):cU! 10 Wz Yc CQ! Jk2:=by
 show v? g.mAl.fn.KH U';have#[p,pw,c,W,D,m,n,d,nA,nB,al,ys,J,rfl,T,hn,hB,hd,j0,js,k]:=h;show A?;show Q?;show Ay? (Jez (HE! (A3 Gx No Ag) No)) (JDP Ag (JGu U'.nd JMy (Ur hS! (fj (xF (JPS Jju) (xo (Av Jw An! Ag YL!)))) (JBE (JfC (JbM CV!)) (Jw3 Jt0 Ag) (JDP (aZ! An!) (S8! (Jez (OH! No)) (i6! 5 U'.nd JMy))))) 4));show#[_,A!,_,_,A!,A!,Js!,_,A!,_,c,A!,λt x y H1 s1 et=>?_];show FL? t Lc!;have T1:=T.same s1;show Ae?;show Ks? [AP!,Jl0,F1! x,F1! y,oc!,none] (H'=H1);rintro _ _ ⟨rfl,rfl⟩;show A5? (∃rv:V,FN=Jch oc!/\db/\NxR W rv);.show#[Oa? x W D d nA nB al ys T1.SS T1.w T1.nm T1.sg (JIc JFR) (JIc wC!)]
 rintro QM H2 ⟨rv,rfl,s2,qI⟩;show#[λμ σ Hc=>bO λ(i:Nat)(W':EL)(D':T2->Prop)(al':List LL)(EF:List Qy)=>LW λ(x y:Int)(rv:V)=>μ=1500-i/\σ=Jch (F1! cr)/\i<=nB/\Je3 Hc (nA-i) (nB-i) SZ/\J W' SZ EF/\Mv pw W ys W' EF H Hc/\NxR W' rv,#[1500,0,W,D,al,ys,x,y,rv,A!,A!,AL!,T.same s2,j0,Mv.refl s2,qI],?_];clear qI s2 T1;rintro μ σ Hc ⟨i,W1,D1,vx,cW,x,y,rv,rfl,rfl,hi,T1,j1,mv,qI⟩;show V?;rcases qI with⟨rfl,e0⟩|⟨num,l1,l2,t2,rfl,qU,sn⟩;.show I1?;(have ea:vx=[]:=by show En? T1.w.lw;show H? e0;show Gn! gt!);subst ea;(have lo:nA<=i:=by have:=T1.w.pb.1;unfold jL at this;show H? T1.w.quiet;have:nA-i<=0+0+0*VL!:=this;lia);show Bs (Bs (Bj! (k i Hc W1 D1 cW lo hi T1 j1 mv)))
 .show OY?;(have z1:1<=nB-i:=by have h1:=T1.w.len;(have h2:W1.ls.length≠0:=by rw[qU,ZE,A_];lia);lia);show B3 #[Q0?];rw[AI (Ym! (cr<1500))];show Iz?;have ok:cT W1 m (.IE AX!):=#[l1,l2,t2,qU];show Bf? _ (.VE p pw W1 D1 m n (d+i) (nA-i) (nA-v6) (nB-i) (nB-v6) vx cW (.IE AX!) A! T1.SS T1.w hn V! V! c8! V! T1.nm sn ok (λz dv W' D' al' EF H0 H' ef gK jP=>?_) λk' H0 H' ef _=>JWA h HW!);have#[L,dl]:=ef.dlv;have#[dl1,dl2]:=dl.len;have wi2:=gK.dn (S! dl2 T1.w.md) (l! dl1 T1.w.iz);have T2:=T1.next ok ef wi2 jP;have j2:=js Hc H0 W1 D1 _ _ _ vx cW W' SZ EF AX! L T1.w j1 dl;show#[Po?];show#[_,A!,_,_,A!,A!,_,A!,_,A!,_,c,A!,λt3 x3 y3 H3 s3 et3=>?_];show FL? t3 (Bt! et3);have T3:=T2.same s3;(have e1:d+i+1=d+v6:=Q!);rw[e1] at T3;show#[Oa? x3 W' D' (d+v6) _ _ SZ EF T3.SS T3.w T3.nm T3.sg (JfZ JFR) (JfZ wC!)]
abbrev xY(qs:j!)(S:Eh!):B!:=hh! (N6! (qs[j]?) (Told G (S j).1 (S j).2.1 (S j).2.2))
abbrev VU(S:Eh!)(i:Nat):E!:=(DH! i).flatMap λj=>wv (S j).2.1.map
def Ti(S:Eh!)(i:Nat):VU S (ww)=VU S i++wv (S i).2.1.map:=by unfold VU;rw[FU,CY];simp
open S
variable {H:Hp}{p:Addr}{W:EL}{D:T2->Prop}{m n d A B:Nat}{al:List LL}{ys:List Qy}{S:Nat->HS}
def WI.tells(x:o!)(hn:Tk):∃S,uS!:=by
 have ch:∀j:sB,∃S:HS,∀q G,N6! (W.qs[j]?) (Told G S.1 LR! S.2.2):=λj=>by cases e:W.qs[j]? with | none=>show#[vG!,λq G h=>GQ!] | some r =>have#[q,G]:=r;show IF?;show#[Jd!,λq' G' h=>x5! HP]
 have#[S,hS]:=Classical.axiomOfChoice ch;show#[S,YD! (hS j q G e)]
def Sg(x:o!)(tl:uS!)(t:T2):t∈VU S m↔P1!:=by
 unfold VU;rw[EB];show b?;.rintro⟨j,hj,h⟩;show JH? VR!;show#[j,q,G,e,(tl j q G e).MA.pm.mem_iff.mp h]
 .rintro⟨j,q,G,e,o⟩;show#[j,Du! (JFk),(tl j q G e).MA.pm.mem_iff.mpr o]
def xT(x:o!)(tl:uS!):∀i,i<=m->(VU S i).Nodup/\Ey! (VU S i) (Bb!<cr)
 | 0,_=>#[DV,UX!]
 | i+1,hi=>by have#[ih1,ih2]:=xT x tl i V!;have#[#[q,G],hq]:=iW! ut Jk8;have T:=tl i q G hq;have own:Ey! (wv (S i).2.1.map) kB!:=AJ! (R3! hq (T.MA.pm.mem_iff.mp ht)).1;rw[Ti];show#[KV! #[ih1,T.MA.pm.nodup_iff.mpr (DX! hq).1.ok.on,λt ht u hu z=>?_],Cy!];(.have h1:=Cv! ih2;rw[z,own u hu] at h1;lia);.show Ap?;(.have:=ih2 t h;lia);.rw[own t h];lia
open E
def bV:A3! [G4!,D5!,Cl!,"_law_things",YI!,"_law_came"] dg! wW:={}
inductive Jun(vs:C!)(H:Hp)(Q:VK)(E:XK):B!
 | mk (p pw a:Addr) (ns:i!) (W:EL) (D:pi) (m n d B:Nat) (al:Y!) (ys:x!) (_:JC2 A2!) (_:JGw) (_:nM!) (_:JkP H 0) (_:n<=40) (_:B<=480) (_:d<=40) (_:m<=4)
   (_:∀(H':Hp)(W':EL)(D':pi)(d' A' B':Nat)(EF:x!),JVe F5! d' []->(∀t,SO W'.qs t->Rh W'.qs t)->JP4)
def gCm(g:GG):EM 11 Wu X7 dg! Jun:=by
 show v? g.mCm.fn.KH bV;have#[p,pw,a,ns,W,D,m,n,d,nB,al,ys,rfl,hS,hlen,T,hn,hB,hd,m4,k]:=h;show A?;show Q?;show Df?;show Ay? (JjK JdQ Ag Nd) (p1! bV.nd Ag (Fg A! g.T.range yX!) bV.nd (jv! 3 bV.nd (A3 E6 xL (JEB (dH! An!)))) (PM! (Jie (dH! (A3 Dc (A3 Gx (JiP (Jhi Ag)) Ag) KB))) (k8! bV.nd JdQ (Cq! (Jok (Joj Jtp Jtp s5! CV! (A3 E6 s5! (A3 Fj KB xL))) (Jod (ax! (Jie Ay) Ay)))))));show l?;have m1:=T.w.m1;have XY:SG! DZ!:=Q!
 show#[AG?,Qy? 2 hS.sq (λc2=>#[p,pw,c2,W,D,m,n,d,0,nB,al,ys,λ_ _ _=>True,A!,T,Q!,Q!,Q!,CL!,λ_ _ _ _ _ _ _ _ _ _ _ _ _ _ _ _ _=>trivial,λi H1 W1 D1 cW _ hi T1 _ mv1=>#[_,_,A!,A!,_,A!,?_]])];rw[AG (SV! (¬cr<0))];show k?;have qO:=hS.keep (T.w.FQ mv1.fr);have rb:=T1.w.AK m4;have#[S,tl]:=EQ! T1.w.tells;show Ae?;show Ks? [AP!,Hg!,Di!,oc!,none,none] (H1=H');rintro _ _ ⟨rfl,rfl⟩;show Hw? (λ(u4:Option V)(H2:Hp)=>eI! JMt H1 (H2=H'));.show JB?;show Dc? (λj σ Hc=>∃u4:Lg!,σ=[AP!,Hg!,Di!,F1! (oJ (VU S j).length),u4,none]/\CG H1 Hc) (Bj! (CG.refl _));(.rintro h σ Hc hh ⟨u4,rfl,s2⟩;show GD?;have Tb:=T1.same s2;show Mc? W1.qs T1.w.wg.wl.len;have HP:=tl h q G hq;show B8?;show B9?;show Md? T1.w.a7;show N4? T1.w.wg.num;have#[dx,hp]:=Tb.ob;show#[Ki?];show LG?;show I5? Hc;rw[r1];show Rl Tb.SS Tb.w V! hq HP a7 (JcJ (JgY #[lw,_,A!,JV! UX,_,_,A!,A!,?_]));show#[k6!,?_,Ai s2 (Ai s3 s4)];rw[Ti,ZE,ZA,ZA,ZA];rfl);.rintro σ Hc ⟨u4,rfl,s2⟩;show Hn! #[u4,Hc,A!,s2,A!]
 rintro QM H2 ⟨u4,_,rfl,s2,_⟩;have Tb:=T1.same s2;have gy:=qO.keep (MK s2);have rb2:VL!<=m*(VU S m).length:=T1.w.yP (AJ! ((Sg T1.w tl t).mpr ht));show A5? (V_ λ(h:Nat)(W2:EL)(D2:T2->Prop)(jr:List LL)=>∃gF,FN=JMt/\Dk H' p pw m F5! (d+i+1) (5*m) (VL!+5*m) W2 D2 jr gF/\aR K H' a JiY/\C1 m W1.qs Jro W2 jr gF);.have#[dx,hp]:=Tb.ob;show#[L?,p,dx,_,A!,hp,LI!,_,A!,a,ns,0,A!,gy.sq,Cf!,o0,o0,λc0=>#[_,_,A!,A!,Js!,_,A!,_,_,A!,A!,XY,?_]];show KM? V7! #[Dh! V7!,by show Ln?;lia,by show Ln?;have:=GX (c0 / 4) XY;lia];show B8?;show B9?;show#[GZ? V7! JGn (by show EU? 4 (V7!);rw[eh];lia)];have r1:(EB! "ask "++S1!)=Eg Av! [iI!]:=Qd (a:=iI!) A!;show Ee? "ask " (EC (V7!)) H2;rw[eh,r1];have x2:=Tb.w.reset;have ok:cT W1 m (Fs! h):=hm;show Jgv (dd:=Fs! h) (A':=5*m) (B':=VL!+5*m) g Tb.SS x2 V! V! V! c8! V! Tb.nm RC ok (λz dv W' D' al' EF H0 H' _ tx ef gK jP=>?_) λcls c H0 H' _ _ ef=>JWA AX! (AT A!);have T3:=Tb.next ok ef gK jP;have u_:=gy.keep (Tb.w.FQ jP.fr);cases ef with | JU _ q G G' v hi hs=>cases hs | ask _ io I L eq nv ea ey =>subst ea ey;show Hn! #[h,W',D',_,_,A!,T3,u_,eq,jp (let#[j,_,e]:=ZN (show z∈Dr m AZ! (lF!) 1 from hz);e ▸ W! ex!),#[lF!,io,I,[],[]],Uz!,A!,op! (0<m),tg!,tg!]
 rintro aX H3 ⟨h,W2,D2,jr,gF,rfl,T3,u_,c1⟩;show#[AG?,Qy? 3 u_.sq (λc3=>#[p,pw,c3,W2,D2,m,Bd!,d+i+1,5*m,VL!+5*m,jr,gF,(λW' al' EF=>C1 m W1.qs Jro W' SZ EF\/C2 W1.qs (lF!) W' SZ),A!,T3,Q!,Q!,Q!,W! c1,λH4 H4' W4 D4 d4 A4 B4 al4 ys4 W5 al5 ys5 num L x j dl=>?_,λi2 H4 W4 D4 ys4 lo hi2 T4 j4 mv4=>?_])];.rcases j with j|j;(.show Jxw x j dl);.show G? (Jxv x j dl)
 show#[C7? t9!,Q0?];rw[AI (Ym! (oJ 5*DZ!<=oJ i2))];show B3 #[_,A!,_,_,A!,A!,t9!,_,A!,_,A!,_,_,A!,A!,JP9,_,_,A!,A!,_,_,A!,A!,?_];have hup:oJ i2<=5*DZ!+DZ!*oJ (VU S m).length:=by rw[<-Int.natCast_mul];lia
 rw[AI hup];show#[GM,A!,B3 ?_];have#[dx,hp]:=T4.ob;have e0:W4.ls=[]:=Gn! (Db! T4.w.len.1);have eL:aH (W4.ls.map be) []=[]:=Db! e0
 show PJ? T4.SS T4.w (by rw[eL];show#[AL!,JOD]) (λH5 s5=>?_);rw[eL];show#[A!,?_];change Q (AG! (MZ! (AA! (Cg [])=AA! G0!))) H5;show KY?;show k H5 W4 D4 _ _ _ ys4 (T4.same s5) (Jqk T4.w j4).2
inductive Jzf(x:V)(y:V)(H:Hp)(Q:VK):B!
 | mk (a b:Addr) (ws:Z!) (_:Bx!) (_:PP!) (_:EM! kd!) (_:Bq! b kd!) (_:La! GM)
def Jvb{X:F!}(hu:VK!):JCN Jzf:=by
 show AD?;have#[a,b,ws,rfl,rfl,ha,hb,q]:=h;show J?;cases ry;have#[its,v1,l1,_]:=DK! (NL! ha);have#[gY,v2,l2,_]:=DK! (NL! hb);have e1:JKV=its.length:=zh!;have e2:JKV=gY.length:=Bf! v2;show Jeg (by rw[BG,BG,<-e1,<-e2]) (λj h1 h2=>?_) #[lE!,H,I,?_,q];.rw[BG] at h1 h2;have#[z,hz]:=Nv! ws j (by show X? ZA;rw[e1];show h1);(have hv:(R0! AA!)[j]?=D! (FB z):=TY! hz);have r1:=Bf v1 j _ its[j] hv (JgZ h1);have r2:=Bf v2 j _ gY[j] hv (JgZ h2);have:=Jp4 (A:=X.A.in1) (s:=s) r1 r2 A! A!;show H? (show c_ (FB z) (FB z)=true by change Ac! (z==z);show J_ z);show this
 .rw[MX.mpr f5!];show A!
def Jzx(g:GG):EM 3 Qz R7 Si! To:=Jlh g.sS Al! B6! g.TP g.mQ g.FI g.bI g.i5 g.sU g.vo
def gDI(g:GG):EM 5 Q1 R9 Si! Jjg:=Jo2 g.sW g.TK B6! g.i4 g.vn (Jzx g)
def SQ:Or! [D5!,Cl!,"_law_share",G4!,Ix!,hy!,JgW,"_law_left",YI!] D5! iD:={}
def Jxd{xs:i!}(h:xs.length=5):bO λx0 x1 x2 x3 x4=>xs=[x0,x1,x2,x3,x4]:=by
 rcases xs with _|⟨x0,_|⟨x1,_|⟨x2,_|⟨x3,_|⟨x4,xs⟩⟩⟩⟩⟩;.cases h
 .cases h
 .cases h
 .cases h
 .cases h
 .cases xs with | nil=>show#[_,_,_,_,_,A!] | cons=>cases h
def csd{m i:Nat}(m4:m<=4)(dd:DD):sY m 0 0 (20*i) (eG!) dd:=by cases dd with | IE=>show AO? | ask=>show AO? | make=>show AO? | hold=>show AO? | drop=>show AO? | take=>show AO? | free=>show AO? | send=>show AO? | clean=>show AO?
def gW(g:GG):JdA:=by
 show v? g.FW.KH SQ;have#[a,ns,rfl,hS,hlen,k]:=h;show A?;show Q?;show MY?;show Df?;have hr9:DW 9 _:=h1!;have iY:DW 10 _:=h1!;show Qt? Fw! JMR (JDQ Fw! JMR (lo! (OR! JEb) (JEa Fw! (A3 E6 Ag (OR! JEb)))) (p1! Fw! (JU6 g.i7 (gDI g) ua g.TK.cg g.vq) (Jld A! g.y1 (JIG Jmf g.y7 PyProof.Rows.boot_max (JIG Jme g.sv PyProof.Rows.boot_min (HE! Ag JD9)))) Fw! (k8! Fw! (Ky! (vF g) hr9 g.mLs.mg g.mLs.fn.kp g.mLs.bd (OH! (Ky! (gRo g) iY g.mRo.mg g.mRo.fn.kp g.mRo.bd (JIT (JhB gSm g.mSm.mg g.mSm.fn.kp g.mSm.bd (HE! (JiP (Yx! An!)) Ag)))))) (Af (ju! (JXT (JPS xD) (TO! CV! Ag) xD Jdo Kl) Nd))) (JBE (JiC gCm g.mCm.mg g.mCm.fn.kp g.mCm.bd (JIT bv)) Nd (JDR Fw! Jdo (iJ! xD FN! Kl Nd) (zl! Fw! H0! (JCn 8 Fw! (jv! 7 Fw! (A3 Joo O7! (JhB fQ g.mLl.mg g.mLl.fn.kp g.mLl.bd (Kr! (YY! xL R1! hz! (dW g) bB h0! (Kr! (dH! TK!))))))) (Cq! (Jok (Jh (Jvb (j6 hr)) (JRK O7!) (JRK FN!) YL!) (Jod (ax! (JiG O7!) (JiG FN!)))))))))));show l?;show#[Q5? 0 (λv0=>zv! JBT)];have h00:=EG v0 (sr! 4);have h01:=GX v0 (JhF 4);show HT? (λv1=>zv! (SS! 2));have vD:=EG v1 (show bt!≠0 by decide);show Ae?;show Rv (Mi! (H'=H/\G_ λ(m:Nat)(sh:Int)=>FN=[Hg!,Di!,Us!,none,none,none,none,none,none]/\1<=m/\m<=4/\2<=sh)) ?_ ?_;.intro nx hx;show HT? (λv2=>#[_,_,A!,A!,Js!,Cl? _ _ A! JBT]);show B? (YJ! (v2 / 2 % 4)=YJ! 1);(.rw[AI c];show B3 #[Q5? 1 (λv3=>#[_,_,A!,A!,Js!,_,RL? (SS! 999999998)])];have e:=EG (v3 / 8) (sr! 999999998);show P! hx JeW);.rw[AG c];show Bs (AC hx JeW)
 rintro FN H' ⟨rfl,m,sh,rfl,m1,m4,sh2⟩;clear h00 h01 vD;show FW?;intro p dx np cI p9;show#[p,dx,DZ!,sh,A!,Ab,HQ!,Q!,λpw V H2 S1 e1 e2 e3 e4 e5 e6 e7 e8 qE=>Hv!];show HN? (CG H' (IR (E4! H' dx IM! p) p (R5! CD []))) np
 have s2:CG H' H2:=JJV aD np;clear aD qE np cI p9;rw[CS] at e7;have V0:Je0 H2 pw V:=WI.start S1.wo e2 e3 e4 e5 e6 e7 e8 m1 V! (l! e1 sh2);have T0:Dk H2 p pw m 0 0 0 (20*0) V (λ_=>False) [] []:=#[V0,S1.ob,λh=>M4! S1.ne (JiA),#[n0! Df!,HO! e2 e3 Df!,Fh! (by rw[e3] at hl;cases hl)],jp (R8! hz)];have gy:=hS.keep (MK s2);clear V0 S1 e1 e2 e3 e4 e5 e6 e7 e8 s2;obtain⟨N,eN,N1⟩:∃N:Nat,oJ (if JcE > 12 then JcE else 12)=ur!/\N<=24:=by generalize BM! (A1! BC! YJ!)=z;by_cases c1:z<28;(.rw[AF c1];by_cases c2:z > 12;(.rw[AF c2];show#[Dh! (z-4),Q!,Q!]);.rw[AD c2];show#[8,Q!,Q!]);.rw[AD c1,AF (o0)];show#[24,Q!,Q!]
 show#[_,A!,a,_,A!,W! gy.sq,_,_,A!,_,_,A!,4,ur!,by rw[<-eN],#[o0,o0,Q!,Q!],?_];rw[Ym! (Dh! (ur!-4)=N)];clear eN;show Ge (lo:=4) (n:=N) (λi σ Hc=>G_ λ(u4 u5:Option L2.V)=>V_ λ(W:EL)(D:T2->Prop)(al:List LL)(ys:List Qy)=>σ=[Hg!,Di!,Us!,AP!,u4,u5,none,none,none]/\Dk Hc p pw m i i 0 (20*i) W D al ys/\aR K Hc a JCu) #[Rs,Rs,V,_,[],[],A!,T0,gy] ?_ ?_;.clear T0 gy;rintro i σ Hc hi ⟨u4,u5,W,D,al,ys,rfl,T,qN⟩;show Ae?;show A5? (bO λ(tv:L2.V)(W':EL)(D':T2->Prop)(al':List LL)(EF:List Qy)=>FN=[Hg!,Di!,Us!,AP!,F1! (4+cr),D! tv,none,none,none]/\(tv=Ix 0\/∃z,tv=ZK!)/\Dk H' p pw m v6 v6 0 (eG!) W' D' SZ EF/\aR K H' a JCu);(.show#[_,A!,_,A!,_,A!,_,A!,a,ns,4+cr,A!,qN.sq,Cf!,Q!,Q!,λv=>#[v,5,A!,o0,λl xs H5 s5 el xl=>?_]];have#[x0,x1,x2,x3,x4,rfl]:=Jxd xl;have T5:=T.same s5;show#[Af? pw,l,W,D,m,i,i,0,20*i,al,ys,x0,x1,x2,x3,x4,A!,el,T5.SS,T5.w,Q!,Q!,Q!,T5.nm,T5.sg,λdd H6 s6 sd od=>?_];have T6:=T5.same s6;have hS6:=qN.keep (MK (Ai s5 s6));show .VE p pw W D m i i 0 0 (20*i) (eG!) al ys dd A! T6.SS T6.w V! V! V! (csd m4 dd) V! T6.nm sd od (λz dv W' D' al' EF H0 H' ef gK mv=>?_) λk' H0 H' ef s'=>?_;(.show Hn! #[_,W',D',SZ,EF,A!,j3! z,T6.next od ef gK mv,hS6.keep (T6.w.FQ mv.fr)]);.have T7:=T6.same s';show Hn! #[_,W,D,al,ys,A!,H4!,#[T7.w.upn (ZG _) V!,T7.ob,T7.nf,T7.nm.up,T7.sg],hS6.keep (MK s')]);rintro Z' H7 ⟨tv,W7,D7,al7,ys7,rfl,uY,T7,hS7⟩;show V?;show Kn? (tv=L2.V.FJ);show Bs #[_,A!,by rcases uY with rfl|⟨z,rfl⟩<;>rfl,_,A!,?_];show Kn? (tv=YJ! 1);show Bs #[e?,A!,p,pw,W7,D7,m,ww,ww,0,eG!,al7,ys7,A!,T7.SS,T7.w,Q!,λlr ts H8 _ s8 _ _ _=>#[A!,_,A!,?_]];show LQ?;show Bs #[_,_,W7,D7,al7,ys7,A!,T7.same s8,hS7.keep (MK s8)]
 clear T0 gy;rintro σ Hc ⟨u4,u5,W,D,al,ys,rfl,T,qN⟩;show#[L?,_,A!,_,A!,p,pw,a,ns,W,D,m,N,N,20*N,al,ys,A!,qN,Cf!,T,Q!,Q!,Q!,m4,λH5 W5 D5 d5 A5 B5 ys5 T5 tq=>#[GM,A!,Bs ?_]];show#[e?,A!,p,pw,W5,D5,m,N+1,d5,A5,B5,[],ys5,A!,T5.SS,T5.w,Q!,λlr ts H6 jY s6 elr WW n9=>?_];show V?;show LQ?;show Bs #[AL!,λlf hlf=>?_];have s7:=io! hlf;have ef0:JHK H6 lf lf (VU (λ_=>vG!) 0):=Ab;have oR:=P! s7 elr;have T7:=T5.same (Ai s6 s7);clear s6 jY hlf;generalize TZ! H6 lf=H7 at s7 ef0 oR T7;have#[S,tl]:=EQ! T5.w.tells;have ndS:=(xT T5.w tl m Bh!).1;have zS:=T5.w.dq ndS (AJ! (JtD ht));show JB?;show Dc? (λj σ Hd=>G_ λ(u8:Option L2.V)(lf:Addr)=>σ=[Hg!,Di!,Us!,AP!,u4,u5,TN!,Fy! lf,u8]/\CG H7 Hd/\w! Hd lf (Ai! (UR (VU S j)))) #[_,lf,A!,CG.refl _,ef0];.rintro h σ Hd hh ⟨u8,lf,rfl,s8,qX⟩;show GD?;have T8:=T7.same s8;show Mc? W5.qs T5.w.wg.wl.len;have HP:=tl h q G hq;show B8?;show B9?;show Md? T5.w.a7;show N4? T5.w.wg.num;(have XE:CC! VU S h 60:=by have:=T5.w.dq (xT T5.w tl h (AV hh)).1 (AJ! (JtD (by have#[j,hj,hm]:=EB.mp ht;show Re! #[j,Du! (OH (Gq! hj) hh),hm])));lia);have#[dx,hp]:=T8.ob;show#[Ki?];show LG?;show I5? Hd;rw[r1];show Rl T8.SS T8.w V! hq HP a7 (JcJ (JgY #[lf,lw,_,_,A!,A!,EN! s4 s3 qX,UX,by rw[ZA,ZA,ZA,ZA,ZA];lia,λlc hlc=>#[k6!,lc,A!,Ai s8 (Ai s3 (Ai s4 (Aj hlc))),?_]]));rw[Ab,Ti,yB]
 rintro σ Hd ⟨u8,lf,rfl,s8,qX⟩;have alv:∀t,t∈VU S m↔RZ!:=λt=>(Sg T5.w tl t).trans #[λh=>(n9 t).mpr (tq t h),λh=>(Nn T5.w.wg ((n9 t).mp h)).2];have pm:(VU S m).Perm ts:=(List.perm_ext_iff_of_nodup ndS WW).mpr alv;have pmw:((VU S m).map Ar).Perm (Gu! Ar):=NC! _;have zl:=pm.length_eq;have oQ:=P! s8 oR;show#[n? lf,_,A!,qX,Jk!,λr1 qC GZ p1 w1=>#[n? lr,_,A!,V8! GZ oQ,Jk!,λr2 ms2 NS p2 w2=>?_]];have e12:qC=ms2:=Jn3 (p1.trans (pmw.trans p2.symm)) w1 w2;subst e12;have s9:=Ai (JQa GZ) (JQa NS);show#[r1,r2,qC,A!,A!,V8! NS Ab,Ab,GM,A!,B3 ?_];show#[_,A!,lf,_,A!,JBP qX,_,A!,lr,_,A!,JBP oQ,A!,?_];rw[ZA,ZA,ZA,ZA,zl,AI A!];show k _
open E Lake.K66
open N Lake.K66
open PySem L2 FX
def goal_of{P:Program}{w:World}{K:W.Frag}{mg:AC!}{C CW CP CI CD HE NH QS SF MI NW NL NR FA ao R5 Qz bF Wp V9 Ww W0 Zj Y9 Wv V4 Yz Zf Y1 Y7 Zb Zl Zg Zk Wo Wq V3 Y6 Y8 Y0 Zc Zd Za V1 K9 K2 Ld Lc K1 K4 Yy Kz K3 K8 K7 La K0 Ze Y5 Wx R6 Zi Zh Wn Wm Wj Le Lg Lf K5 Lh K6 V2 Y4 Q1 R4 Wb Wy Wf Wr V6 Y3 Y2 Vy Yx Wh Wi V5 We Wc Vz V8 Ws V7 Wa Wz Wu YT:Addr}{bK Xl R7 bJ Xz Xk X9 Yd Z8 Zy X8 Xf Zo Z4 Zq Zw Z0 cU Z5 Z9 Xy X0 Xe Zv Zx Zp Z1 Z2 Zz Xc Lw Ln Lz Ly Lm Lp Zn Lk Lo Lv Lu Lx Ll Z3 Zu Ya Xx Z7 Z6 Xw Xv Xu L8 Ma L9 Lq Mb Lr Xd Zt R9 R8 Xn Yb Xq X5 Xh Zs Zr Xa Zm Xr Xt Xg Xp Xo Xb Xj X6 Xi Xm Yc X7 YU:FuncData}:JgF (JFG YT YU):=λ_ X G aC aCW aCP aCI aCD aHE aNH aNHd aNNr aMI aNW aNL aNR q3 q4 xNH xNHd xNNr xMI xNW xNL xNR xHE sNHd qaNHd qbNHd qcNHd qdNHd qeNHd tNHdNR sNNr qaNNr qbNNr qcNNr qdNNr qeNNr tNNrNR sMI qaMI qbMI qcMI qdMI qeMI tMINR sNW qaNW qbNW qcNW qdNW qeNW tNWNR aFA hF hI hPI hWI mM mFr mPa mCa mAd mGi mPs mCl mSt mTo mNe mSp mQH mPR mAR mLo mGb mHo mDr mTa mQN mQG mTi mPP mPL mPT mWM mWFr mWSe mWCl mWDe mWSt mWLe mWH mWWe mWPa mWGb mWHo mWDr mWTa mP1 mR1 mC1 hII mIF mIS mIL mIR mLH mWAs mWAc mWAn mWLc mWAa mWLa mUn mRc hDI mSy mMo mAt mLk mDh mRw mRd mRn mWt mWl mLi mLg mSm mLl mLs mWk mPk mCo mRo mNx mAl mCm hW cC nC0 nC1 nC2 nC3 nC4 nC5 nC6 cCW nCW0 nCW1 nCW2 nCW3 nCW4 nCW5 cCP nCP0 nCP1 cCI nCI0 nCI1 nCI2 nCI3 cCD nCD0 z0 z1 z2 z3 z4 z5 z6 z7 z8 z9 z10 z11 z12 z13 base=>(Jpt (Jxm gW) (P,w,K,mg,B3!,C,CW,CP,CI,CD,HE,NH,QS,SF,MI,NW,NL,NR,FA,λi=>[ao,R5,Qz,bF,Wp,V9,Ww,W0,Zj,Y9,Wv,V4,Yz,Zf,Y1,Y7,Zb,Zl,Zg,Zk,Wo,Wq,V3,Y6,Y8,Y0,Zc,Zd,Za,V1,K9,K2,Ld,Lc,K1,K4,Yy,Kz,K3,K8,K7,La,K0,Ze,Y5,Wx,R6,Zi,Zh,Wn,Wm,Wj,Le,Lg,Lf,K5,Lh,K6,V2,Y4,Q1,R4,Wb,Wy,Wf,Wr,V6,Y3,Y2,Vy,Yx,Wh,Wi,V5,We,Wc,Vz,V8,Ws,V7,Wa,Wz,Wu,YT].getD i 0,λi=>[bK,Xl,R7,bJ,Xz,Xk,X9,Yd,Z8,Zy,X8,Xf,Zo,Z4,Zq,Zw,Z0,cU,Z5,Z9,Xy,X0,Xe,Zv,Zx,Zp,Z1,Z2,Zz,Xc,Lw,Ln,Lz,Ly,Lm,Lp,Zn,Lk,Lo,Lv,Lu,Lx,Ll,Z3,Zu,Ya,Xx,Z7,Z6,Xw,Xv,Xu,L8,Ma,L9,Lq,Mb,Lr,Xd,Zt,R9,R8,Xn,Yb,Xq,X5,Xh,Zs,Zr,Xa,Zm,Xr,Xt,Xg,Xp,Xo,Xb,Xj,X6,Xi,Xm,Yc,X7,YU].getD i default):JgG) X G aC aCW aCP aCI aCD aHE aNH aNHd aNNr aMI aNW aNL aNR q3 q4 xNH xNHd xNNr xMI xNW xNL xNR xHE sNHd qaNHd qbNHd qcNHd qdNHd qeNHd tNHdNR sNNr qaNNr qbNNr qcNNr qdNNr qeNNr tNNrNR sMI qaMI qbMI qcMI qdMI qeMI tMINR sNW qaNW qbNW qcNW qdNW qeNW tNWNR aFA hF hI hPI hWI mM mFr mPa mCa mAd mGi mPs mCl mSt mTo mNe mSp mQH mPR mAR mLo mGb mHo mDr mTa mQN mQG mTi mPP mPL mPT mWM mWFr mWSe mWCl mWDe mWSt mWLe mWH mWWe mWPa mWGb mWHo mWDr mWTa mP1 mR1 mC1 hII mIF mIS mIL mIR mLH mWAs mWAc mWAn mWLc mWAa mWLa mUn mRc hDI mSy mMo mAt mLk mDh mRw mRd mRn mWt mWl mLi mLg mSm mLl mLs mWk mPk mCo mRo mNx mAl mCm hW cC nC0 nC1 nC2 nC3 nC4 nC5 nC6 cCW nCW0 nCW1 nCW2 nCW3 nCW4 nCW5 cCP nCP0 nCP1 cCI nCI0 nCI1 nCI2 nCI3 cCD nCD0 z0 z1 z2 z3 z4 z5 z6 z7 z8 z9 z10 z11 z12 z13
def all_mk{P:Program}{w:World}{K:W.Frag}{h:Heap}{mg:AC!}{fa f:Addr}{d:FuncData}(X:Ug!)(G:JCp)(lW:JnI Kf!)(hW:GI K Kf! iD f d)(A:JFG f d) : gH! ((∀(s:Shared)(v:Value),JoH [v] (Eb! D5!))/\JY9 YV 12 jm! (Rc K)):=by have e:=lW.symm.trans (KI X G hW.a);cases e;have z:=hW.fn;have#[#[oc,od,kV,doc,pm,an,FH,ct,gQ,rfl,lk,cd],kp]:=z;show#[W.fnOf Kf! Kf! (Pt iD) (Ha iD) (Ak iD) At kV doc pm an FH ct,λs v=>.of_eq A!,λbase _ _=>A B3!]
def walk{l:W.OpenLaw}{q:Program}{loose:Z!}{XP:qs!}{YP:qr!}{d:DefRec}{K:JNN}(hn:l.most=D! 63)(lX:m6!)(hY:JZ2)(F:JZ3 (gH! ((∀(s:Shared) (u:Value),JoH [u] [(D5!,u)])/\JcC YV 12 jm! (Rc (K W9!))))) : JNB :=L2.eI (n:=63) (k:=12) (x:=D5!) (CX:=λw=>YV) (sp:=λw=>Rc (K W9!)) hn Op lX #[A!,o0,o0] hY F (λ_ H a ns hl hO hS=>#[a,ns,A!,aR.of hO hS,hl,KN!]) λ_ _ _ _ _ z=>z
end
end Lake.K66
open PySem PySem.W PyProof.Rows
set_option maxRecDepth 100000 in
set_option maxHeartbeats 0 in
theorem PySem.Challenge.cw_farhold_k66_whole_desk_holds : PySem.Challenge.rw_farhold_k66_whole_desk.Holds := by
 w_on;o_law;k_head;(case hw=>w_witness2)
 k_fill
 refine K66.walk (l:=PySem.Challenge.rw_farhold_k66_whole_desk) rfl rfl (fun w h Y=>W.kIn_of Y) ?F
 case F =>
  intro w mg fa h KX G hmg
  refine' K66.all_mk KX G hmg ?hW (K66.goal_of KX G ?aC ?aCW ?aCP ?aCI ?aCD ?aHE ?aNH ?aNHd ?aNNr ?aMI ?aNW ?aNL ?aNR ?q3 ?q4 ?xNH ?xNHd ?xNNr ?xMI ?xNW ?xNL ?xNR ?xHE ?sNHd ?qaNHd ?qbNHd ?qcNHd ?qdNHd ?qeNHd ?tNHdNR ?sNNr ?qaNNr ?qbNNr ?qcNNr ?qdNNr ?qeNNr ?tNNrNR ?sMI ?qaMI ?qbMI ?qcMI ?qdMI ?qeMI ?tMINR ?sNW ?qaNW ?qbNW ?qcNW ?qdNW ?qeNW ?tNWNR ?aFA ?hF ?hI ?hPI ?hWI ?mM ?mFr ?mPa ?mCa ?mAd ?mGi ?mPs ?mCl ?mSt ?mTo ?mNe ?mSp ?mQH ?mPR ?mAR ?mLo ?mGb ?mHo ?mDr ?mTa ?mQN ?mQG ?mTi ?mPP ?mPL ?mPT ?mWM ?mWFr ?mWSe ?mWCl ?mWDe ?mWSt ?mWLe ?mWH ?mWWe ?mWPa ?mWGb ?mWHo ?mWDr ?mWTa ?mP1 ?mR1 ?mC1 ?hII ?mIF ?mIS ?mIL ?mIR ?mLH ?mWAs ?mWAc ?mWAn ?mWLc ?mWAa ?mWLa ?mUn ?mRc ?hDI ?mSy ?mMo ?mAt ?mLk ?mDh ?mRw ?mRd ?mRn ?mWt ?mWl ?mLi ?mLg ?mSm ?mLl ?mLs ?mWk ?mPk ?mCo ?mRo ?mNx ?mAl ?mCm ?hW ?cC ?nC0 ?nC1 ?nC2 ?nC3 ?nC4 ?nC5 ?nC6 ?cCW ?nCW0 ?nCW1 ?nCW2 ?nCW3 ?nCW4 ?nCW5 ?cCP ?nCP0 ?nCP1 ?cCI ?nCI0 ?nCI1 ?nCI2 ?nCI3 ?cCD ?nCD0 ?z0 ?z1 ?z2 ?z3 ?z4 ?z5 ?z6 ?z7 ?z8 ?z9 ?z10 ?z11 ?z12 ?z13)
  case aC|aCW|aCP|aCI|aCD|aHE|aNH|aNHd|aNNr|aMI|aNW|aNL|aNR|aFA=>k_is
  case hF=>exact FX.forms_mk (by k_is) (by repeat (first|exact FX.FmL.nil|refine FX.FmL.cons (by k_is) (FX.fm_vals (by decide +kernel)) ?_)) rfl
  case q3|q4|sNHd|qaNHd|qbNHd|qcNHd|qdNHd|qeNHd|sNNr|qaNNr|qbNNr|qcNNr|qdNNr|qeNNr|sMI|qaMI|qbMI|qcMI|qdMI|qeMI|sNW|qaNW|qbNW|qcNW|qdNW|qeNW|nC0|nC1|nC2|nC3|nC4|nC5|nC6|nCW0|nCW1|nCW2|nCW3|nCW4|nCW5|nCP0|nCP1|nCI0|nCI1|nCI2|nCI3|nCD0|z0|z1|z2|z3|z4|z5|z6|z7|z8|z9|z10|z11|z12|z13=>k_is
  case xNH|xNHd|xNNr|xMI|xNW|xNL|xNR|xHE=>k_exc
  case tNHdNR|tNNrNR|tMINR|tNWNR=>kit_is
  case hI|hPI|hWI|hII|hDI=>exact⟨by k_is,by k_is,⟨⟨_,_,_,_,_,_,_,_,_,rfl,by k_is,by k_is⟩,by k_is⟩⟩
  case mM|mFr|mPa|mCa|mAd|mGi|mPs|mCl|mSt|mTo|mNe|mSp|mQH|mPR|mAR|mLo|mGb|mHo|mDr|mTa|mQN|mQG|mTi|mPP|mPL|mPT|mWM|mWFr|mWSe|mWCl|mWDe|mWSt|mWLe|mWH|mWWe|mWPa|mWGb|mWHo|mWDr|mWTa|mIF|mIS|mIL|mIR|mLH|mWAs|mWAc|mWAn|mWLc|mWAa|mWLa|mSy|mMo|mAt|mLk|mDh=>exact K66.MeI.mth ⟨by k_is,by k_is,⟨⟨_,_,_,_,_,_,_,_,_,rfl,by k_is,by k_is⟩,by k_is⟩⟩
  case mP1|mR1|mC1|mUn|mRc|mRw|mRd|mRn|mWt|mWl|mLi|mLg|mSm|mLl|mLs|mWk|mPk|mCo|mRo|mNx|mAl|mCm=>exact K66.GI.gdi ⟨by k_is,⟨⟨_,_,_,_,_,_,_,_,_,rfl,by k_is,by k_is⟩,by k_is⟩⟩
  case hW=>exact⟨by k_is,⟨⟨_,_,_,_,_,_,_,_,_,rfl,by k_is,by k_is⟩,by k_is⟩⟩
  case cC|cCW|cCP|cCI|cCD=>constructor<;>k_is
