import PyProof.Rows.All
import Wide.All
import OpenK.AllK
import Wide.FinOn
import Lean
import PyProof.EqAt
import PyProof.EqKinds
import PyProof.TupleCall
import PySem.Challenge.RW_farhold_k51_desk_deeds
set_option linter.all false
def AA:=@Nat.le_trans
def AD:=@if_neg
def AE:=@if_pos
def AF:=@Nat.lt_of_le_of_lt
def AG:=@List.mem_filter
def AH:=@Int.le_refl
def AI:=@List.map_cons
def AL:=@decide_eq_false
def AM:=@List.append_nil
def AN:=@Int.natCast_nonneg
def AO:=@Bool.false_ne_true
def AQ:=@List.mem_map
def AR:=@decide_eq_true
def AS:=@List.nodup_append
def AU:=@PySem.Heap.lt_size
def AV:=@Nat.le_add_right
def AX:=@List.map_map
def AZ:=@Nat.zero_le
def A_:=@Nat.le_of_lt
def BB:=@List.nodup_cons
def BC:=@List.length_filter_le
def BG:=@List.size_toArray
def BH:=@List.append_assoc
def BI:=@List.mem_of_find?_eq_some
def BJ:=@List.length_cons
def BL:=@List.mem_map_of_mem
def BM:=@Nat.le_of_eq
def BN:=@Nat.ne_of_lt
def BO:=@Int.toNat_of_nonneg
def BP:=@List.find?_eq_none
def BR:=@List.length_nil
def BU:=@List.mem_cons
def BV:=@of_decide_eq_true
def BW:=@Int.le_add_one
def BY:=@List.take_length
def B_:=@Nat.lt_of_lt_of_le
def CA:=@PyProof.Rows.boot_str
def CB:=@List.mem_range
def CC:=@Nat.le_succ_of_le
def CF:=@Nat.le_of_succ_le
def CG:=@PySem.Heap.get?_update_other
def CJ:=@Int.le_trans
def CK:=@PyProof.Rows.boot_isinstance
def CL:=@List.not_mem_nil
def CM:=@List.length_take
def CO:=@PySem.boot_len
def CQ:=@Nat.not_lt
def CS:=@PySem.wpAny_newObj_type
def CT:=@Nat.le_add_left
def CU:=@List.find?_cons
def CV:=@PySem.sizeLine_eq
def CY:=@List.take_add_one
def CZ:=@Int.toNat_natCast
def C_:=@PySem.wpAny_field
def DA:=@PySem.wpAny_call_entry
def DB:=@List.length_eq_zero_iff
def DE:=@Int.emod_nonneg
def DF:=@List.map_congr_left
def DG:=@List.flatMap_append
def DI:=@List.flatMap_cons
def DJ:=@PySem.F.plainAttrs_list
def DL:=@List.sum_cons
def DM:=@Int.emod_lt_of_pos
def DN:=@Bool.false_eq_true
def DO:=@PySem.wpAny_dictEntries
def DQ:=@Option.map_eq_some_iff
def DR:=@Nat.lt_irrefl
def DS:=@Nat.le_antisymm
def DT:=@List.length_range
def DU:=@Nat.le_succ
def DV:=@PySem.F.plainAttrs_dict
def DX:=@beq_eq_false_iff_ne
def DY:=@Array.length_toList
def EA:=@PySem.wpAny_callSpecial?_slot
def ED:=@Int.ofNat_lt
def EE:=@PySem.wpAny_setField_rec
def EG:=@List.nodup_nil
def EH:=@PySem.Heap.get?_update_self
def EJ:=@Nat.mul_le_mul_right
def EK:=@PySem.wpAny_holding
def EN:=@List.mem_flatMap
def ER:=@List.getElem?_eq_none
def EU:=@Nat.ne_of_gt
def EV:=@Nat.lt_succ_of_le
def EW:=@List.pairwise_map
def EY:=@PyProof.Rows.boot_tuple
def E_:=@List.pairwise_cons
def FC:=@List.mem_singleton
def FD:=@Int.lt_of_le_of_lt
def FE:=@Array.getElem?_eq_some_iff
def FF:=@List.filter_cons
def FH:=@PySem.wpAny_mono
def FJ:=@PySem.Obj.data_mapFields
def FL:=@PySem.lookup_relabel_local
def FN:=@Int.le_add_of_nonneg_left
def FU:=@List.filter_congr
def FV:=@PySem.F.slot_dict_get
def FY:=@List.length_singleton
def FZ:=@if_false
def F_:=@PyProof.Rows.boot_sorted
def F':=@List.find?_some
def GK:=@PySem.W.mg_none_of
def GN:=@List.map_nil
def GO:=@Int.ofNat_le
def GW:=@List.range_succ
def GY:=@or_false
def GZ:=@List.take_append_drop
def G_:=@List.mem_iff_getElem?
def HC:=@PySem.Calls.callWith_builtin
def HD:=@Bool.and_eq_true
def HF:=@PySem.wpAny_dictEpoch
def HI:=@PySem.tupleKind_room_in1
def HN:=@Nat.le_of_lt_succ
def HR:=@PySem.wpAny_setField
def HU:=@PySem.Calls.evalArgs_plain
def HW:=@if_true
def HX:=@PySem.F.plainAttrs_str
def IA:=@List.lookup_cons
def IB:=@List.append_of_mem
def IC:=@Int.le_add_of_nonneg_right
def IG:=@PySem.F.plain_extend_loop
def IH:=@List.filterMap_eq_nil_iff
def II:=@PySem.Calls.spliced_cons
def IJ:=@Int.not_lt
def IK:=@PySem.F.type_list_append
def IL:=@PySem.F.slot_list_append
def IT:=@Nat.add_le_add_left
def IU:=@List.filter_sublist
def IV:=@List.filterMap_cons
def I_:=@PySem.codeAny_mono
def JA:=@Nat.not_lt_of_le
def JB:=@PySem.Obj.data_mapDictKeys
def JJ:=@PySem.wpAny_attempt
def JL:=@Int.ne_of_gt
def JM:=@PySem.F.entry_dict_get
def JN:=@List.take_of_length_le
def JO:=@List.getElem?_set_self
def JR:=@PySem.wpAny_seqItems
def JS:=@PySem.wpAny_typeNameOfWhole_itemiter
def JT:=@PySem.StrLaws.join_length_le
def JV:=@List.perm_append_comm
def JW:=@List.length_replicate
def JY:=@PySem.wpAny_typeNameOfWhole_keyiter
def JZ:=@PyProof.Rows.callWith_type1
def J_:=@PySem.F.slot_dict_itemiterator_next
def KA:=@PySem.W.mg_of
def KC:=@PySem.wpAny_Call_Name_kw
def KH:=@PySem.wpAny_passesOwn
def KI:=@List.getElem?_append_right
def KJ:=@List.getD_eq_getElem?_getD
def KL:=@List.exists_cons_of_ne_nil
def KN:=@PySem.F.slot_dict_keyiterator_next
def KR:=@PySem.W.kia_one
def KW:=@Int.le_of_eq
def KY:=@List.flatMap_nil
def KZ:=@PySem.wpAny_notOrdered_dict
def K_:=@PySem.Obj.isFreed_of_fields
def K':=@PySem.Calls.spliced_nil
def LA:=@List.getElem?_append_left
def LD:=@PySem.mem_of_lookup
def LF:=@List.length_pos_iff
def LG:=@List.filter_eq_self
def LH:=@Array.toList_append
def LK:=@PySem.Heap.size_push
def LM:=@PySem.F.slot_dict_values
def LN:=@Option.isSome_iff_exists
def LO:=@PySem.F.slot_tuple_iterator_next
def LQ:=@List.of_mem_zip
def LR:=@List.filter_map
def LU:=@Nat.lt_of_le_of_ne
def LV:=@List.filter_append
def LX:=@PySem.StrLaws.sumLen_le
def MK:=@List.map_id'
def MM:=@Nat.add_le_add
def MN:=@PySem.wpAny_typeNameOf_keyiter
def MO:=@List.pairwise_lt_range
def MQ:=@List.Perm.append_right
def MW:=@PySem.size_of_entries
def NB:=@PySem.F.type_str_join
def NC:=@PySem.F.slot_str_join
def ND:=@PySem.F.slot_dict_pop
def NS:=@beq_iff_eq
def NV:=@beq_self_eq_true
def NX:=@Nat.min_le_right
def NY:=@Nat.lt_succ_self
def NZ:=@List.getElem_inj
def N_:=@List.any_eq_true
def N':=@List.all_eq_true
def OA:=@Array.isEmpty_iff_size_eq_zero
def OG:=@PySem.wpAny_Call_method
def OH:=@List.getElem?_set_ne
def OI:=@Bool.and_eq_true_iff
def OP:=@PyProof.Rows.get?_update_seq
def OQ:=@List.sum_append
def OR:=@Bool.eq_iff_iff
def PH:=@List.sum_nil
def PJ:=@PySem.wpAny_isInstance
def PZ:=@PySem.wpAny_of_eq
def P_:=@List.take_zero
def P':=@List.find?_map
def QA:=@List.contains_cons
def QB:=@PySem.Around.under_plainId
def QK:=@PySem.wpAny_execs_nil
def QL:=@PySem.codeAny_builtin
def QM:=@PySem.W.methodCall_KW
def QO:=@List.mem_or_eq_of_mem_set
def QP:=@Array.getElem?_eq_getElem
def QV:=@PySem.Obj.isFreed_of_dict
def QW:=@List.foldl_append
def QX:=@List.ext_getElem?
def QY:=@Bool.eq_false_iff
def RG:=@PySem.call_meetsIn
def RH:=@PySem.W.callWith_K
def RI:=@List.any_cons
def RJ:=@PySem.W.KasT.kasWp_bind
def RK:=@Bool.true_and
def RL:=@Bool.and_true
def RM:=@PySem.F.type_list_extend
def RN:=@PySem.F.type_dict_values
def RO:=@PySem.F.slot_list_extend
def SJ:=@PySem.wpAny_rule
def SK:=@PySem.call_meets
def SM:=@List.range'_succ
def SN:=@PySem.F.args_dict_get_2
def TQ:=@Nat.lt_trans
def TU:=@PySem.Calls.call_function_entry
def TV:=@Array.getElem?_eq_none
def UD:=@PySem.wpAny_truthy_bool
def UE:=@PySem.wpAny_pyIter_list
def VA:=@PySem.F.type_dict_get
def VB:=@Nat.sub_eq_zero_of_le
def VC:=@List.filterMap_append
def VS:=@PySem.wpAny_forIn_list
def VT:=@Std.Legacy.Range.forIn_eq_forIn_range'
def WQ:=@PySem.wpAny_call
def XA:=@PySem.wpAny_isOneOf_itemiter
def XN:=@PySem.F.slot_zip_next
def YE:=@PySem.builtinLookup_eq_fast
local macro_rules(kind:=Lean.Parser.Command.mutual)|s=>do
 let c:=s[1].getArgs
 if c[0]![1][1][0].getId != `Z then Lean.Macro.throwUnsupported
 let nd:=fun(k:Lean.Name)(a:Array Lean.Syntax)=>Lean.Syntax.node .none k a
 let at_:=fun(x:String)=>Lean.Syntax.atom .none x
 let nl:=nd `null
 let q:=fun(m:Lean.NameMap (Bool×Lean.Syntax))(x:Lean.Syntax)=>x.rewriteBottomUp fun y=>
  if y.isIdent then match m.find? y.getId with|some (false,b)=>b|_=>y else
  let k:=y.getKind
  let y:=if y.getArgs.any (·.isOfKind `Z)&&k != `Lean.Parser.Tactic.show then y.setArgs (y.getArgs.flatMap fun z=>if z.isOfKind `Z then z.getArgs else #[z]) else y
  if k== `Lean.Parser.Term.app then match m.find? y[0].getId with|some (true,b)=>((b.rewriteBottomUpM (m:=StateM Nat) fun z=>if z.isIdent&&z.getId== `Z then modifyGet fun i=>(y[1][i],i+1) else pure z).run 0).1|_=>y else
  if k== `Lean.Parser.Tactic.show then if y[1].isOfKind `Z then y[1] else nd `Lean.Parser.Tactic.refine #[at_ "refine",y[1]] else
  if k== `Lean.Parser.Tactic.tacticHave__&&y[2][0].isOfKind `Lean.Parser.Term.letPatDecl then nd `Lean.Parser.Tactic.obtain #[at_ "obtain",nl #[nd `Lean.Parser.Tactic.rcasesPatMed #[nl #[y[2][0][0].rewriteBottomUp fun z=>if z.isIdent then nd `Lean.Parser.Tactic.rcasesPat.one #[z] else if z.isOfKind `Lean.Parser.Term.hole then nd `Lean.Parser.Tactic.rcasesPat.ignore #[z[0]] else if z.isOfKind `Lean.Parser.Term.anonymousCtor then nd `Lean.Parser.Tactic.rcasesPat.tuple #[z[0],nl (z[1].getArgs.map fun a=>if a.isAtom then a else nd `Lean.Parser.Tactic.rcasesPatLo #[nd `Lean.Parser.Tactic.rcasesPatMed #[nl #[a]],nl #[]]),z[2]] else z]]],nl #[],nl #[y[2][0][3],nl #[y[2][0][4]]]] else
  if k== `Lean.Parser.Command.definition then nd `Lean.Parser.Command.theorem #[at_ "theorem",y[1],nd `Lean.Parser.Command.declSig #[y[2][0],y[2][1][0]],y[3]] else
  if k== `Lean.Parser.Command.abbrev then nd `Lean.Parser.Command.definition #[at_ "def",y[1],y[2],y[3],nl #[]] else y
 let e:=c[0]![1][3][1][1].getSepArgs
 let n<-`(noncomputable def a:=1)
 let mut m:={}
 for i in [0:e.size/2] do
  let b:=q m e[2*i+1]!
  let h:=e[2*i]!.getId
  let b:=if h.toString.back=='?'&&b.isOfKind `Lean.Parser.Term.paren then b[1] else b
  let b:=if h.toString.back=='?' then nd `Z (if b.isOfKind `Lean.Parser.Term.byTactic then b[1][0][0].getArgs else b[1].getArgs) else b
  m:=m.insert h ((b.find? fun z=>z.isIdent&&z.getId== `Z).isSome,b)
 let o<-(c.extract 1 c.size).mapM fun c=>do
  let a:=if c.isOfKind `Lean.Parser.Command.open then c[1][0].getArgs else #[]
  let f:=if a.isEmpty then `x else a[0]!.getId
  if f== `T then
   return Lean.mkNullNode ((a.extract 1 a.size).map fun i=>n.raw.rewriteBottomUp fun z=>if z.isIdent then Lean.mkIdent (.str `PySem.W.Fast s!"tw{i.getId.toString.foldl (fun n c=>n*52+if c.toNat<91 then c.toNat-65 else c.toNat-71) 0}") else z)
  else if f== `S then `(section)
  else if f== `N then `(namespace $(⟨a[1]!⟩))
  else if f== `E then if a.size==1 then `(end) else `(end $(⟨a[1]!⟩))
  else
   let c:=(q m c).rewriteBottomUp (·.setInfo .none)
   if [`Lean.Parser.Command.definition,`Lean.Parser.Command.instance].contains c[1].getKind&&c[0].getArgs.all (·.isNone) then return c.setArg 0 n.raw[0] else return c
 return Lean.mkNullNode o
noncomputable section
mutual
def Z:=#[B!,Prop,AI?,by decide +kernel,DX!,Type _,Gv!,List,Ar!,as.map,fk!,as ++ bs,En!,bs.map,XJ!,as[i]?,D!,some,
db,l.map,UF,Type,Ch,Int,DY!,Value,A3!,Bool,y!,Z=true,AV!,Sum.inl,XK!,Value.int,L3!,Sum.inr,fl!,Value.str,
Cd!,Z (Z:=Z) (Z:=Z) Z,S!,.inl,A!,rfl,d!,.inr,V!,.int,bn,.str,XL!,decide,wT,Z=false,B2!,prog,
Fq?,(by rcases Z with⟨i,t,rfl,rfl⟩|⟨x,t,rfl,rfl⟩),XM!,(nomatch e),tO!,wpAny_eqBool_int,tP!,u=Value.none,
KD!,Value.bool,tQ!,Value.float,D4!,Value.ref,XN!,Value.type,XO!,Paired,Gw!,Vals,L4!,Paired.length,SC,.cons,
R!,.nil,ON!,Option,g!,p.1,H!,q.1,pi,p.2,PP,q.2,Eo!,Heap,F!,Addr,B3!,if Z then Z else Z,z!,upd,
Fj!,xs.length<=sizeLine,As!,its,OO!,h.get?,BR!,.type,B4!,"list",CH!,its.toArray,OP!,IsTup,
tR!,kvs.length<=sizeLine,Db,kvs,tS!,Addr×Value,FB,.BE,D5!,xs.map,fm!,entryOfKey,fn!,tupleKind,Bl!,(·.1),
Gx!,.own,XP!,fs.length<=Z,XQ!,W.instObj,tT!,PySem.Within,OQ!,fs.map,Fk!,"range",IR,.none,Ep!,.ref,SG!,h1.get?,
Ct?,by have⟨_,_,_,_,o,_,_,e,_⟩:=x,BS!,ys.map,tU!,xs.eraseIdx,XR!,h'.get?,tV!,h.objs.size<=a,AJ!,absurd,
SH!,λ_ q=>q,L5!,λ_ _ q=>q,OR!,λb u e=>Z,d?,(by rcases Z with z|z),Ce!,∀b o,Z,XS!,b∉ex,At!,List.range,
SI!,h.objs.size,L6!,AG.mp,XT!,CB.mpr,AW!,base,fo!,bootBuiltins,OS!,Shared,OT!,.cell,Eq!,.free,tW!,env.kindOf,
Fl!,X.base,tX!,X.env.cells.lookup,tY!,X.env.kindOf,BK!,X.calm=true,D6!,X.stack,OU!,X.env::X.outer,
OV!,X.env.locals,SJ!,b≠X.env.locals,OW!,X.JK.heap.get?,fp!,b∉X.fs,Go,s.heap,SL,X.env,Fm!,s.heap.get?,
Bm!,X.prog,N?,by rw[Z] at this,fq!,I.base.keep,OX!,I.base.free,Cf!,λb o e=>Z,XU!,s.heap.objs.size<=a,
OY!,I.cell,tZ!,I.base.slot,ut,λb hb=>Z,KE!,I.ok.kind,KF!,I.free,XV!,b∉ch,SK!,I.base.RX,L7!,I.base.PV,
fr!,I.base.there,fs!,{ s with heap:=h',toks:=t' },XW!,λb o _ e=>Z,SL!,I.bare,ta!,λ_ _ e=>e,tb!,λ_ _ _ e=>e,
OZ!,Ne.symm,Au!,I.EI,XX!,I.EI.fresh,Gy!,s'.heap,SM!,X.env.scope.names.lookup,ft!,X.env.scope.kind == Z,
IR!,hs.2,BT!,{ s with heap:=h' },tc!,s'.os=s.os,KG!,λ_ _=>False,Oa!,λGA H'=>Z,SN!,isTrue,L8!,backTo,AS!,pos,
Fn!,starEach,J!,Stmt,fu!,λ_ _ x=>x,Ao?,by rintro v s1 ⟨x,H1,I1,r1,q1⟩,Fo!,.Name,M?,by intro AB s σ H Q I h,
td!,wpAny_Name,wn,fin,Cg!,.bool,bv,.bl,Av!,.GB,te!,I.mod.glob.keeps,SO!,compareOp,T?,by have⟨t,rfl⟩:=rx,
AQ?,by have⟨t',rfl⟩:=ry,Fr?,by intro AB s σ H Q I hw,am,false,q!,true,Cu?,by intro wh AB s σ H Q I h,
Ob!,K.lookup,tf!,o.dict=none,Oc!,its.toList,Er!,"tuple",Cv?,by have⟨t,rfl⟩:=r,Es!,I.PN,Fp!,I.list,Gz!,congrArg,
Et!,I.tuple,Od!,λ_ _ z=>Z,XY!,False.elim,L9!,λD σ H=>Z,i?,by intro AB s σ H D I h,KM,none,BU!,pure,XZ!,b=true,
SP!,λ_ _ _=>False,SQ!,assign,Xa!,target,Xb!,assignEach,CI!,(·.2),tg!,wpAny_assign_Name,SR!,.Tuple,SS!,I.ok.hd,
C7!,s.toks,No,Nat,G0!,turn,D7!,∀b∈fp,Z,Xc!,pyNext,Xd!,s2.heap,Oe!,pyIter,Fq!,"zip",ST!,"dict_itemiterator",
th!,wpAny_load,Xe!,rawInt,ti!,h.IsListIter,MA!,λi h st b hb=>Z,Cw?,by have⟨o,e,c,d⟩:=st,
v?,by intro X hP hw hc i AB s σ H E I hf st hg,e?,by subst hP hw,Fs?,by have⟨xs,x,hq,hx⟩:=hg,Of!,p.isList,
CJ!,λb o hb e=>Z,Cx?,by have hl:=rv.length,SU!,s.heap.IsTuple,AJ?,by intro AB s σ H R I h,
Ft?,by have⟨a,e,⟨xs,hq⟩,q⟩:=q1,KH!,s1.heap.objs.size,tj!,I1.EI.fresh,fv!,I1.tuple,tk!,wpAny_pyIter_tuple,
tl!,s1.heap.IsTuple,Uf,s.heap.objs.size,IS!,s.heap.push,IT!,[a,b],fw!,i<=xs.length,Eu!,xs.length,
Xf!,xs.length-i,Fu?,by rintro i m σ H ⟨rfl,hi,p⟩,Cy?,by have⟨e,y⟩:=y,G1!,CQ.mp,
p?,by intro AB s σ H x y v u Q I rx ry h,Fv?,by have⟨i,j,rfl,rfl,q⟩:=h,wp,V.int,D8!,V.bl,AE!,V.str,
fx!,false=true,Af!,.dK,tm!,!kvs.isEmpty,tn!,!its.toArray.isEmpty,A9?,by have⟨its,r,pl,hz⟩:=Z,
Fw?,by have hlen:=r.length,KI!,pl.isList,Xg!,kvs.length=vs.length,B5!,Z<=sizeLine,G2!,.builtin,
X?,by intro AB s σ H xs us Q I r h,G3!,"int",fy!,toString,IU!,"str",A4!,name,Fx?,by have⟨od,J,hl⟩:=I.look,
to!,W.plainGet_of,tp!,{ s with heap:=h',toks:=Z },fz!,"__init__",Og!,codeAny,KJ!,{ s with heap:=Z },
SV!,W.emptyDict,SW!,if Z then Z else Z,f0!,List.lookup,IV!,DX.mpr,Xh!,BU.mpr,Fr!,show Z from Z,SX!,W.keepIn,
Xi!,True.intro,BA?,by rwa [Z] at this,Oh!,λ_=>none,G4!,λ_=>rfl,Fs!,λy hy=>Z,SY!,.Attribute,Ft!,value,
f1!,show Z from rx,DZ!,"dict",wv,.dT,SZ!,"__class__",Xj!,"object.__class__",tq!,"getset_descriptor.__get__",
Oi!,W.kitOne,Sa!,"isinstance",KK!,A.handled=none,Xk!,A.units+Z,Xl!,r.length,BV!,outer,f2!,vs.length=ps.length,
D9!,args,Xm!,ps.zip,Oj!,us++ds,Cz?,by rintro u s1 ⟨x,H1,I1,rx,a,dx,fs,ex,ea,l,q⟩,CK!,V.ref,Bn!,e.symm,
Bl?,by simp at h1 h2,IW!,BB.mp,Sb!,vs.map,f3!,List.replicate,f4!,cellsFrom,tr!,W.cellsFrom_some,
ts!,scope.names,Ok!,scope.names.lookup,tt!,i<vs.length,Xn!,hl▸hi,AK!,y.1,BB?,(by rcases Z with q|q),
KL!,Value.none,Fu!,kvs.map,EA!,putK,Xo!,o.getD,Sc!,valueAt,C0?,by have⟨h1,h2⟩:=h,v6,h.1,KM!,ks.map,IX!,atKey,
tu!,Option.isSome_map,Ag!,x.1,f5!,kvs.length<sizeLine,Xp!,dd.mapOf,G5!,DQ.mp,Xq!,rel.length,tv!,"dict.pop",
Fv!,dd.typeIs,Bo!,more,MB!,kvs.length,MC!,GO.mpr,f6!,subscripted,tw!,typeLookup,tx!,"__getitem__",MD!,slice,
f7!,.Subscript,ty!,Subscript_,tz!,wpAny_specialOf,f8!,s.TypeIs,C1?,by rintro u s1 ⟨x,H1,I1,rx,a,ex,d,q1⟩,
Xr!,m.trees,KN!,lexLt,t0!,SeqAt.EqAt,t1!,items.toList,Ol!,items,Fy?,by have⟨hp,g,d,tk,os⟩:=s,
t2!,List.zip_cons_cons,f9!,A.units<cLine,Om!,show Z from Z,KO!,vs.toArray,t3!,ws.toArray,IY!,IJ.mpr,
On!,Prod.ext,t4!,Builtin.Slice.slicePlaces,t5!,items.size,t6!,items.toList.drop,t7!,List.length_drop,
gA!,ht.typeIs,t8!,Str.ofString,gB!,wpAny_typeOf,Sd!,eq_of_beq,CL!,ns.map,Oo!,s3.heap.objs.size,ME!,HT.JP,
C8!,hlen,Xs!,if Z then Z else none,MF!,xs[j]?,t9!,Int.not_le.mp,Se!,j<xs.length,G6!,ED.mpr,KP!,z.cps.toList,
C2?,by intro value slice AB s σ H x y v u Q I rx ry h hs,uA!,z.cps.toList.length=z.length,uB!,sliceBounds,
gC!,its.length,G7!,λu hu=>Z,Xt!,ys.length,C3?,by have hlen:=r'.length,MG!,z.length,gD!,h'.objs.size,
U?,by have⟨h1,h2⟩:=Z,Op!,s.heap.update,Xu!,Obj.mapSeq,CM!,trivial,uC!,Builtin.List.listTooLong,
Ab?,by intro AB s σ H x vs v us Q I rx rv h,Bm?,by have⟨u,rfl,ru⟩:=rv.one,
Fz?,by have⟨l,b,xs,zs,rfl,rfl,hH,hB,hz,q⟩:=h,gE!,its.toArray.size+R_.toArray.size,uD!,Bool.and_false,
gF!,ns.length<=n,IZ!,.list,KQ!,EZ.heap,Xv!,EZ.heap.get?,Oq!,callerA,uE!,EZ.heap.Ns,Or!,False,
uF!,∃fd:FuncData,Z,C4?,by have⟨oc,od,kV,doc,pm,an,EO,ct,eC,rfl,lk,TH⟩:=F.ex,gG!,n<sizeLine,Sf!,Or.inl,
Os!,Or.inr,MH!,BB.mpr,C5?,by have⟨q,hq,e⟩:=Z,A5!,AQ.mpr,Ev!,PyData,MI!,.tuple,uG!,Nat.succ.inj,
gH!,λj x d e1 e2=>Z,Xw!,λa xs e=>Z,KR!,PyData.eqv,uH!,Nat.max_le.mpr,Ot!,h.elim,KS!,Txt.split,
uI!,F.slot_str_split,Da!,Str.join,gI!,z.cps[i]?,C6?,(by rcases Z with rfl|rfl),Ia!,λc hc=>Z,G8!,numOf,FM,key,
gJ!,Str.cps_append,Xx!,∀p∈ps,Z,uJ!,c∉p.cps.toList,BC?,by simp at this,C9!,"make",AL!,"hold",Db!,"drop",
Dc!,"take",Dd!,"free",Ch!,"send",Ci!,"clean",AM!,"ask",Ew!,"come",A6!,"hand",EB!,"things",Aw!,"holds",
BW!,"post",uK!,ws.length=fs.length,Ah!,a++b,uL!,Nat.toDigits,Xy!,Char.toNat,uM!,List.map_eq_nil_iff.mp,
Sg!,len_list,gK!,ForInStep.yield,be,caps,uN!,s1.heap.get?,Ap?,by have⟨o,e⟩:=Z,Ib!,λb o e hb=>Z,Sh!,λb hb z=>Z,
Si!,s2.heap.objs.size,F0?,by intro C s1 H1 fp iT OZ s7 ws H7 y u R wl I7 r7 b7,Xz!,"dict_keyiterator",
EC!,es.size,gL!,wpAny_fieldsOf,X0!,setField,X1!,Obj.mapFields,uO!,Obj.cls_mapFields,G9!,"StopIteration",
F1?,by simp only[newExc,newTuple],F2?,by simp only[raiseNew],uP!,wpAny_throw,gM!,isSubtype_stop,Ic!,(·.2.1),
gN!,j<es.size,Y?,by simpa using this,C7?,by have⟨a1,a2,a3⟩:=Z,X2!,λc w' _ q=>q,gO!,λob v z=>Z,gP!,i<kvs.length,
C8?,by intro X hP hw hc i AB s σ H E I hf st ⟨hg,hi⟩,Sj!,λb ob e=>Z,Cj!,p.getD,Ck!,CB.mp,MJ!,other,
uQ!,Nat.le_sub_one_of_lt,D?,(by by_cases c:Z),X3!,HT.lexLt,Ou!,HT.IS,uR!,Int.le_of_lt,X4!,p.mem_iff.mp,
uS!,p.mem_iff.mpr,MK!,seqObj,HA!,vs.length,uT!,listItems_at,uU!,listUpdate_at,uV!,wpAny_newTuple,
Ov!,"ValueError",gQ!,{ s with heap:=hh },w?,by rw[Z,Z] at this,uW!,W.kat_cons,Ow!,VE.getD,Sk!,as.length,
BX!,L.map,gR!,j<L.length,ED!,DC.of,F3?,by unfold Builtin.«sorted»,HB!,h1.objs.size,X5!,i<as.length,Id!,p.map,
lc,t.1,AX!,t.2,EE!,T2×Int,DA!,"number",EF!,"made",EG!,"ticks",Cl!,"outs",DB!,"records",Ie!,G.BF,WF,G.o,na,G.l,
If!,l.find?,gS!,Option.map_map,X6!,∀q∈l,Z,Sl!,BP.mpr,AN!,λq hq=>Z,Fw!,G.holds.map,Ax!,G.hand,BL!,G.AJ,
re,G.holds,AO!,G.AK,Ox!,∀q∈G.holds,Z,Ig!,b≠p,BY!,x.nd,C9?,by have⟨dx,e'⟩:=x.ob,
Bn?,by have⟨⟨a1,a2,a3⟩,⟨b1,b2⟩,c1,d1⟩:=x.bJ,AR?,by have⟨dx,e⟩:=x.ob,uX!,{ G with hand:=l },X7!,hs.map,
De!,os.map,KT!,rs.map,q?,by constructor,F4?,by simp[PyData.depth,PyData.depthAll],KU!,.tupP,KV!,ts.map,
F5?,by intro AB s σ H xs us Q I rv h,Bo?,by rintro i m ys H2 ⟨rfl,hi,pv⟩,Sm!,"dict_items",ww,cls,
uY!,λc o e n1 n2=>Z,X8!,a.keep,gT!,env::outer,gU!,λb o q m=>Z,gV!,∀b∈fr,Z,gW!,setFlight,
KW!,{ s with heap:=h1 },Ih!,show Z from rfl,X9!,"BaseException",uZ!,"ValueError.__new__",
gX!,s.heap.IsTupleIter,ua!,h'.IsTupleIter,Sn!,hit.typeIs,YA!,IsPair,YB!,EZ.extBut,YC!,NN.extBut,
gY!,wpAny_letGo,Oy!,TL.extBut,gZ!,cz.extBut,ga!,cy.extBut,gb!,SA.objs.size,ub!,[z,TI,TO,i1,i2],
F6?,by simp only[BU,CL,GY] at hb,uc!,W.looks_mroIn,gc!,s0.heap.get?,F7?,by have⟨YM,H1,I1,q1⟩:=q,
ud!,"__getattribute__",So!,"BaseException.__getattribute__",gd!,W.Looks.ld,Sp!,z.elim,
F8?,by have⟨own,ok,ov,f,ho,e0⟩:=hw,ge!,{ s with heap:=h2 },gf!,Heap.SameBut.refl,F9?,by have⟨o2,e2,c2,f2⟩:=hm,
ue!,OL.length=es.size,uf!,(·.push (Value.ref s.heap.objs.size)),YD!,AS.mpr,ug!,{ s with heap:=h0 },
YE!,h0.objs.size,uh!,i<L.length,gg!,entry_at,gh!,λj a q e1 e2=>Z,Oz!,λa ha=>Z,Fx!,z.symm,W!,r.1,ui!,q∈G.holds,
Ex!,λr hr=>Z,HC!,t∈l,DC!,l.filter,YF!,λq:T2=>q,ML!,"latest",O0!,"waiting",Sq!,Int×Addr,MM!,ls.map,AY!,l.1,
HD!,kvsOf,Ii!,∀l∈ls,Z,Sr!,Sum.inl.inj,Fy!,λl hl=>Z,YG!,λl hl e=>Z,Cm!,AS.mp,KX!,l1++l2,gi!,Addr×CN,
Ey!,"houses",Ez!,"share",Ij!,"inquiries",MN!,"finds",O1!,"enclosed",B6!,W.share,CN!,W.hs,Bp!,W.po,CO!,W.iq,
HE!,W.fi,Fz!,W.en,BC!,W.qs,HF!,W.ls,O2!,EB.mpr,EH!,x.iq,Ik!,x.en,DA?,by simp only[Cd,BU,CL,GY] at hb,
C?,(by rcases Z with h|h),Ss!,W.qs.set,gj!,W.qs.length,SZ,i.2,DB?,by simp only[BU,CL,GY] at hp,YH!,V.str.inj,
YI!,"house",Il!,(·.2.2),uj!,M.hand=G.hand,Im!,M.holds,YJ!,x.holds,HG!,G.AJ.map,MO!,G.AK.map,O3!,∀t∈G.hand,Z,
In!,x.ln,Io!,x.rk,uk!,Int.lt_irrefl,St!,this.1,Ip!,t∈G.hand,Iq!,x.BQ,Df!,x.hand,DD!,x.AJ,Dg!,x.AK,
gk!,{ G with AJ:=Z },O4!,es.toList.map,gl!,storedH_old,ul!,atKey_of_get,Ir!,more.take,gm!,List.take_succ,
YK!,List.range',Su!,j<TZ.size,KY!,List.cons.inj,gn!,reduceHash,go!,Builtin.Tuple.tupleHashOf,
um!,kvs.length+more.length,HH!,ts.take,KZ!,BS.keep,O5!,ts.filter,un!,i<l.length,MP!,Prod.mk.inj,E0!,found,
Dh!,t∈R,YL!,∀t∈ahead,Z,uo!,keys.filter,HI!,hl.map,MQ!,G.AJ.filter,gp!,G.holds.filter,up!,G.holds.any,
YM!,{ G with AK:=Z },F0!,G.AK.filter,gq!,i<=kvs.length,Is!,hand,uq!,List.take_succ_cons,Sv!,λ_ _ h9=>Z,
Sw!,startT,Ka!,ok.ke,O6!,ok.ln,Ay!,λt ht=>Z,YN!,ok.new,Sx!,EN.mpr,YO!,∀t∈ts,Z,gr!,"0123456789",Cn!,"thing",
ur!,h2.objs.size,gs!,X.A.handled=Z,HJ!,Z (Z:=Z) (Z:=Z) (Z:=Z) Z,AZ!,top,O7!,us.length=Z,us!,[a,b,c,d,e],
gt!,ns.length<=Z,gu!,"House.__init__",gv!,"Post.__init__",ut!,"World.__init__",B7!,"self",Kb!,"weight",
Sy!,"told",gw!,"House.told",uu!,"World.make",uv!,"World.free",uw!,"World.send",ux!,"World.clean",gx!,"deliver",
uy!,"World.deliver",E1!,"letter",uz!,"World.hold",u0!,"World.drop",u1!,"World.take",YP!,"reached",It!,"starts",
gy!,"_law_cell",HK!,"_law_script",MR!,"_law_k",gz!,"Inquiry.__init__",Kc!,"let",u2!,"World.ask",g0!,"beginner",
YQ!,"unreached",Co!,"states",YR!,"recorded",u3!,"Desk.__init__",O8!,"verb",u4!,"Desk.look",g1!,"read_words",
HL!,"words",YS!,"read_word",O9!,"form",F1!,"word",u5!,"read_number",YT!,"written_thing",YU!,"written_letter",
YV!,"listed_things",YW!,"_law_cell_here",MS!,"_law_many",g2!,"_law_class",MT!,"_law_e",YX!,"_law_x",
PA!,"_law_state",Sz!,"_law_a",E2!,"_law_world",DE!,"_law_deed_here",S0!,"_law_thing_here",YY!,"_law_texts",
PB!,"_law_desk",S1!,"_law_row",MU!,"_law_told",PC!,"law",MV!,"many",Iu!,"first_ticks",Kd!,"second_ticks",
K!,FuncData,u6!,Classical.byContradiction,g3!,ta∉G.hand,BZ!,ta∈G.hand,DC?,by have⟨p,t,G,th,rfl,S,ht,k⟩:=h,
B?,by have⟨dx,hp⟩:=S.ob,v!,T.cl,Iv!,T.nH,MW!,FX.FR.VD,E3!,M1.mt,EI!,M1.bd,
GA?,by have⟨p,a,b,G,ta,tb,rfl,S,ha,hb,k⟩:=h,Ke!,M2.mt,HM!,M2.bd,Iw!,M3.mt,Ix!,M3.bd,Di!,T.nL,B8!,tb∈G.hand,
u7!,tb∉G.hand,Z?,by have⟨HQ,IW⟩:=S1.ob,PD!,G.AK.find?,HN!,T.nR,g4!,λb' o e h1 h2=>Z,
GB?,by have⟨p,b,G,tb,wt,rfl,S,hb,z,k⟩:=h,g5!,G.AJ.find?,F2!,T.nO,BD?,by have⟨ME,JG⟩:=S2.ob,F3!,S.dO,
S2!,∀(x:Addr)(H':Hp),Z,YZ!,λb u e hb=>Z,Bp?,by have⟨b1,b2,b3,b4⟩:=Z,DD?,by simp only[BR] at *,S3!,G.hand.map,
GC?,by have⟨YJ,bw⟩:=S6.ob,Ya!,NG.map,MX!,XW.map,Bq?,by have⟨T_,TC⟩:=S3.ob,Yb!,r.keep,Ai!,λz hz=>Z,
GD?,by have⟨p,h,W,rfl,S,k⟩:=h,wE,TW.cl,HO!,TW.nH,S4!,PassesOwn.never,Iy!,λb o e h1 h2=>Z,Kf!,rs.filter,
EJ!,"back",Yc!,G.holds.take,Yd!,mO.map,Br?,by have:=pm.length_eq,S5!,us.map,S6!,{ Z with BF:=Z },
Bs?,(by rcases Z with rfl|rfl|rfl|rfl),BD!,kind,S7!,"more",PE!,g.toNat,E4!,"pass",PF!,x≠W.hs,Iz!,TP.cl,
MY!,JQ.FQ,BE?,by have⟨ME,JG⟩:=W2.ob,GE?,by have⟨T_,VU⟩:=W2.po.ob,I0!,TW.nP,I1!,W.ls.map,
GF?,by have⟨HQ,hq⟩:=S.po.ob,S8!,h.toNat,GG?,by have⟨ME,YU⟩:=S1.ob,GH?,by have⟨T_,TC⟩:=W1.ob,
GI?,by have⟨bU,gG⟩:=W1.po.ob,S9!,{ W with c:=Z,ls:=Z },MZ!,W.ls++L,g6!,G'.BQ=G.BQ,u8!,G'.AY=G.AY,
g7!,∀t∈G'.hand,Z,g8!,x.ok.mono,I2!,x.nn,Ye!,λt _ h=>h,F4!,x.ok,Ma!,l.th=t,u9!,Int.add_assoc,g9!,Int.add_nonneg,
Sc,l.th,Mb!,l.th.1,Yf!,l∈ls,HP!,x.sd,hA!,s.ok.new,TA!,Int.ofNat.inj,Mc!,x.next,TB!,b∈G.hand,vA!,Z=G.AK.length,
vB!,Int.add_zero,vC!,Int.zero_add,vD!,Int.le_antisymm,Bt?,by have⟨y,hy,rfl⟩:=Z,Md!,pm.mem_iff.mp,Yg!,s.ok.rn,
Kg!,G.AY<=G'.AY,hB!,λl hl nb=>Z,Yh!,λr hr t ht=>Z,Yi!,λt ht ne=>Z,hC!,x.rc.less,vE!,G'.holds=G.holds,
hD!,x.rc.next,Yj!,x.wl.ok,Me!,L.flatMap,E5!,addW,CP!,rowsOf,PG!,Found,Yk!,t∉ts,Bu?,by rintro⟨h1,h2⟩,Cp!,tick,
vF!,al.filterMap,TC!,fi.find?,Yl!,fi.map,vG!,fi.length<m,TD!,fi.length=m,hE!,pm.mem_iff.mpr,xL,al',
Ym!,G.BF<G'.BF,vH!,λj q2 G2 e ej=>Z,I3!,.ask,PH!,LL.ask,vI!,L.length=m,vJ!,ys.length=i,Yn!,W.GQ.length<=Z,
F5!,"answer",PI!,λb o eb hb=>Z,I4!,S.ob,Mf!,λb ob e n=>Z,vK!,λj σ H' _ h9=>Z,Yo!,List.map,PJ!,(·.key),E6!,I.sd,
Dj!,I.fd,EK!,I.cd,I5!,I.fs,GJ?,by simp only[BR] at l1,PK!,K51F.ID,EL!,e1++e2,TE!,λb o eb hb n1 n2 n3=>Z,
I6!,y.fi,GK?,by have⟨a,e,s⟩:=h9,TF!,Z+G.AK.length,Yp!,Z+G'.AK.length,I7!,(·.n),vL!,ys.flatMap,Yq!,∀y∈ys,Z,
hF!,{ W with qs:=Z,c:=c,ls:=Ls },Mg!,x.off,Az!,x.wa,Yr!,z∈al,Bv?,by have a1:=x.md,Bw?,by have a4:=x.iz,
vM!,λs g ts hz=>Z,GL?,by have⟨g0,g1,F,sF,fD,ht⟩:=Z,vN!,W'.share=W.share,TG!,W'.JC=W.JC,Ys!,W'.hs=W.hs,
I8!,A'<=A,Mh!,B<=B',I9!,x.wg.BQ,Mi!,x.wg.wl.len,F6!,near,BF?,by have⟨wg,st⟩:=Z,JA!,KO.pr,hG!,x.wg.wl.ok,
hH!,t.PL.at_,GM?,by have⟨_,a,hl,f,_,pm,_⟩:=Z,TH!,W'.qs=W.qs,hI!,W.qs.length=m,DE?,by have⟨y,hy,hb⟩:=Z,
vO!,y'.se.length=m,DF?,by have⟨k,hk,e2⟩:=Z,hJ!,(·.toNat),vP!,y'.fi.length=m,Bx?,by have m5:=x.m5,TI!,VY.many,
CQ!,g.TW,JB!,g.TP,Kh!,EC=ys,DG?,by have⟨k1,k2,k3⟩:=Z,Ki!,.make,HQ!,.hold,JC!,.drop,JD!,.take,HR!,.send,
Yt!,.clean,GN?,by subst e e2 ea WD ey bQ,Yu!,Kp.trans,vQ!,z.cps.toList.take,GO?,by rintro ys H2 ⟨rfl,rfl⟩,
vR!,Nat.add_le_add_right,x?,by have⟨UJ,UH⟩:=S.wo.ob,Mj!,∀l∈W.ls,Z,F7!,g.TW.cl,hK!,g.mWH.mt,hL!,g.mWH.bd,
TJ!,g.TK.cl,hM!,Nat.digitChar,Yv!,LF.mpr,hN!,PyData.int,EM!,.one,PL!,nw.toNv,vS!,λcls i xf ef=>Z,
GP?,by simp only[PyData.depth,PyData.depthAll],By?,(by rcases Z with h|h|h),Yw!,wi.same,TK!,tl.rep,
hO!,"_law_h",vT!,wi.wg.wl.len,DH?,by dsimp only [p8],hP!,g.mLt.mg,hQ!,g.mLt.fn.kp,hR!,g.mLt.bd,Yx!,wi.wg.BQ,
Bz?,by generalize ez:z=z0 at tx,JE!,UN.nd,AT,Z Z=D! Z,IN,(Ep! Z),AF!,(Z:Ch),h!,Ep! Z,EN!,Gv! (Z),
U!,by rw[Z];show Z,BE!,AT H Z Z,CR!,(Aa Z Ae),Aa!,XL! (Z),Rs,(pv 0),AP!,Z->Z->B!,L!,Z _ _ Z,C!,Gv! V,
Ab!,Z Z=none,ci,Z Bl!,F8!,(z! Z Z (Z Z)),NE,(Z _ _ Z),Kj!,AT Z b Z,w!,(pv 1),HS!,Inv X AB σ Z Z,GE,S! Z,
F9!,wpAny Z Z Z Z Z Z,T!,V! Z,TD,(by decide),G!,Gv! T2,HT!,AT Z Z (Z Z),Ix,D! Z,xz,wp Z,Aj!,i+1,KE,(U! Z Z),
FS,Z _ _ Z Z,vU!,HS! H Z,GA!,Kj! Z o,Dk!,(by rfl),E7!,(Z:Str),AA!,CK! Z,HU!,D! (Z Z),PM!,BE! Z (Z Z),o!,d! Z,
Mk!,(Aa Z (CR! Z)),Kk!,(Z Bl!),E!,Cx Kx,A7!,Ab! H Z,BM!,⟨_,Z,Z⟩,Bq!,⟨_,Z⟩,DF!,h! p,I!,vU! s,AG!,λq=>Aa! Z,
EQ,(pv 2),KB,(by simp),Op,U! (Ad Z) Z,EO!,(.BK (Z Z)),GB!,BR! Z,A0!,by rw[<-Z];show Z,A8!,⟨A!,Z⟩,
E?,by show S! Z,CS!,PE X Z Z,Ac!,ED! Z,E8!,Aj Z t,Yy!,BE! b Z,HV!,ON! Z,PN!,AP! Z Hp,UV,bn Z,PO!,F8! H Z Z Z,
EP!,BZ H Z,Tk,q.2.1,Dl!,W.c+1,Br!,h! a,WP,(Aq Rs A!),Ak!,(Z Z).length,sB,AF! i,HW!,(q,G),Cq!,DZ.of Z,X!,by lia,
hS!,Ay (i:=Z) Z A! Z Z,E9!,AP! Z OS!,TL!,(Ao Aw Z Af),R?,[_,A!,Z],F?,[_,A!],Al!,An Z Z (Am Z),TM!,(FB (tv Z)),
JRe,hS! Z Z (Sf! A!) Z,AS?,by show⟨A!,Z⟩,Yz!,HT! Z Z .BK Z,M!,(e.2.2.2.2.2.2.2.2.2.2.2.2.2.2.2.2.2.2.2.2.2 Z),
N!,(e0.2.2.2.2.2.2.2.2.2.2.2.2.2.2.2.2.2.2.2.2.2 Z),O!,(e.2.2.2.2.2.2.2.2.2.2.2.2.2.2.2.2.2.2.2.2.1 Z),
P!,(e0.2.2.2.2.2.2.2.2.2.2.2.2.2.2.2.2.2.2.2.2.1 Z),HX!,Ai (o:=Z) Z,Ba!,Z=D! HW!,FA!,AT Z x Z,GC!,Q (IN Z) Z,
A1!,HU! Ep! Z,AB!,(Aj!),Dm!,XO! Z Z Z,vV!,λEO A outer s hr=>?_,Am!,(S! Z),wP,by decide,PP!,(A3 _),FB!,RelV Z Z,
k!,Gv! DY!,i!,(by lia),A?,by show AS? vV!,Q!,Gv! α,Z!,Gv! F!,AC!,(Z _ _),TN!,Z (by decide),a!,HH K Z Z Z f fd,
Y0!,(Az Z (IN Z) Z),DG!,[B7!],FC!,t∈ci Z,ii,AF! h,hT!,EO! Z CK!,HY!,(q,G'),JF!,¬(E7! Z=Z),DI?,by change B5! Z,
At,Gv! Ch,Y!,EN! EE!,Y1!,Yz! Z Z ys,JG!,Z->B!,L?,by show d! Z,O?,by show ZR (Z Z),AH!,(ZD _ Z),HZ!,⟨Z,Z,A!,Z⟩,
I?,by show AJ! Z Z,CT!,ZL ..,FD!,(G.BQ,G.AY),sK,by simp,AI!,(pv 3),j!,EN! Sq!,Kl!,Bw σ be,EQ!,z! Z Z (Z Z),
vW!,AW CW C CP Z p Z,CU!,(Ay! Z),l!,Gv! LL,Dn!,BM! A! Z,Bb!,AF! (Z:No),DH!,V! h,PQ!,F8! Z Z .BK Z,
x!,EN! (Addr×Obj),Bs!,GX Z Z Z Z (Z),AD!,L4! Z,Km!,(z! H Z Z),BF!,q.2.2,Cr!,H!=t,AC,Gv! Str,
m?,by show Z Z λvs H Q E h=>?_,GD!,[B7!,"h"],Ad!,wT (Z),Kn!,[B7!,Cn!],DI!,(Av G ts),Ha!,AT Z a Z,PR!,AF! 0,
XV,EP! H',Y2!,(Ar (pl:=_) Z Z Z Z Z Z R! Bi Z),Hb!,(Ag (Ap Z)),AT!,(Z (·.1)).Nodup,Do!,EL 1 Z Z Z (Z),
Y3!,TN! hr.mono,GM,Gv! Qy,B9!,h! b,Os,E9! DY!,GE!,(keepR G R),AU!,y! (Z),hU!,Z (OZ! Z),CV!,BX G,
Y4!,Y0! Z Z (Y0! Z Z Z),Hc!,Z Z H Q E,Bc!,(d! Z),hV!,AA! Tk,BN!,Bq! A!,TO!,(Az Z (V! Z) []),
JRf,WI Z p W D m n d Z B al ys,Y5!,Z->HV! Z,DJ!,ZC _ Z,Bt!,AF! m,TP!,tk H!,Aq?,[_,A!,p,Z],ER!,(Z Z).map Z,
cr,EN! gi!,Dp!,DC K H Z Z,hW!,(Ac (JRe Z Z Z) Z),Hd!,G.BF+1,GF!,TL! w!,vX!,Ix Z::Kl!,PS!,(λ_ _ _ _ _=>Z),
Ko!,Gv! Key,FE!,Ab! Z b,Ml!,PM! Z FB Z,G?,by show m? F.KD Z,SB,JRf H A,He!,(n+1),CA!,y! (Z Z Z),An!,A7! b,
Hf!,Yy! o,hX!,{ cls:=GB! Z,data:=Z Z },Dq!,by rw[Z,Z];show Z,TQ!,(Aa Z (Mk! Z Z)),Cs!,ZB _ Z,hY!,BE! Z (TM! Z),
ES!,(ZJ Z).1,a?,[R? p],TR!,GC! Z H',Bd!,r.2.2,Dr!,‹_›,Ct!,AJ! (Z) Z,DK!,(ZB _ Z),Hg!,Q Z H',H?,(by cases rx),
GG!,(by cases Z),jp,by rw[Z,Z],CB!,⟨Z,Z,A!⟩,S?,by show⟨Z,Z,?_⟩,Hh!,[B7!,E1!],Ao!,ZG _,P?,by show⟨_,A!,Z⟩,
JH!,PN! C!,sw,Y5! Str DY!,bi,BD C H p G,Mm!,Cd! A4 xs Z j Z Z,TS!,(λ_ z=>(by cases z)),Mn!,ci Z=Z Z,BO!,(pv 4),
GH!,by rw[Z,Z];rfl,PT!,PO! Z .BK Z,FF!,L! Z (NE Z Z),Ds!,by rw[Z];rfl,TT!,PQ! Z p Z,vY!,Z Z m n sh qs ls,
hZ!,W.c+(Z:No),Kp!,wp (Z),Bu!,AZ _,J?,by show E? h,Dt!,E8! AO!,JRg,F9! (model Z w) A Z Q E s,
ha!,Ce! (Z->Z->GA! Z),hb!,λt=>Aa! Z,DL!,GA! Fm!,o0,Ba! (qs[i]?),ET!,HX! (FB Z) Z,K?,by have hu:=Cp hr,
TU!,(Od! (by cases z)),TV!,PR!<Z,Ac?,by show⟨_,Ac (Z) Z,?_⟩,Hi!,Y1! H2 p,CW!,AA Z TD,A9!,JRg B2! Z,
hc!,(Bb Z Z Dk! Z Z Z R! A9 Z),FG!,G.AY+1,wS,Gv! LT,Bv!,⟨Z,?_⟩,FH!,(ZC _ Z),TW!,(FO (Z AB s σ H _ I h) Z),
Y6!,(qs.set i (q,Z)),GI!,[B7!,"a","b"],Be!,B9 G ZV,hd!,(relabel sc SL).names.lookup,
he!,F9! (model Bm! X.w) X.A Z Z X.xe s,PU!,AE! (Z Z),Kq!,BM! Z A!,PV!,(Au Bs Z As PP!),PW!,(model B2! w),
Hj!,[B7!,"b",Kb!],Hk!,BD C Z p Z,TX!,AT Z Z o,Hl!,⟨Z,[]⟩,CC!,(ZG _),EU!,AC! AV,JI!,(D! (Ep! Z)),hf!,eval Z SL,
Y7!,by show DI? 2;decide,Hm!,HZ! A! A! A!,EV!,Ab! mg Z,Mo!,ci HG!,Hn!,Ac! ex,Ho!,E8! BL!,BA!,Yy! (TM! tb),
vZ!,JRe 2 Z Z,va!,W.findIn K (IN Z) Z=D! KM,Cu!,ZU _ A!,Cv!,ZR (m:=Z) Z,Hp!,(CT!),Y8!,vs=[DF!,Z],
hg!,AT Z Z .local,Bf!,IN a,Mp!,L! k.BE Z,Du!,HU! V! Z,AQ!,JG! T2,vb!,vW! Z W,PX!,⟨q,hq,Z⟩,AR!,Ok G n,
Mq!,T2×Int×G!,JJ!,found++[t],EW!,⟨o,Z⟩,Y9!,(z! Z Z (hT! Z)),GJ!,AH _,PY!,PM! Z .BK Z,hh!,Z Ax! tb,ZA!,hU! Ad Z,
TY!,Gw! Z us,JRh,vX! x,GK!,Bu p W,JK!,(Z b o e),JRi,TO! Ez! sh,TZ!,(model Bm! X.w),Hq!,Cj W ZV,
Q?,by have HJ:DW 1 _:=Y3!,Ta!,(Fr! Z Z),Cw!,y! (Z Z),Bg!,x=Br!,Ae!,n<60,PZ!,(db Z),ZB!,(by simp[Cd]),
Mr!,Aa! (Z=Z Z),Pa!,KE ZA Z,FI!,Z b o e Z,hi!,(D! (G2! Z)),Pb!,(Bc Z (Hb! Z) A5),Pc!,hc! (Z g) Z Z Z Z Z,
Ar?,by show Fl Z Z λvs H Q E h=>?_,Tb!,OB qs ls Z Z,JRj,λv H5=>Y1! H5 p/\ys.length<sizeLine/\Z,GL!,AT H' Z Z,
Hr!,⟨dx,Z⟩,Cx!,AF! j,f?,by show⟨Z,?_⟩,Kr!,Z (by lia),Tc!,(L6! Z).1,GM!,o! ⟨Z,Z⟩,FJ!,EP! H2,Ms!,Cq! (NE Z Z),
vc!,(Ar (pl:=_) Z Z Z Z Z Z R! A9 Z),Mt!,(.ins C dx Z),BP!,Array DY!,Ap!,Z X Gn,Aq!,vb! H,Dv!,Q H2,
JL!,E (IN Z) KM H,Mu!,(ut Z),CD!,r.2.1,Pd!,AT Z p Z,hj!,Mk! Z (Z),FK!,Z σ H1 Z,A2!,inClass (AZ! 15) Z,
ZC!,(x::Cg be),GN!,λz=>Z (Z z),hk!,PT! p Z,CX!,NA W h q G,vd!,∃W:No->No->Z,(∃m,W 0 m Z Z)/\Z,ZD!,(e::es),
g?,by rw[e] at e',Pe!,s.heap.objs.size+1,j?,by show C? (ZI Z),Bh!,Gv! No,EX!,AF! k,JM!,h! t,GO!,AJ! (Z Z) Z,
GP!,(AH _),Ks!,GE ⟨Z,Z⟩,Bw!,PN! St,Mv!,Z b o Z e,hl!,FA! Z .local,Pf!,Dm! R Z Z,ZE!,D4! a,Hs!,ZT _ e,
EY!,Mn! Z Z Bl!,ve!,(A7 Z Dk! Z CO (CR! Z)),BB!,DH H H',BG?,by change F9! _ _ Z _ _ s,GQ!,Do! f fd Z Z,
DM!,λq:T2×Int=>H!,Cy!,by rw[Z,Z,Z],CY!,U! ZA Z,Ht!,(S! A!),Cz!,HV! Ch,BG!,AE A!,Td!,(AA Z TD),
BH!,inClass (AZ! 24) Z,B0?,[Aq? C],ZF!,(Ao A8 EQ Af),JN!,NK K mg Z Z [Z] Z Z,ZG!,AP! Hp VK,
Mw!,(Bc Z (Ag Z) A5),y?,[Z,Z,Z,Z,Z,Z,_,A!,Z,Z,Z,Z,Z,A!,Z,Z,?_],BI!,EN! (Ko!×V),BJ!,HG M G,CE!,(Ah!),
vf!,B3! XZ! Z Z,Mx!,(am,Z),BQ!,AN! ?_,Kt!,(Z (IN Z) Z),JRk,⟨Y7!,Z⟩,DN!,AF! n,JO!,h! d,GR!,BE! a Z,ZH!,I.tok _,
DO!,AN _,My!,T! i,hm!,AW CW CH CP Z p Z,Te!,(eval Z SL),Tf!,(Bl Z Dk! Z Z (CR! Z)),Pg!,Z Au! e,GS!,S.same Z,
JP!,Z CK!,CZ!,(A0! Z Z),EZ!,(show TV! Z by decide),JQ!,Ai! ?_,JR!,V! (Z),Bi!,(by rw[Z,Z]),JS!,⟨A!,Z,Z⟩,
Ea!,⟨o,Z,Z⟩,GT!,NE Z (NE Z Z),Bj!,A8! A!,Bk!,AE c,Tg!,FA! Z c,hn!,HX! (Z []) Z,Th!,[B7!,"h","a","b"],
Hu!,hh! B0,ho!,Aj AO! b,Eb!,λp hp=>?_,Ec!,(Z Z).symm,Bx!,B<=2400,Mz!,by change Z;show Z,By!,EN! (κ×V),
Bz!,EN! (Key×V),B0!,EN! Mq!,Dw!,(AZ _),vg!,HS! H' Z,B1!,AU e,hp!,(FB (Z CK!)),Ti!,EQ! H Z Z Z,
Tj!,DP K CW Z Z Z GD! Z Z,Ed!,(qs.set i HY!),Ph!,(Be Cf Z Af),M0!,TR! x,Pi!,Hg! Av!,As?,by show S! (S! Z),
Tk!,hg! sc.names.lookup Z,JRl,Y2! Rs Z Z Z Z Z (CR! w!),hq!,(OT (OT Z ex) ex),b?,by show Ar? F Z,
vh!,te (Z) Z (JRj Z),ZI!,AA (A_ Z) TD,Pj!,Z (AG! Z),Tl!,Z->GC! Z Z,AC?,by rw[e] at h,JT!,[Br!],
vi!,λb H4 =>vf! Z Z,Pk!,λq:T2×Addr×List T2=>H!,FL!,Gv! A3!,JU!,h! l,vj!,(Aa Z (TQ! Z Z Z)),DP!,EN! (Str×V),
CF!,EN! (Str×Addr),FM!,⟨Z,A!,Z⟩,Ku!,Kj! H' Z,Hv!,T! n,Pl!,HT! H' Z Z Z,Kv!,A7! p,Pm!,D.nx σ Z,Hw!,FC! HG!,
JV!,Ha! OO! Z,CG!,FB! y u,Tm!,Z (ZG _),M1!,FE! H',JRm,(Ao A8 w! Af),ZJ!,Cu al n Z,vk!,(Ar! D4!),
FN!,VP λo' e=>by rw[Z] at e;cases e;show⟨TS!,TU!⟩,ZK!,IntsAre Z Z,JW!,λ_=>?_,Tn!,Xs! Z (Ix Z),To!,λr=>Aa! Z,
M2!,H!≠t,n?,by rw[e] at ht,Ca!,Gv! Env,FO!,Z (JX Z),Cb!,EN! (Str×Nat),Pn!,BE! p Z,hr!,(V! _),Kw!,L! hN Z,
vl!,Op Z e,GU!,hT! Ar!,z?,by show L? h,Hx!,vW! H' Z,ZL!,DJ! Hp!,M3!,Ml! x Z,M4!,Cs! h,Po!,AF! Xt!+1,
hs!,λq=>((GE H!:Key),hV!),V?,by rw[D0 ZV],Cc!,vY! Wg D,JRn,By (i:=Z) Z A! (Sf! A!),ht!,Bs! Z f fd Z Z,
hu!,(Di Rs Z A!),JRo,(.ListComp elt [⟨Z,iter,ifs,0⟩] Z AS!),W?,by show Bn ⟨_,A!,A!,_,A!,?_⟩,
JRp,Y4! BW! po Ey! r JRi,GQ?,[Z,_,_,A!,Z,v!,Z,Z,_,_,A!,A!,Z,_,Z,Z,?_],Pp!,(Z b hb).1,vm!,λ_ H Q=>Q Z H,
JX!,(Z).toNat,Ee!,Ak! Z Z<=Z,C0!,by simp at h,hv!,(by cases z),C1!,Gv! β,ZM!,IN t,Hy!,⟨Z,Z,?_⟩,
Hz!,XO! Z Z (Z Z),H0!,XO! (Z) Z Z,vn!,HT! (PO! Z Z Z) Z Z Z,C2!,GA! OO!,ZN!,Z Z (CT!),Kx!,(Ag (Bf Z)),
C3!,FB! v u,C4!,α->T2,Pq!,S! (S! Z),C5!,Z b hb,Ef!,Bt 0,H1!,(by show DI? 2;decide),Pr!,xs[i]?=D! x,
ZO!,λσ H Q=>Z σ H λx H1=>Z,ZP!,hZ! gj!,JY!,Ci al n Z,M5!,JQ p W H H',ZQ!,Pc! Z HJ Z Z Z Z,
vo!,vc! Z Z Z Z hr Z Z,ZR!,EX Bm! X.w Z Go Z Z,hw!,(SC Z (SC Z R!)),vp!,F9! TZ! X.A Z Z Z Z,
c?,by show⟨_,A!,A!,_,A!,?_⟩,vq!,Cs (te:=Z) (be:=Z) A! Z A! ZV A! ZV A! Z Z Z ZV Z (PS! Z),Ps!,W.GQ++[(Dl!,e)],
M6!,∃m',m'<m/\W AB! m' (ys++[v]) (TT! H5 (ys++[v])),JRq,EA! Z (Am! s) (V! Cp!),JZ!,Sd m Z (n+1),C6!,Sd m G n,
hx!,[B7!,"kind","sender","goal","about"],FP!,((Z i H2/\Z)\/(Z i H2/\∀x H3,Z i H2 x H3->Z)),FQ!,(Z).length,
hy!,(λ_ _ _ _ _=>De),ZS!,by simpa using Z,hz!,by rw[e],H2!,IN D,GV!,EN! (Str×NameKind),Ky!,BE! d Z,M7!,S! h,
ZT!,Q Z BT!,Kz!,[B7!,EB!],K0!,[B7!,"n"],FR!,Ad hb,Tp!,Ad (Ak e Z),DQ!,Z Z (ZP Z),Pt!,Yy! u,DR!,TL! Rs,
DS!,FC! db,ZU!,EQ! Z Z .BK Z,Ja!,(Z Z Z).length<=Z,ZV!,AF Z TD,h0!,hY! t Z,FS!,QH G t,Pu!,Aj AO! tb,
ZW!,λz=>Z Fx!,AK?,[_,A!,Z,_,Z],DT!,W.nsIn K mainGlobals Z=D! (JI! Z),FT!,Z q hq,Jb!,Z b o e,vr!,Pv i ys H2,
r?,by show⟨_,Ag (Ap Z),?_⟩,vs!,vj! As Z Z Z,h?,by rw[Fd A!],DU!,vY! Wl C,JRr,JRo Z sc,DV!,λq=>(tk q,D8! q!),
Pv!,(Ac Z (Ac Z Z)),h1!,[B7!,O8!,"given"],DW!,∃m',m'<m/\W AB! m' ys H4,FU!,KV Db vs,Tq!,(CJ! Z),
K1!,(λi ys H2=>Z),Pw!,(JJ!),H3!,(Z Z).Nodup,GW!,ut ?_,DJ?,by have I1:vU! Z:=Z,K2!,(Z Z).toArray,
Px!,show Z by lia,K3!,(pv 5),Py!,⟨Z,A!⟩,GX!,L! s4 Z,Tr!,L! kt.BE Z,Ts!,GE hb,K4!,T! g,M8!,(.ins C Z Z),
Jc!,Am! h,Pz!,FC! HI!,AD?,by show L? ⟨Z,Z⟩,At?,by show I? h Z,k?,by show Bn ?_,l?,by show B3 ?_,Dx!,hU! B8 Z,
h2!,hW! Z Z Z (hW! Z Z Z Z),ZX!,Mm! Z i Z,ZY!,Z (A0! z Z),BH?,by show Ac? (vZ! Z Z) Z,Dy!,KA X Gn Z,ZZ!,Mt! fs,
Dz!,Dp! a xs,vt!,Tg! tX!,D0!,GV H p pw W,vu!,W!=ii,vv!,Dm! (MT H W.GQ) Z Z,D1!,Ad! (x==E7! "__debug__"),
D2!,hm! H W,P0!,Binds K Z Z [],D3!,KT p K W m n d A' B' ys H Q R,h3!,Done p G H Z Z,
DK?,by show⟨B0?,GQ? Z Z T.nT (Cq _) Z Z (D5 _)⟩,Za!,Z (Td! Z),H4!,(B3! Z Z Z),JRs,(vq! Z Z Z Z Z Z Z Z),
Jd!,λq=>xz PP,vw!,∀b∈Z,b∈Z\/An!,vx!,sizeLine=16777216,Tt!,λu=>Aa! Z,P1!,y.se++[(s,Cp!)],Tu!,(Z (AG! Z)),
Zb!,((by cases Z)),H5!,AF! 1,K5!,h! Uf,M9!,(BZ.refl _),NA!,[B7!,"b"],Zc!,Mk! AI! Z,Eg!,A1! p,K6!,A1! a,
Tv!,Z σ H λx H1=>Z,P2!,S! (DZ.of Z),Eh!,VG G t,Tw!,Aj BL! tb,Zd!,d! (d! Z),Ze!,(Z h ta tb),NB!,B5 qs,
Ei!,W.nsIn K mainGlobals Z=D! KM,Ej!,GK X Gn Z,Ek!,TY! xs,vy!,(Z (·.1)).Pairwise LB,NC!,Bg BL! tb (Z),
Tx!,(d! (S! Z)),GR?,[Z,Z,A!,Z,A!,A!,_,A!,?_],Ty!,EF.mp ht,BI?,[_,A!,Z,Z,Z,Z,Z,A!],h4!,AD (by simp),
P3!,(Heap.SameBut.update ..),ND!,hY! a ta,H6!,vm! q!,H7!,(Cv (IM L)),h5!,vp! Z Z X.xe Z,El!,PQ P w H h,
Em!,rs.Perm AO!,Zf!,(Af! (BX! hs!)),NE!,by rw[<-Z];show ES! Z,NF!,(Ac Z (Ag Z)),H8!,[B7!,MV!,Ez!],
Zg!,F9! (model Bm! X.w) A Z Q E s,Tz!,⟨S7!,Mb!,l.s,Sc,sh⟩,DL?,[_,A!,Z,Z,Z,A!,_,A!,Z],
o?,by have⟨f0,f1,f2,f3,f4,f5⟩:=hf it KB,h6!,(λi ys H2 _ h=>Z),P4!,(ow++Cg be),FV!,Hi! /\ Z,K7!,(Z,h! Z),
NG!,Cf! Hs!,s?,(by obtain rfl:u=ZE!:=rx),NH!,(BX! (·.1)).getD,FW!,m<=12,Je!,ta.1=G.BQ,K8!,H!∉Z,FX!,0<=g,
h7!,by simpa using h,K9!,I!->Z->Z,LA!,AT Z Z (hT! Z),FY!,Gv! HS,h8!,U! Z e,LB!,U! Z ZL!,Zh!,Aa! (Z Z=Z Z),
h9!,ci (Z Z Z Z).map,iA!,Inv X AB GA Z Z,FZ!,L2.Mk K Z Z,P5!,A7! l,vz!,Op (Ak e Z) Z,Fa!,A8! ?_,P6!,A8! CM!,
Jf!,PN! A3!,T0!,UV z,Fb!,E9! Unit,t?,[R? _],P7!,Al! Z [Z] Z,P8!,ZN hz,P9!,(by rw[Z,Z];show Z),NI!,CT _ _,
u?,by show⟨_,Z⟩,Fc!,Array DictEntry,Jg!,FB! x u,Jh!,NK K mg Z Z [Z,Z] Z Z,NJ!,GG! h,JRt,If! (AG! Z),
DM?,by show S! (d! Z),iB!,(Z (Ep! it)),iC!,CU! (GE ht),iD!,Ss! S8! HY!,Zi!,GN! e Z,Fd!,Z=XL! (Z),v0!,Pf! xs Z,
B1?,by show⟨_,A!,Z,A!,Z⟩,JRu,JRl Z Z Z HJ Z,Fe!,DZ K H a xs,iE!,ZK! Z ns,iF!,Ai ht _ _ Z,
Ff!,vd! JH! [] (hk! []) (∀i m ys H2,W i m ys H2->Z),Fg!,AP! α β,v1!,Ke Z P w K mg AW! N qual Z f Z A BV! s H E,
LC!,FB! x v,Au?,[_,A!,_,A!],iG!,Z _ _ Z h1 h2,Fh!,JI X sc cl be,Fi!,HP X.env.cells cl,v2!,Z AB s1 σ H1 _ I1 q1,
QA!,⟨Hm!,CM!⟩,Ji!,(Ah Z (Ah Z Z)),B2?,by change Z=Dt!-Ho!+Ct t ls,Jj!,ZW p G H Z,GS?,[a?,Z,dx,_,A!,Z,Z,Z,Z,?_],
iH!,PU! OV dd,Zj!,(IM (L.take i)),GT?,by .have e:Z:=DS hi (G1! IP);subst e;show E? ⟨Z,Z⟩,Jk!,FS Dj ZV ZV,
LD!,MI! Z,T1!,(Dl!),Zk!,Z=sB,v3!,λq=>hV!,LE!,x.2.1,QB!,∀x c,vt!->Z,GY!,λz=>?_,JRv,show fx! from hs,
GZ!,sc.kind=.function,Ga!,b∉GK!,AA?,(by by_cases e:Cr!),v4!,if Cr! then Z else q,T2!,∀t∈ci Z,Z,Gb!,tb.1≠G.BQ,
Zl!,H!∈R,Gc!,Ay! ?_,LF!,Z (U! Z Z),NK!,Z (A5! Z),NL!,IN f,T3!,IN b,LG!,IN it,T4!,AF! k9,Zm!,h! C,Gd!,AE h,
Ge!,L! s3 Z,Zn!,Ab! H1 Z,NM!,F8! H2 Z Z Z,T5!,HY K H Z Z,iI!,GA! XR!,T6!,AA! a,v5!,o! (Bq! Z),v6!,hZ! i+1,
QC!,Ac! (NE Z Z),Zo!,I.pin p Z,LH!,Z b o Z hb,Gf!,SV t,Gg!,ZN m,Gh!,AD c,AT?,[_,A!,Z,_],Gi!,JG! Hp,
Gj!,Array No,iJ!,HZ! _ Z A!,Zp!,λσ H Q=>t σ H Z,iK!,[(Dl!,t1)],v7!,ha! Z Z XR!,Gk!,Z z hz,JRw,vZ! Z (Bh Z),
iL!,PX! ht,Gl!,Q_ K Z Z [Z] Z Z,QD!,Q (V! Z) H,iM!,(Af! (HD! (Z))),JRx,Pb! (PV! Z) Z,Zq!,(Bp P w),LI!,(ZX P w),
NN!,(a,NameKind.local),NO!,(b,NameKind.local),Gm!,hl! sc.names.lookup,AB?,by cases ry;show Z (B6 I q KB),
iN!,ho! / 2,QE!,vg! s',Gn!,CS! a ta,NP!,wT (MJ (bn Z) QS),iO!,Tn! (Z/\Z) Z,LJ!,(SC Z R!),Go!,ZN! h Z,
Gp!,he! Z (EP X AB σ Q),T7!,Ah Z (Ah Z Z),Gq!,h0! th,iP!,Z G Sc sh Z,Gr!,FS k Ht! e,Gs!,Gl X x,
v8!,Heap.SameBut Z Go h',JRy,JRs Z Z Z Z Z Z hy! Z,LK!,(LP al),Zr!,∀H',XV->Z,T8!,(XQ G a),iQ!,DK G H!,
T9!,(by change G.AY<=FG!;show BW (AH _)),JRz,(λy h=>E8 Dk! h),Zs!,λx=>AA! x.2,Gt!,Pm p n,QF!,Cd p W,
Gu!,vs=[DF!,UV Z,h! r],LL!,EL 2 f fd Z (Z),iR!,(by change G.BF<Hd!;show GJ!),NQ!,(hs,os,rs),
QG!,XR++[(W!,ha,Bd!)],iS!,(KX!),LM!,S.2.1,DN?,by have⟨its,rv,p,hz⟩:=Z hq,iT!,b∉CV!,H9!,λx hx=>?_,
AE?,(by rcases ZI hz with hz|hz),NR!,G.hand++[(G.BQ,G.AY)],IA!,tb∈Mo!,Zt!,λH1 S1 OK=>?_,AF?,by have LW:vx!:=CV,
Zu!,AT XR! Z Z,Zv!,AT Fm! Z Z,IB!,Gv! Expr,QH!,EN! (Str×Value),IC!,EN! (K×tS!),ID!,AD h,UA!,CR! Rs,QI!,L! s6 Z,
IE!,GA! H',QJ!,Mk! As Z,JR0,GB! Ov!,QK!,Ac! e1,NS!,Ak! FG Z,IF!,Al! Z [Z,Z] Z,Zw!,Dm! (Z K H) Z Z,QL!,vW! H2 Z,
Zx!,Km! p Z,IG!,No->Ch,Zy!,(AV! Z:Key),IH!,α->V,iU!,TX! Z c,II!,va! C Z,v9!,PY! r Z,UB!,Ms! Z el,
Zz!,Str.length Z=1,QM!,GF K C Z,B3?,by show BG? (Z >>= _),NT!,(Am st),IJ!,EN! (Int×Int×HS),IK!,λq=>(TP!,xz PP),
AG?,by show d! (d! Z),JR1,JH.t (k:=tk tb) Z Z (Pa! Z),iV!,Ce! (Hf!->Z->Z->Z),JR2,(C1 hu WP Z),JR3,Mx! (hf! e),
IL!,(s,Cp!,S),JR4,(Ac (Cm hu WP Z Z A!) Z),Z0!,(EM hl t),IM!,BS H as ts,AH?,(by rw[Z] at e;cases e),
QN!,(g i j),IN!,vy! KT!,NU!,⟨Z,H,ZH!,BN!,q⟩,IO!,h3! Z (Q Av!),QO!,F9! M A Z Q E s,wA!,EM re ta,
IP!,GE (JS! _ (Cq! Z)),wB!,Do (AH 0) A!,wC!,F9! _ _ Z _ _ Z,QP!,Z mainGlobals mg,
B4?,by have⟨HQ,hq⟩:=(i.at S).ob,UC!,HS! H1 s1,JR5,⟨Z,0,0,h,o,l,Z,[],[],[],[]⟩,QQ!,[B7!,g0!,"n","turn"],
IQ!,(Cr Rs Af D4),Z1!,Tf! D_ g.TR.str CA Z,JR6,Tj! YI! "World.house" Ea Z Z,
wD!,(Z Z A! A! Z (λq hq t ht=>Z) Z Z Z).tk,UD!,(Ck (Bt 0) F6),NV!,(KR Z Es! Z e (λz=>nomatch z) h),QR!,D4! Z,
iW!,XN! Z,iX!,(r::p::L0),AL?,by rw[h4!],B5?,by have:=(L6! Z).2,JR7,Cf! (vz! Z Z),iY!,ut (Pp! Z),Z2!,Z::Kl!,
iZ!,ys=ER! Z Z AE!,QS!,let⟨dx,e⟩:=x.ob;Hr! Z,AM?,by have PM:=IW! nd,Jl!,Fy! ?_,Jm!,H!∉ts,
QT!,{ G with hand:=Hu! },BJ?,by have s1:=ET! Z Z,QU!,(Av G (HH! i)).AJ.filter,Jn!,W.ls.length<=2400,
QV!,by rw[<-Z,Z],Z3!,Z (Pe!),Jo!,AT OO! Z Z,QW!,Z (Ep! Z),Jp!,(pv 6),Jq!,IN C,Jr!,Ad b3,Z4!,KE e Z,
UE!,KE (Ad Z) Z,wE!,W.mroIn K Z Z=D! Z,ia!,PM! Z Bk Z,Js!,Dl!+1,ib!,CS! (Z Z Z AS!) Z,
wF!,CS! (.Call Z Z [] AS!) Z,QX!,Ac! et,Z5!,Al! Z DG! Z,JR8,JRe 1 Z Z,BK?,by show⟨_,Ac Z Z,?_⟩,
QY!,EQ! Z Z FB Z,QZ!,Sm ii,ic!,Ss! Z (q,Z),Qa!,(Au Bs Z Af PP!),Jt!,Hg! v,Z6!,FF! Z Z e,Qb!,Z=D! (k,Z),
id!,d! (ED! Z),Ju!,vs=[DF!],Z7!,AF! W.OJ.length+1,Jv!,Y8! JM!,Z8!,PX! z,UF!,vs=[DF!,Z,T! Z],
Jw!,Q_ K Z Z [Z,Z] Z Z,ie!,⟨Z,H,I,Z,q⟩,Z9!,Q (bv Z) H,wG!,(Sw! G),B6?,by show d! (S! Z),Qc!,AT mg Z (IN Z),
aA!,Ce! (DL!->Z),AN?,by show AQ?;show Z (B6 I q KB),wH!,(h.lt i!),wI!,Q (bn Z) H',aB!,2 ^ 62,UG!,[B7!,"h",DB!],
if!,Ef m W W' al xL ys EC H' Z Z,ig!,EO! BX! (λy=>xz AK!),wJ!,Cu (Ah!) n Z,AO?,by show Ct! JRv AO,
JR9,(SY! o m apos),Jx!,K.In Go,Jy!,X.A.units+1<cLine,ih!,A5! (CB! Z Z),UH!,Aj (Z Z) t,Jz!,Z K H' v Z,
J0!,v0! ys,Qd!,W.JC++[(n,xf)],J1!,⟨wP,wP⟩,JSA,JRw RZ.nd Z,Qe!,∀p,Tl! Kv! p Z,J2!,Told G hs os rs,
J3!,∀y∈sc.names,y.2≠OT!,UI!,(List.filter_sublist.map _).subset,ii!,(call (G2! Z) Z),ij!,(tC (V! 0)),
JSB,JRk (Ay! (Dn! Z)),JSC,Ey S4! A! Z (JRn Z Z) Z,ik!,⟨Z,sB,Z,b,Z⟩,J4!,Qo K mg Z Z,aC!,QG t Z+Hk t Z,
AP?,by have:=Gz! List.length Z,aD!,Qq K H Z (BR! Z),J5!,(.IQ o u),il!,JP t5! 0 lo,
im!,WI Z Z V Z m Z Z Z Z bl zs,J6!,KT H Db xs,UJ!,tt (JRh) Z (vi! (vh! JRh H4 Z) Z),
wK!,N (ys++[v]) (TT! H5 (ys++[v])),J7!,Y9! H' aa NF.map,Qf!,AT Z y OT!\/AT Z y Eq!,J8!,closureFor sc SL=BU! cl,
aE!,∀C s1 H1 fp AB,PE (MF X sc cl C Z s1 H1 fp AB) elt te,
aF!,∀C s1 H1 fp AB,cK (MF X sc cl C Z s1 H1 fp AB) ifs tt,aG!,BA x q st Z Z,
J9!,∀y∈sc.names,y.2=.local->Tk! AK!,KA!,∀y,(AT hd! y OT!\/AT hd! y Eq!)->∃c,AT cl.lookup y c,
KB!,TN! (Z Z g.T CQ! g.mWH Z (Z g)).mono,JSD,JRy Z [] Z CM! JRz CM! Z,KC!,∀v,foldedSetIterable iter SL v=BU! v,
JSE,⟨ww,A8! xf.sub,λex hx=>Dn! ⟨ww,Z,A!,Ab,xf,λH4 s4=>JRk (λt5 h5=>Dn! Z)⟩⟩,
JSF,hj! As (Ej (pl:=_) Rs Z Z (Z g) hr Z cW Z),LN!,OZ! Z,UK!,Sl! Z,LO!,KZ! Z Z,LP!,Cf! ?_,LQ!,[iH!],
wL!,∀GA H',Z GA H'->Z,LR!,Fs! ?_,aH!,t∈BF!,aI!,lc=G.BQ,AU?,by rw[ZH] at hx,UL!,H!=th,LS!,q.2.AY,LT!,i1++y'::i2,
wM!,rest.length+1,LU!,by rw[Z],LV!,by simp[BX],LW!,Gv! Ev!,LX!,(pv 7),UM!,(by size_fits),LY!,⟨Z,X!⟩,LZ!,IN x,
aJ!,(DR _),La!,CR! w!,UN!,L! RS.BE Z,UO!,L! Z Ab,aK!,le.2.2.1,aL!,ci db,Lb!,FS Z Z (OZ! Z),UP!,XX K H Z Z,
in!,Mk! Rs Z,wN!,Op Z (iG! Z e),io!,GB! Er!,Lc!,E8! l,UQ!,PN! L2.St,Ld!,Cq! Ab,BL?,by show⟨_,Ac (Bf Z) Z,?_⟩,
aM!,TN! AD,UR!,(D! (wp Z)),Le!,(Au Jt Z Z PP!),Lf!,CU! ?_,ip!,PQ! Z Z (Z++[Z]),US!,Ad! (a==sysModules),
Lg!,No->HS,UT!,(Z Z).trans Z,iq!,Mm! Z j Z,Lh!,(Be E3 Z Z),UU!,Ds! AX,Li!,Z (A0! e Z),wO!,Z (AG! Z)=D! (Z,Z),
UV!,d! (S! Z),aN!,AV! n,aO!,hf! o,ir!,Tc! hq,AV?,by show d! (d! Z),wP!,GJ H Z ZM! Z,is!,Te! iter,
UW!,by have:=Z;show w? Z Z;show this,UX!,hp! Ar!,Lj!,ZJ! u,AW?,by .show E? k,Lk!,DK DI! H!,Ll!,DK GE! H!,
UY!,⟨r,hr,Z⟩,aP!,(EA! I5! (S! h) (V! t)),aQ!,IE X (G2! Z) Z,aR!,(F4 DJ Z Z Z Z (CR! Z)),Lm!,[AA! c],UZ!,NP m l,
it!,F9! PW! A Z Z E Z,Ln!,PX Go d es ep,wQ!,(FB (k.map kV)),BM?,by show SC Z ih,Lo!,(by rw[ZH,Z];rfl),
AX?,by have⟨s,nu⟩:=Iq! hi,Lp!,al=a++Z::b,Ua!,v5! (GE Z),JSG,v7! Z DL!,
GU?,[p,C,Z,_,_,A!,Z,v!,Z,Z,_,A!,Z,_,A!,Z,?_],Ub!,G.holds++[(FD!,a,[])],
Lq!,y! (W.excIn K Z [JR0,GB! "Exception",GB! X9!,GB! "object"] uZ!),Lr!,(Eh Ae),Ls!,CS! o td,
JSH,JR1 Z Z (Za! Bz Z),JSI,(L8! AS! (Fn! es SL)),wR!,iA! H' s',Lt!,(Bp Bm! X.w),AY?,by have S1:=GS! s1,
Uc!,(VO dv),AZ?,by (have h:Z:=h7!),iu!,Mr! (xz Z) wp Z,aS!,λi=>as.getD i 0,Lu!,(Js p d),wS!,Fp p W ys W' Z Z,
JSJ,EA (A4!:=t8! "__next__") Z Z Z,wT!,(λv dv W' D' al' EC H2 tl ef wi fr fp eh=>?_),Lv!,∃z,AT cl.lookup y z,
JSK,T2×Addr×G!,wU!,(K w.params),Lw!,(SS! hc),Lx!,EN! (Ko!×tS!),Ud!,⟨z,hz,Z⟩,Ue!,KZ! (JX Z) Z,Ly!,CS! b tb,
wV!,a! x Z st,aT!,HT! (F8! Z Z FB Z) Z FB Z,wW!,Wg D m He! sh Z Z,iv!,∀b u,Pt!->Ig!->Kj! Z u,
wX!,EX P w H h a Z,Lz!,KQ M G,L0!,JR6 fH dH,iw!,Z (a:=Z) (o:=Z) (t':=Z) Z Z Z,aU!,∃z,AT cl.lookup Z z,
ix!,λzs H' pz=>⟨_,X!,A!,IP,pz⟩,Aa?,by have OU:DW 2 _:=Y3!,JSL,DP K C "is_near" "House.is_near" Kr Kn! Z Z,
L1!,Fn! (e::es) SL=JR3::Fn! es SL,Uf!,(Z b' o' e' LI),L2!,Al W V al bl ys zs,
JSM,FR Bm! X.w Kx X.mg Fl! Z k f fd ps sp,BN?,by have⟨z,tx,kq⟩:=wn (v:=v) ef wi fr fp,NW!,MW! Z,
Ad?,by .show As? Z,B7?,by rw[show Z from rfl],NX!,le.2.1,NY!,o.data=.dict es ep,NZ!,¬kind=Z,aV!,∀p∈X.pn++AB,Z,
DO?,(by by_cases IP:i<xs.length),wY!,xs.length-AB!,iy!,{ s with toks:=s.toks+1 },Na!,λe he=>?_,
Kp?,by have⟨z,hd,vs,rel,dd⟩:=Pg! Z,iz!,(SU dd).take,aW!,λj=>PU! FG j,Nb!,G7! ?_,JSN,(iO! Z Z Z).toList,
B8?,(by rcases ZM hb with rfl|hb),Nc!,Ex! ?_,B9?,by have ht:t∈Z:=ht,Ae?,(by rcases Ty! with ht|ht),Nd!,tb∈wA!,
aX!,(IM (L.take i)).flatMap,Af?,by have s3:=ET! Z Z,aY!,W.ls++iK!,Ne!,l.kind=E4!,Nf!,d<900,
i0!,y.fi++[(s,Cp!,S)],DP?,by show T?;show Z,aZ!,IN y,aa!,h! pw,Ng!,(AN _),JSO,CR! (JSD Z Z Z),Nh!,⟨σ,Z,Z,Z⟩,
Ni!,Kj! Z ob,ab!,(FC.mpr A!),ac!,KE Z (Z Z),ad!,PM! Z Dl Z,ae!,o! iL!,Nj!,HV! F!,i1!,AE d.symm,
Nk!,HH K fz! Z Z Z Z,Nl!,A1! l,af!,(Ac (JSC Z Z Z Z) Z),Nm!,AC! CT,ag!,HZ! A! Z Z,Nn!,AV _ _,ah!,by rw[Z];simp,
No!,No->JH!,Np!,AT! (Z).map,JSP,by show DI? 4;decide,Nq!,bv (n==Z),Nr!,hW! 3 Z Z Z,ai!,PS! (pv 0),
i2!,Ss! Z HY!,Ag?,by show ZR (Z Z ?_),aj!,hX! Z .fields Z,Ns!,Bu p W',ak!,CB! A! Z,i3!,(OZ! hb),
Nt!,X.N[i]?=D! x,JSQ,Y2! WP Z Z Z Z Z (CR! Z),al!,hb! Pz!,am!,HY K H Z (Z Z),CA?,by show Ac? (JR8 Z Z) Z,
an!,FH! (O2! Z),ao!,he! Z (Z),JSR,(Z++[Tz!]),ap!,Hk! H' Z,aq!,Hl! us,Nu!,Du! Bt!,ar!,[B7!,"h","g","b"],
as!,(.IQ ob (Z Z)),Nv!,λq=>(TP!,hV!),Nw!,TY! vs,JSS,Y2! Rs Z Z Z Z Z (CR! EQ),Nx!,Pd! (z! Z p Z) Z,
i4!,Bs! 1 Z Z Kn! Z,i5!,(Fo! x p),Ny!,Ti! Z FB Z,at!,λq=>(TP!,PP),Nz!,λq=>! iQ!,N0!,To! vu!,
wZ!,Pn! (.ins Z dx Z),au!,ve! Bm T.len Z,wa!,RW m W W' al xL ys EC H' Z Z,N1!,AG.mpr ⟨Z,Z⟩,
i6!,(EA! I.cs (S! h) (V! t)),av!,Cj _ ZV,N2!,Km! a o,N3!,JRr (Fo! x px),N4!,BO g0,Kq?,by show DJ? BT! Z,
Ah?,(by show AC?;cases h),JST,Z Z H (λ_ H'=>Pi!) E,GV?,by show d! ⟨Z,λx H3 y=>?_⟩,
N5!,W.mroIn K Z (BR! "object")=D! q!,wb!,G.AJ++[(FD!,PR!)],i7!,P9++(Q++R),i8!,AU! (D4! d==Value.none),
i9!,ME! Z Z (D! Z),Ai?,by show DF λq _=>?_,aw!,Z _ _ _ _ Z,ax!,JRt Cr!,ay!,(λy h=>RB BN! h),
DQ?,by show B1? Z ?_,az!,Qk G ts,Aj?,[_,_,_],wc!,iJ! Cu!,JSU,h2 (by rw[Z];simp[BX]),jA!,ZI! (AF z1 hn),
CB?,by show C? (ZI h),wd!,Ai! (Z z (AH! hz)),N6!,PA X ZD! t,N7!,MM! .w,a0!,D1 BC!,CC?,by change wC! Z _,
JSV,JR7 Z (L! Z e),N8!,Xk! 1<cLine,jB!,AF! (EA! Z (S! s) (V! Cp!)).length,N9!,[(Aw!,1)],jC!,(Cj! i 0),
a1!,λq=>AA! H!,a2!,(Z (XL! (Z))),we!,(by rw[<-Z];show ES! Z),CD?,[R? Z,_,Z,_,A!],jD!,AD (ZW! d),
OA!,Oi! K (IN ww) (IN Z)=D! (n==Z),a3!,gk p W H x,OB!,Nm W i,a4!,FF! kq.BE QD.BE Z,OC!,Wl C m He! sh Z Z,
OD!,TJ m qs ls al n fi se,Kr?,by show⟨x.step hi Z Z st (Z hi (Z) (Yi! Z)),st⟩,a5!,(λt h=>M7!),
JSW,{ cls:=GB! B4!,dict:=none,data:=.seq ([]:k!).toArray },JSX,∀ys H2,Pv Z ys H2->Dv!,Ak?,by have z3:=x.PU hB,
OE!,(O3 ry),OF!,(eval Z env),OG!,[(B7!,0)],OH!,(λz=>by rw[z,Z] at e;cases e),a6!,⟨AL!,Mb!,l.x,Sc,sh⟩,
OI!,W.findIn K (IN Z) SZ!=D! (hi! Xj!),JSY,JP t5! t5! hi,jE!,C_ hz A! (x:=Z) A! Z,
Al?,by show At? (by change ¬E7! Z=Ch!;show AI?),OJ!,SD qs ls Z,Am?,by show g?;show AJ! e' ZV,
CE?,[BI? p Z Z _ _],a7!,λq=>(tk (k q),f q),wf!,GJ.t (k:=tk th) Z ht,
JSZ,(Ag (Bc (PV! GF!) (Ag (JSA (JSF F7! Z Z Z Z))) Z)),wg!,hd ys H2 pv,jF!,(if Z then _ else _),
wh!,(λzs H'=>∃m',m'<Z/\(m'=Z/\Z/\Pv (Aj!) zs H')),a8!,(qs.set l.th.1.toNat (q,iP! Fg Z)),jG!,Jq X AB H Z,
JSa,DP K C "need_in_hand" "House.need_in_hand" Hf Kn! Z Z,
DR?,by show S? (λi m ys H=>m=Z/\Z/\Pv i ys H) ⟨Z,sK,Bu!,h0⟩,OK!,F8! H3 fa Bk Pw!,wi!,(Dc n f c),
jH!,hl i ys H2 hi pv,OL!,Pv 0 [] (hk! []),CF?,by have GH:Bs! 1 fH dH GD! Dy:=Dt MH.fn T TW,
An?,by show DK? HQ IW HQ IW,JSb,DP K CP "put" "Post.put" Mw hx! Z Z,a9!,JRu wE MH.mt GH MH.bd,
DS?,by show⟨p,_,_,_,W,A!,Az!,Z⟩,OM!,(A7 Ee Dk! g.T.VL CK (hj! Rs (Gp (v:=h! Z) Dk! Z A!))),Qg!,XO! Z,
wj!,([]:Z).length,wk!,(λ_ _ _=>rfl),jI!,(hb! Z),Qh!,(Pe!),Qi!,v=Br!,Qj!,λ_=>D8! q!,Qk!,b∈CV!,Ql!,(Z,[true]),
Qm!,x=My!,jJ!,[HK!],wl!,∀i σ H,Z->Pv i σ H->Z,Av?,(by by_cases e:g!=k),Ks?,by have⟨z,hd,xs,rel,dd⟩:=Pg! Z,
wm!,(S5! (·.1)).take,Qn!,λm=>?_,Aw?,by have⟨u,rfl,rx⟩:=vals1 r,JSc,Ox! (∀t∈BF!,Z),Qo!,tb.1=G.BQ,
Qp!,G.AK.length<=500,Qq!,λ(q:T2×Addr×List T2)=>(TP!,hV!),Qr!,λt ht e=>?_,Qs!,xs.length+1,Qt!,G.AJ.length<=500,
DT?,by have⟨r,hr,e⟩:=ZN Z,Ax?,(by by_cases d:t=l.th),Qu!,λl h=>M4!,Qv!,fi++[(s,Cp!,S)],jK!,y.fi.length+1,
Qw!,y.se.length+1,Qx!,le.2.2.2,Qy!,by grind,Qz!,h! x,Q0!,EN! JSK,Q1!,U! (ZA! Z) Z,Ay?,by show Z (TW! Z ?_),
Q2!,ci se.map,bA!,F8! H1 Z Z Z,Q3!,NE s1 Z,Q4!,[B7!,DA!],Q5!,[B7!,MV!],wn!,HS! (Km! Z Z) Z,Q6!,GE A!,Q7!,ED! e,
jL!,vU! s',Q8!,A7! a,Q9!,A0! Z z,jM!,PO! Z wv Z,wo!,Ak! Ar! Z,wp!,Ba! (qs[j]?),wq!,FA! Z OT!,RA!,ZN hy,
RB!,JG! k!,RC!,BC _ _,RD!,AD! rel,RE!,FG le.1,RF!,No->F!,RG!,Bc! h,DU?,[Aq? dx],RH!,Oi! K (IN NH) (IN Z)=D! am,
RI!,Oi! K (IN NJ) (IN Z)=D! am,RJ!,Oi! K (IN OM) (IN Z)=D! am,RK!,Oi! K (IN MI) (IN Z)=D! am,
RL!,Oi! K (IN NW) (IN Z)=D! am,RM!,Oi! K (IN NL) (IN Z)=D! am,jN!,(model P w),RN!,[B7!,"h","b"],
RO!,(by show DI? Z;decide),jO!,[B7!,"b",Ez!],jP!,GH! Z ZF,jQ!,JY! Z=[],jR!,[(Dl!,t)],RP!,JQ p W H H1,
wr!,Kj! OO! u,JSd,(Bo DI! rs),JSe,(Bo GE! rs),RQ!,ZA! iV,RR!,Tc! hr,jS!,Pd! H2 Z,
JSf,Ks! Z (FS kE Z (.no _ q G Z hi Z A! A! A!)),RS!,i.at S,ws!,Ce! (GA! Z->Z),RT!,(G8 st),
RU!,EN! (Int×Addr×HS),wt!,(Fo! x AS!),RV!,CS! o ta,RW!,Ph! JRm,RX!,R6 dd,RY!,(ZR ?_),jT!,Q (V! Z) H',
jU!,[B7!,"h","tick"],DV?,by change G.AK.length+_<=_,jV!,Hx! { W with qs:=Z,c:=Z,ls:=Z },jW!,ve! Bm g.T.len Z,
RZ!,hu! F0,Ra!,(Df (pv Z)),Rb!,ZO! ta Z,jX!,(Ap (pv 2)),wu!,(TP!,xz PP),Rc!,0<PP,DW?,by show DJ! (AH! h),
JSg,(Dg _ _ _).2.2 t ht,jY!,Rep K H v Z,Rd!,ZV! (AA Z hn),Re!,IE X (BR! Z) Z,Rf!,DW k A,Rg!,l[i]?=D! q,
Az?,(by rw[Z] at h;cases h),Rh!,ZY! Z hb,Ri!,PM! a Af! Db,Rj!,W.mroIn K Z (BR! X9!)=D! q!,Rk!,G.AJ++[(FD!,0)],
bB!,(x::y0::Cg be),Rl!,(.IQ o (Af! Db)),Rm!,(.IQ o (wv Db)),wv!,.fields vs,DX?,by cases Z;show P? Z,
A0?,by have e:b=it:=by simpa using hb,jZ!,k it KB Z Z,Rn!,PY! l xs,Ro!,HX! (.BK (Z CK!)) Z,Rp!,V->C!->ZG!,
ja!,Zr! (wI! Z),JSh,∀h',Z->Z->ZT! (),jb!,PI X tg l Z,Rq!,vw! (BX G') CV!,A1?,by have RS:=MY! S JF,Rr!,LP al,
Rs!,wT (ci (backTo pos (starEach es X.env)).any),jc!,Ce (HD! Z) Z,ww!,(by show Z Dr!),
A2?,by show FO (hl AB s σ H _ I h) ?_,wx!,Z (hX! Er! .seq Z),Rt!,Z i q G hi Z Z Z,Ru!,Binds Kx fd ps ds,
wy!,(v1! Z scope Z),Rv!,(IY.mp ht).1,wz!,Nw W W' HF! Z,JSi,I1.kept (t':=s1.toks) Z,Rw!,wE! Z (IN HE) q!,
JSj,JSJ Z Z (DA Z Z Z ?_ (Z _)),Rx!,JSM CX,Ry!,λkv=>Aa! (kv.1=k),A3?,by have⟨q,G,hi,i⟩:=gB ok,Rz!,Led L t,
R0!,Ok Z (n+1),R1!,λq=>(([q.1.1,q.1.2]:At),PP),DY?,(by rw[Z] at e2;cases e2),JSk,CU! (Pq! ht),
jd!,(Bb Z Z A! Z Z Z R! Bi Z),R2!,by show AN _,Kt?,by show GT? (i=xs.length) ⟨xs,Z,Ao!⟩ Z,
w0!,∀b u,Z->Kj! XR! u,je!,[B7!,"b",Ez!,"mine"],GW?,[Z,_,Z,_,A!,A!,Z,A!,Z,_,Z,Z,Z,A!,Z,Z,?_],
Ku?,by change B3! (y! (MJ (AE! Z) Z)) _ _,JSl,(x6 / 3 % (Bt!+2),x6 / 40 % 30),A4?,(by rcases ZI hu with hu|hu),
A5?,by have⟨s,nu⟩:=HP! i q G hi,A6?,by show Ng λds z=>hv!,jf!,[B7!,g0!,"n"],jg!,Mk! w! EQ,jh!,(V! i t),
DZ?,(by rw[Z] at hx;cases hx),R3!,Gw! UA ds,ji!,[B7!,"h","tick","state"],A7?,by have⟨s,nu⟩:=I9! SZ,
jj!,(Az EG! (V! 0) (Az EF! (V! 0) (TO! DA! n))),R4!,W.findIn K (IN Z) ud!=D! (hi! So!),R5!,∃t,u=XK! i t,
jk!,Bb! (Ak! I1! Zs!),w1!,Z->vr!->(∀ys H,Pv (Aj!) ys H->N ys H)->Z,bC!,(x::y0::y1::y2::y3::Cg be),
jl!,EL 3 f fd Z (Z),R6!,Qp p W ys H H',JSm,Ta! (ZR! H d Z) (Au! d _ Z),JSn,OO (QF re) Z wG! [] R,
jm!,BindsTo s fd Z Z,R7!,JSL f1 gT,w2!,EA! Z (Am! s) (IN xs),R8!,Oi! K (IN Z) (BR! Ov!)=D! q!,
R9!,WI H' p W' D' m n' d' A' B' xL EC,SA!,Jp CX X E,SB!,XJ Kx C,A8?,by have VM:DW 3 _:=Y3!,
jn!,(EA! I.ss (S! h) v),SC!,(Ac (Bf Z) (Ag Z)),jo!,(EA! Db k v),w3!,(ls++(Bo Z rs).map (Iy sB)),
jp!,((Yx W h/\JL! NH)\/HK λq G=>CX!/\Z),SD!,XH dd dv z,JSo,⟨xs,xs[i],Z,by simp[IP]⟩,
SE!,[xz n,AE! kd,wp h,xz g],SF!,By (i:=Z) hN A! (Am! Z) (Bc! Z),
w4!,[Fo! x px,Fo! y0 aV,Fo! y1 jX,Fo! y2 jW,Fo! y3 jV],jq!,⟨Z,I.os,SL!,I.base,I.loc,OY!,KF!,I.LC,Z,Au!,I.len⟩,
GX?,[q,G,i,q,a,b,G,ta,tb,A!,i.at Az!,ea,eb,Z],BO?,by show AI?,Ug!,CL! Z,Uh!,(vs++UA),Ui!,Gz! Z Z,
Uj!,(Bg l t v).map,w5!,wW! Z Z/\Z,Uk!,wT (Aa! Z),w6!,B3! (u=1) Z Z,w7!,(l.map Z).Nodup,Ul!,x≠"__name__",
BP?,by show N? ZA,Um!,λe=>?_,Un!,x=JU!,Uo!,y=B9!,Up!,L9! (Z σ H Z),Uq!,[xz T4!],JSp,∀vs H Q E,Hc! sp vs->Z,
Ur!,λv hv=>?_,JSq,(as.map Value.ref).getD,Us!,G7! (Z u Z),Ut!,show Z by simp,Uu!,λb o e _=>Jb! Z,
BQ?,by have s3:=hn! .BK Z,GY?,(by rcases k with k|⟨q,G,i,k⟩),GZ?,by generalize Ti! Z Z Z=H1 at s1 e1,
Uv!,z.2.AY,w8!,λb' o' e' LI=>?_,Uw!,wt / 2,Ux!,Aj AO! Sc+l.x,Uy!,σ[i]?=D! Z,Uz!,Z=D! as,BR?,by .show z?,
U0!,AT H2 Z Z,w9!,Gv! Keyword,U1!,(by simpa using h),U2!,⟨JSP,Z⟩,xA!,⟨Z,U! Z Z⟩,U3!,IN Dd,xB!,AF! gj!,
xC!,tR!/\Z/\Z,U4!,EN! (Int×Int),U5!,EN! (Str×FL!),U6!,⟨Z,λi H x H'=>H'=H/\Z,Z⟩,U7!,Z Z (V! Z) (Z Z),
xD!,AP! Z Ev!,U8!,L! s2 Z,U9!,L! sm Z,VA!,L! PR Z,xE!,KE z Z,VB!,FS Z Z (Z _ _ Z Z),VC!,PM! Z Fc Z,
xF!,Mk! EQ Z,xG!,Mk! BO! Z,JSr,A8! wP,VD!,Yy! wQ!,VE!,HV! V,VF!,PN! It,VG!,EP! H1,VH!,E9! (HV! DY!),
VI!,TL! GF!,JSs,TL! BO!,VJ!,FA! X.mg Z,VK!,A1! x,VL!,JF! A6! Z,VM!,JF! Aw! Z,VN!,JF! DA! Z,VO!,JF! EF! Z,
VP!,JF! EG! Z,VQ!,JF! Cl! Z,VR!,JF! DB! Z,xH!,(Au (Z (jE hr)) Z Z PP!),VS!,JG! DD,VT!,(λz=>?_),
VU!,Dn! (VL Z Z Z),VV!,HX! (.BK Z) Z,VW!,inClass (AZ! 27) Z,VX!,DP K CW Z Z Z Th! Z Z,VY!,Gw! (Z Z) (Z Z),
BS?,by show Cv?;rfl,VZ!,α->A3!,Va!,FE! H1,Vb!,CA! X3! Z Z,BT?,by show P? q,Vc!,Z D σ H,Vd!,Ds! ZF,
xI!,S! (A0! Z Z),xJ!,ha! (GA! Z) Z Z,Ve!,(Bc Z Eb A5),xK!,hb! (t∉R),xL!,NA W g q G,Ga?,by .show B4?;show Z,
xM!,Kq! e,xN!,([]:G!),Vf!,EV! "len",Gb?,by show AQ?;show Z (B6 I q Z),Vg!,va! CW Z,Vh!,va! Z "__getattr__",
Vi!,Y8! DH!,Vj!,(YG i),Vk!,FS k (Bc! Z) Z,Vl!,Pv 0 σ H,Vm!,z! Z Z (hT! Z),BU?,by show f? ?_,Vn!,L! s e,
Vo!,Kr! DB.mp,Vp!,(by rw[Z];simp),xO!,GM! Z A!,xP!,vc! Z Z Z Z HJ Z Z,Vq!,HH! i,Vr!,Mu! ?_,
xQ!,Z (λz=>Aa! (z.1=H!)),Vs!,GF K CW Z,Vt!,GQ! DG! Z,Vu!,f8! (IN Z) Z,Vv!,JP! NF.map,BV?,by show O? ZS ?_,
Vw!,by show Z Dr!,BW?,by (have e:Z:=by simpa using hb),JSt,TW! ho ?_,JSu,TW! he ?_,jr!,hq! (hq! Z),
xR!,Kw! (Hy! Z Z),xS!,FS f Z (OZ! Z),Vx!,ht! 3 Z Z,JSv,(wM!+1),Vy!,(D! v),BX?,by show d! (S! Z),JSw,JRq y.I.fs,
JSx,JRq y.I.cs,Vz!,KP T8!,xT!,EO! BX! (λz=>xz z.1),V0!,DW k X.A,JSy,JRr (SR! Z kt pt),V1!,Pv! Z Z (Hb! Z),
V2!,y! (MJ (bn Z) QS),V3!,y! (MJ (bn Z) ak),V4!,CS! e te,V5!,Hc! Z [DF!,DH!],V6!,(Bg AO! tb _),V7!,DC K Z a xs,
xU!,Addr×Addr×Addr×Addr×Z,xV!,FO (v2! Z) Z,BY?,by show AA Z TD,V8!,Jb fi h,V9!,Ok DI! n,WA!,l1++(n,t)::l2,
WB!,Zg! (ii! Z Z),xW!,h6! ⟨Z,Z⟩,xX!,(sb.2 b hb).trans e,WC!,P7! [Z] Z Z,BZ?,by show DM? h,js!,(Ce Db k),
bD!,(Dx Db k),WD!,iE! vs,JSz,{ G with holds:=MZ re Z Z },JS0,{ G with holds:=JU re Z Z },JS1,T2! G'.AJ.map Z,
WE!,UB X (SO! Z) Z,WF!,UB X (binaryOp Z) Z,WG!,(XX! (ZG _)),xY!,(tj! (ZG _)),WH!,PM! a wv Db,WI!,JRx w! Z,
WJ!,v8! d,xZ!,! Aa! (CD!=Hh Z W!),WK!,_++(JSN Z Z Z++Z),bE!,(ZU _ A!),xa!,(BX! Bl!).map,WL!,Fo G R,
WM!,λq=>(H!,BF!),xb!,FA! H' ig!,xc!,Zw! Z xs Z,JS2,Zy! W!,WN!,ha! Hf! Z H',bF!,(Iv G ta tb),xd!,Ci (Ah!) n Z,
xe!,FK! ty (λy H2=>Z),WO!,XJ K C,xf!,(([lc,AX!]:At).take i).map,WP!,JR2 w!,WQ!,JR4 w! Z Z,xg!,AllBare s'.gens,
JS3,iZ! (Z i).map Z,Ba?,by show XY! hq,WR!,DP K CD Z Z Z h1! Z Z,xh!,E8! (Bg AO! Z Z),xi!,Y2! Z v! Z Z hr Z Z,
xj!,GX 3 Z Z GD! Z,WS!,ie! Z A!,WT!,Up lt p Z,xk!,I1.UQ (ZG _) Z,WU!,vL! C9,
Gc?,by have S1:Hk! (PO! Z Bk Z) Z:=Z,xl!,wN! h1 Z,JS4,(NB!++iX!),WV!,wP! d Z,WW!,PQ P w Z Z,WX!,wV! qual,
JS5,W.fnOf Z qual Z Z Z Z kV doc pm an EO ct,Bb?,by show Kp? Pe,WY!,W.ls=l1++(BQ,t)::l2,WZ!,CS! l tl,
xm!,EQ! Z Z Af! [],Wa!,Gw! xs As!,JS6,JSQ Z Z Z Z Z ZF!,JS7,JSS wE Z Z Z Z,Bc?,(by cases (f1! (u=ZE!))),
Wb!,BS H' as ts,Wc!,YK Z it d i n ep,Wd!,wS! EC H,Kv?,by show Kr? Z iC! Z Z Z,JS8,∀i ys H2,fw!->vr!->Z,
We!,JSX Eu!,xn!,(MF X sc cl KH! Z s1 H1 fp AB),xo!,d.canLay0=true/\d.depth<=Z,Wf!,λ_ _ _ _ _ st h=>Z st h,
xp!,kq _ M9!,xq!,CS! (.Call (SY! o Z apos) Z [] IX) Z,JS9,(Z (ED! Z) (hw! Z Z)),Wg!,(AA EU! cB),
JTA,Z Z m He! sh (Y6! Z) ls,Bd?,by show(show False from r).elim,Be?,by rw[ZA,ZA,CM],xr!,DW k (A.deeper Z),
jt!,(mh X AB E),JTB,Mc! hi Z A! Z (λt _=>?_) Z,Wh!,W.Looks PW! hh Z Z,Wi!,M_ H x dd,
xs!,Cz (pl:=_) Z Z Z Z Z Z R! A9,Wj!,Bd x q st Z,xt!,⟨Z,H,I1,Z,Z,RV,iY! hf⟩,Wk!,⟨hp,g,d,tk,os⟩,Wl!,Z (t:=t) Z,
Wm!,JSY-il!,xu!,∀σ H,Pv Z σ H->Pm! H,Bf?,(by rcases ZI hq with hq|hq),Wn!,{ s2 with heap:=s2.heap.push JSW },
Wo!,AN! (Zb! hq),Bg?,(by rcases ZI hb with hb|hb),Bh?,(by rcases ZI hr with hr|hr),Wp!,λe'=>JSU e',
Wq!,Aj BL! b+sh,Wr!,B<=B'+1,Ws!,A'<=A-1,Bi?,by have⟨_,rfl,rfl⟩:=jY pa,Gd?,[KH!,[s1.heap.objs.size]],
xv!,(Xm! us),Kw?,by (have kq:DH Z Z:=FN! Z),Wt!,((by intro z;cases z)),Wu!,Ss! i HY!,xw!,HK (Oa! (wR!/\Z)),
Wv!,AJ! A! h,xx!,F9! (model B2! w) A Z Z E s,xy!,Hc! Z [DF!,DH!,Br!,B9!],Ww!,(B0 l u),Wx!,Z b Z b Z A!,
Bj?,(by cases (show u=D4! b from ry)),Wy!,Ig Z a b Z,Wz!,Hz! (HY K H) Z Z Z,W0!,vv! l1 a,W1!,vv! l2 b,
W2!,F9! PW! A Z (Z) (KG!) Z,W3!,aW G tb HV,JTC,iF! (GT! bD PR Z),xz!,(Z Z G.AY (Hd!)),W4!,ID H p I,
JTD,(UG (gq K) (Bt Z) ij!),W5!,λh' eb=>A8! (I.turned (t':=C7!) (Tq! (Mv! eb hb)) f0 f1 f3 f4 f5),
JTE,Mr! (Jb I6! h) cf h,W6!,Mv p W ys W' EC H Z,x0!,(fn! (Bp P w)),W7!,JSa f2 gR,W8!,JSb f3 d3,
W9!,(z! H5 d Zf!),x1!,g Z σ H λSO H2=>tb { D with nx:=Pv (Aj!),ct:=Pv (Aj!),bk:=D.nx } SO H2,
XA!,(EA! (Z Z) (tk FD!) Z),Ge?,[Z,_,A!,Z,Z,_,A!,Z,b,Z,tb,A!,Z,Z,_,A!,?_],
Gf?,(by rcases hk with hk|hk<;>cases hk),XB!,wT (behindInMarks op b),
Kx?,by have⟨W1,JF⟩:=S.step SZ S1 OK (ut Z),Bk?,by have lk:=x.UP hi RT,XC!,TE->TE->TE,
JTF,(.ins CP dx (Ff (c+1) d)),x2!,AD (by show JA (BM Z)),XD!,(ne e (λ_ z=>hv!) Z),
JTG,DP K C "need_near" "House.need_near" Kq Kn! Z Z,XE!,T7! s1 s2 s3,x3!,F9! (model Bm! X.w) X.A Z Q E s,
Ky?,[Aq? CD,dx,_,_,A!,hp,Z,Z,Dq],
XF!,(Z i H/\Pm! H)\/(Z i H/\∃N:Z,(wL! N (∃m',m'<m/\W AB! m' GA H'))/\∀x H',Z i H x H'->g x σ H' λSO H2=>tb { D with nx:=N,ct:=N,bk:=D.nx } SO H2),
x4!,#[V! lo t,V! hi u,V! 1 v],Gg?,[a?,dx,_,A!,hp,Hq!,_,A!,p,Z,Z,A!,Z,?_],x5!,Mw! Z (Ie A! A! Z Jj),
XG!,⟨wP,Z,⟨Z,Z,Z,q3,q4,Z,Z,Fq Z⟩,Z,Z,Z,Z,Z,Z,Z,Z,Z⟩,XH!,PY cmp lt n s,JTH,im! Z r E n1 d1 A1 B1,
Gh?,by show Z p pw r V Z A! S1 er Z,XI!,Turn P w K tg Z [it] it (λi h=>Z),
Gi?,[A!,p,dx,_,A!,hp,Be!,_,A!,p,Z,G,Z,A!,S,Z,?_],
JTI,⟨ok.mod,ok.kind,ok.glob,ok.blt,ok.above,ok.inj,ok.has,ok.e_,Z,ok.frames,ok.fe,ok.YY,ok.bs,ok.ag,ok.VQ,ok.UR,ok.OY,ok.cE⟩,
bG!,Z Ic!,bH!,W i m σ H -> Z,bI!,(λ_ _=>rfl),bJ!,(if Z then Z else Z),bK!,(λ_=>False),JTJ,(sw),bL!,(QG!),
JTK,(iv! Z),bM!,Da! Z Z,bN!,(Bg BL! tb v).map,bO!,I!->Z,bP!,l.kind≠EJ!->Z,CG?,by show C? h,bQ!,Z=Bb! Z,
bR!,Z=Cx!,JTL,λq=>v4! Z,bS!,(x::Cg caps).Nodup,bT!,λ_=>0,CH?,(by by_cases hb:b=a),
CI?,(by rcases hc with rfl|hc),bU!,b∈QF!,CJ?,by show N? e,bV!,λi j=>JR! Z,bW!,y=T! j,bX!,o.cls=io!,bY!,[Co!],
bZ!,[Kp! Dl!],ba!,[.n h],JTM,D7! M1!,bb!,D7! (Jq X AB Z b),CK?,by have⟨u,rfl,t,rfl⟩:=vals1 r,
CL?,by have hl:=AD! Z,bc!,(rel.val k).getD,JTN,[FG n,kd,FG h,FG g].take,CM?,by have⟨z,its,n,r,hl,e⟩:=I.XZ hH,
bd!,#[JO!],be!,Ia! ?_,bf!,z.length<=9,bg!,a++[t],CN?,by have I3:HS! Z Z:=Z,CO?,by show D? (t=b),bh!,λk hk=>?_,
bi!,k q≠t,bj!,ta.1≠G.BQ,bk!,G.hand.length<=500,bl!,{ G with BF:=Hd!,AK:=Z },bm!,Tw!-wt,bn!,∀z∈Ah!,Z,
bo!,Aj BL! Sc-l.x,bp!,∀(j:Nat)(q:Addr)(G:CN),Ba! (qs[j]?)->Z,CP?,(by rcases JSg with h|h),bq!,Ru AO! tb+x,
br!,W.qs.length<=12,bs!,{ W with GQ:=EL! },bt!,W.ls=[],bu!,Ah!++new,bv!,by simpa using e,bw!,Gv! J!,
bx!,Gv! FX.Arg,by!,Z (Z Bl!),bz!,by have:=Z;show Z,b0!,⟨#[],Z⟩,JTO,EN! (Addr×C!),b1!,U! e Z,b2!,K.In h,
b3!,CR! GF!,b4!,Ab! H2 Z,b5!,[B7!,"row"],b6!,AJ! Z (Z Z),b7!,HT! H2 Z Z Z,b8!,Ix u,b9!,KE AM Z,cA!,KE BG Z,
cB!,(Cm! Z).1,cC!,o! z,cD!,Mk! Af Z,cE!,A7! r,JTP,Op Z x.dO,JTQ,Op Z x.dr,cF!,UV x,cG!,by rw[e];rfl,
cH!,Ak! Kf! Z,cI!,Ak! Z i,cJ!,Cq! S.hs,cK!,TL! (pv 8),cL!,Al! Z Hh! Z,JTR,TM! JSl,cM!,Ba! (W.qs[i]?),
cN!,GC! Uf Z,cO!,GC! Z (Km! Z Z),cP!,A1! d,cQ!,A1! ex,cR!,a! fz! Z Z,cS!,hd σ H Z,cT!,JF! O1! Z,cU!,vW! H1 Z,
cV!,Dn! ?_,cW!,inClass (AZ! 20) Z,cX!,by rw[Z];decide,cY!,Ad! (d==sysModules),cZ!,Ha! Fm! Z,
JTS,Y2! WP Z Z Z Z Z Z,ca!,No->A3!,cb!,(NG++bs).map,cc!,(wb!).map,cd!,AT! db,ce!,AT! KT!,cf!,Bc! (Tx! Z),
cg!,ER! At! Z Z,JTT,hW! Z Z Z (Ac Z Z),ch!,Ml! a Z,ci!,Et! hq,cj!,0<=AY!,ck!,Dq! ZA Z Z,cl!,(Be E3 Z Af),
cm!,TR! t,cn!,DK! m,co!,GG! ht,cp!,G.holds.find? (AG! Z),JTU,(by show DI? 4;decide),cq!,GH! ZE Z,cr!,GH! CY Z,
cs!,A9! (Z (Ep! Z)),ct!,A9! (iB! Xc!),JTV,TW! Z (λv s1 ⟨x,H1,I1,r1,q1⟩=>Z),cu!,QZ t l+Ct t Z,cv!,Kq! Cu!,
cw!,PV! w!,cx!,vs=[Br!],JTW,(x.at_ y hy).has hb,cy!,Y8! Hv!,cz!,hg! hd! Z,c0!,Mp! e2,c1!,EW! e,c2!,ZA! lK,
JTX,hi! tq!,c3!,Pb! Z Ij,JTY,JRj M6!,JTZ,Mu! Ts!,c4!,EX Bm! X.w Z h' Z Z,c5!,BS H cs Z,c6!,Ce Db k=D! v,
c7!,GR! o,c8!,GR! ZZ!,c9!,JP! Ar!,dA!,AA (AC! BC) Z,dB!,LB a b,dC!,GV H p pw V,dD!,(l+r) / 2,JTa,vg! s2,
CQ?,by show As? Jc!,dE!,Pj! If! Z,dF!,JV! o,dG!,Tm! I2.EI.fresh,dH!,ZJ! 2,dI!,DZ K H p xs,dJ!,(MK! B4! #[] Z),
dK!,(MK! B4! (as.map Value.ref).toArray Z),dL!,(ZS ?_),JTb,by show B5? Z;show Y?,JTc,ZO! td Z,dM!,ZS! (F' e),
JTd,vs! Z Z (Bh (Zc! Z)),dN!,(g,Cp!,S),dO!,OP! Go Z Z,dP!,X.A.units+64<cLine,dQ!,Py! t,dR!,k _ s1,dS!,CS! e ty,
CR?,by show BH? Z GF! Z,dT!,PM! d Af! Db,dU!,Zd! (Am! Z),dV!,(Cm! nd).2.2,dW!,Kp p Z HB,dX!,Kp p Z (z! Z p Z),
dY!,(λy h=>FX.RB BN! h),dZ!,Zi! h1.trans,Kz?,by show B2? (Dt!-Z+Ct t Z),da!,AT (Fe W).lookup (E7! Z) (IN Z),
JTe,QB! (c≠b),db!,QC! Z ex,CS?,by show⟨Z,Z,A!,Z,CY! Z,Z,Z⟩,
CT?,by have e:b=s1.heap.objs.size:=by simpa using hb,dc!,k Z KB _ Z,dd!,QD! (Z),ju!,(Ss! j HY!),de!,V->V->ZG!,
JTf,(Z (·.1)).Perm (rg m),df!,(λq=>hb (by simp[q])),dg!,Ad (ne Z),dh!,Cj! i 0,di!,keepR G R,dj!,ha! Z Hf! H',
dk!,(J7 G ta tb),dl!,UB! s1,JTg,Mw! Z (Ap (Bh (vs! Z Z Z))),dm!,vo! Rs v! Z Z Z Z,JTh,h9! Ci Z n 2,JTi,Z3! D4!,
dn!,DK DI! t,do!,DK GE! t,JTj,Z4! Xi!,dp!,Ri G tb,dq!,Rj G tb,dr!,Z5! DG! Z,ds!,Yz! H' x Z,JTk,Ml! b xs,
JTl,λz=>Z (A5! Z8!),dt!,Z9! (Z),CU?,by show B6? h,JTm,aA! iI!,du!,(Cy (Z) (Cy (Z) Oo)),
dv!,(B_ (AU e) I.ok.above),dw!,aD! Bf! Z,dx!,J7 G ta tb,dy!,Iv G ta tb,dz!,aE! ZC!,d0!,aF! ZC!,
d1!,(MF X sc cl Oo! ZC! s3 H3 fp AB),d2!,(MF X sc cl Oo! P4! s3 H3 fp AB),d3!,W.c+Bb! 0,d4!,(Af! Db),
JTn,Ax (λ_ _ r=>FO! Yb! Z) Z,d5!,Bg AO! tb (Ru AO! tb+wt),CV?,by show O? ZS (ZR (DO Z Z ?_)),d6!,it! Z Q Z,
d7!,[DE!,"_law_xs",MS!],CW?,by change(Z++Z).length+Z<=_,K0?,by show wD! x.of Z JSk Z Z Z Z,JTo,iu! goal Z,
d8!,(HH! i).filter,d9!,xz Z=wp Z,JTp,q.Perm (At! Z),eA!,⟨Z,Z,e1,e2⟩,CX?,by show⟨_,A!,Z,A!,Bq! (Cq! Z),Z⟩,
JTq,wZ! CD Z,JTr,wa! dd Z,eB!,aU t qs k,eC!,wd! h,eD!,(Ck Z (Ck (Bt Z) F6)),JTs,(Ao A8 WP Z),
eE!,Z AB s σ H Z I h,JTt,wf! hd,x6!,(envOfC qual scope Uf f Z),
JTu,(FO (ha AS! AB s σ H _ I h) λus s1 ⟨vs,H1,I1,r1,q1⟩=>Z),eF!,standAt apos.atName,eG!,(O3! (ZQ t)),
JTv,λσ H R=>Tv! tl Z,eH!,-(aB!),CY?,by show Ks? Pd,eI!,AN! (Z q ir!),eJ!,B+60<=B',eK!,ON! (DY!->Sem Unit),
eL!,(ZR (Z ?_)),eM!,Gw! (Z Z) us,eN!,(l.set i r),eO!,DE (Z) (show AF! Z≠0 by decide),eP!,Ax (λ_ _ e=>L! Z e) Z,
eQ!,Pl! t FB Z,CZ?,by rw[Ad (Ak e Z)];show Z6! Z Z,eR!,(Au Q3 (pv 8) Af PP!),
Ca?,by show O? JJ (JSj Z Z Z Z Z Z),Cb?,by show⟨GS? C Z v! Z Z⟩,K1?,by show⟨K5!,_,Z,A!,q _ Z⟩,
JTw,JSh Z (NQ Z g Go h'),eS!,aC! x.2 l,eT!,OY! x c e,eU!,Io (λ_=>Z) (JW!),eV!,cJ Z it es as,
K2?,by show Ku? vb Z,eW!,W.OJ++[(Z7!,io)],eX!,JSn k,JTx,Kj (Z) [] E0 UD!,eY!,(λ_ h=>NJ!),
JTy,AN! ((x.ho q hq).keep (CJ! Z)),eZ!,(CJ TD Z),JTz,Ak! uo! (Tt! Z),JT0,Ha! H2 (TM! t),
ea!,MeI K Z fz! Z Z Z Z,K3?,(by show⟨Z,e,λv z=>by rw[Z] at z;cases z⟩),eb!,hY! ka H!,
JT1,(by change 0<1000;decide),ec!,GL! l (EO! Z Z),ed!,BZ H1 H2,ee!,Z (by rw[ZA];lia),ef!,ZU! H2 Z [],
x7!,(iN (At! n)),eg!,v9! [DH!],eh!,PT X a tA,JT2,iq! Z (we! Z hj),ei!,CP! (IM (L.take i)),ej!,GJ H a y o,
ek!,DY!->DY!->Sem DY!,K4?,by show⟨Hr! (vl! np.symm),Op Z x.dh,Z,Z,Z,Z,Z⟩,el!,j9 λi j=>Aa! Z,
em!,vd! Z σ H (∀i m σ H,Z),en!,Tf! Ek T.tuple EY Z,eo!,MT H GQ y z,K5?,[_,_,H1,A!,JSi NG!,Z a _,wc!,Z,q],
JT3,PS! (Du (Au Z Z Z PP!)),ep!,OO nx n ahead E0! R,JT4,ZQ! mD g.mC1.mg g.mC1.fn.kp g.mC1.bd (in! Af),
eq!,(JSc (ZQ t)),er!,L2.St->XK,Cc?,(by rcases g with⟨kvs,k,e,ey,l⟩|⟨kvs,k,b,e,ey,eb,l⟩),es!,a.1=b.1,
Cd?,by have⟨o',e1⟩:=FI! fr! hx,et!,ho!-iN!,eu!,[Fo! x px,Fo! y0 aV],JT5,s.toks+knd.draws k,
ev!,Fs! (Z y (AH! hy)),ew!,ys=i1++y::i2,Ce?,(by rcases ZI ht with ht|ht),JT6,{ W with c:=Dl!,ls:=Z,GQ:=Ps! },
ex!,λvs H Q E=>Hc! Z vs\/Hc! Z vs,ey!,(L9 Af),ez!,(EA! Db Z Z),JT7,q.Pairwise (λi j=>y! Z),
JT8,Bz (Mz! Z (CW! Z)),jv!,(storedH xs Z Z Z),e0!,NH! i [],e1!,CS! i ty,e2!,(KZ! (JX Z) Z),e3!,Al! Kn! Kn! Z,
Cf?,by show⟨hk,h.2⟩,e4!,Ha! H1 ZZ!,e5!,W.findIn K (IN C) Z=D! (JI! f),e6!,ID H' p Z,e7!,FD (MC! Z) TD,
e8!,GM! wP wP,e9!,EL 2 f2 d2 Z (Z),JT9,tt (Z2! K6!) H2 Z,JUA,Ks! (ow c) (no c),fA!,UK xs i=D! v,
fB!,JRl v! Z Z hr Z,jw!,(F2 Db Bo!),fC!,Bb! (Ak! Ar! CK!),fD!,Bb! (Ak! CL! L2.V.int),fE!,(C1 hu (Aq w! A!) Rs),
fF!,P0! fd ps,K6?,[GR? _ A! Z],fG!,YW G tb wt,Cg?,by show S? (λi m σ H=>m=Z/\Z/\Pv i σ H) ⟨Z,sK,Bu!,h0⟩,
fH!,U! (Ad (ne q)) q,fI!,CW! (AA hi N1),JUB,D9 (k:=Pk!) (f:=v3!),JUC,.MY g s n' u Cp! S,
fJ!,y! (W.plainGet K C Z),fK!,hX! B4! .seq KO!,Ch?,by show⟨_,Z,TS!,TU!⟩,Ci?,by have hn:A7! Uf:=Tm! XX!,
JUD,⟨Z,th.1,Z,th,B6!⟩,JUE,[T! lc,T! AX!],JUF,JSf Z g.X1 1 Z,fL!,Z [h! pw,DH!] H (λv H'=>Z) E,
Cj?,by show Kt? q1 wg!,JUG,Zh! AE! x AE! y,JUH,Fi (G1:=Z) (by simp[BX]) A! A! S1 k,
fM!,Cf! (Z b o (JK! Z) (Ak e Z)),fN!,["_law_some",YX!,"_law_other_here"],fO!,(z! H3 Fz! (iM! Ps!)),
fP!,BX Z=BX G,JUI,(A7 (C0 A!) Dk! T.sorted F_ (CR! Z)),fQ!,Ft p W ys b,JUJ,iw! I.laid Uf Z C7! (Z) CC! Z,
fR!,Z _ _ Z (S.tup_ne Z).1 (S.tup_ne Z).2,JUK,⟨AL!,sB,g,b,sh⟩,JUL,Dr m Z (Po!) 1,
fS!,Z x hn hB Z Z Z Z Z Z Dw! Z kk Z,JUM,λz=>GO! k.symm.trans z Z,fT!,(H!,Tk,h),
Ck?,by have np:=x.UO (b:=Z) (by simp[BX]),JUN,λb hb o eb=>Z b o eb (off b hb),
Cl?,by show⟨λc=>bb c Z,λ_ _=>?_,λ_ c=>bb Z c⟩,fU!,s.heap.FunFrames AW! (gT!),Cm?,by show⟨_,Ac Z (Ac Z Z),?_⟩,
fV!,f _ _ Z (OZ! Z) (OZ! Z),
JUO,(run _ _ (λv dv W' D' al' EC H' tl ef OS fr fp eh=>JSB (wn v dv W' D' xL EC H' t tl ef OS fr fp eh ht)) (vS! (JSE i (WK i H4 t5 ef (Ah (Ai hx) s4) h5)))),
fW!,F.ok Z (λvs H Q E h=>?_) (λEO A outer s H vs Q E hr h=>?_),JUP,AT (lB Go l1 l2).get? Z _,
Cn?,by show⟨GS? CW Z wE Z (by show GJ?;show NI!)⟩,fX!,Ta! (ZR! H a Z) (Au! a _ ea),
JUQ,∃t,Z/\t { nx:=λ_ H'=>Pi!,rt:=Q } (start N vs) H,K7?,by show⟨Iq!,x.AY,Rr M G x,Z,Z,Z,YJ!⟩,
JUR,X3! (Z i []) (Z j []),Co?,by show d! ⟨Z,Pv (Aj!),λGA H' p'=>⟨Z,X!,A!,IP,p'⟩,λx H' y=>?_⟩,
fY!,ip! H4 x [] (Kp! Dl!),Cp?,by have G3:Do! f3 d3 hx! He:=Me M3.fn TP,JUS,Cf! (Dq! (Tp! Z) (Tp! Z) e),
fZ!,(MeI.mth (ps:=Z) ⟨Z,Z,Z⟩).bd,fa!,(σ.set i (D! v)),fb!,(mn (gr K (Bt 1) Z) (Bt 0)),
K8?,by show Bn ⟨R? x,_,0,_,A!,A!,Z,wB!,Z,Z⟩,JUT,eval (.Call JR9 Z [] AS!) SL=Z,
fc!,[D8! (n==0),D8! (n==1),D8! (n==2),D8! (n==3)],fd!,[D8! (n==4),D8! (n==5),D8! (n==6),D8! (n==7)],
JUU,callWith AS! f first Z (backToKw AS! (keywordEach [] SL)),
Cq?,by .show GV? (JSo q1);show Cy?;subst e;show hs i x ys _ (wh! Xf! wY! (Aj!<=xs.length)) (y xs q1) pv ix!,
JUV,Vn (s:=BT!) e c Z TD Z,fe!,holding [ov] (getMethod ov m pl),ff!,o6 h λa _ h=>Z (P:=λv=>P (a::v)) h (k a),
fg!,envOfC qual scope Uf f cd,JUW,Pl (s':=s') I1 Z hn bu,JUX,Bl (D_.or Fa) Dk! Z CA UA!,
Cr?,by .rintro rfl;have h:=x.KU (b:=Z) ZB! hq;show hb.elim v6 h.2,
Cs?,by have⟨W1,JF⟩:=x.wa.step SZ (G':=Z) S1 OK aX,
JUY,⟨Bq! e,by change ¬E7! Z=Ew!;show AI?,λk t H' kt e'=>Z,o! ⟨Z,b,tb,e,eb,sK,sK,λc t tc H' kt ec et=>Z⟩⟩,
K9?,[Z,_,A!,p,dx,_,A!,hp,Hq!,_,A!,p,Z,W,A!,S,Z],
fh!,∀(C D:Addr) (H':Hp) (s1 s':Shared) (H1:Hp),C=s1.heap.objs.size->UC!->QE!->Ab! H' C->(∃m,s'.heap.Ns C m)->TR! D->compPost TZ! X.A X.xe use RQ H2! C (.ok .next) s',
fi!,he! (comprehension Z sc SL (firstIterPos [⟨Z,iter,ifs,0⟩] AS!) (newList []) am is! use) RQ,
JUZ,x.JD i W1 JF aX iR! Z Z Z Z Z A! cA cB Z k _ Z,LA?,[Z,_,A!,A!,Cq! QT,A!,_,A!,r,_,Z,_,A!,A!,Cq! QT,A!,k],
fj!,λ_ _ _ _ _ _ us hl=>Z (P:=λus=>aG! Z us) (us:=us) hl h _ _ _ _ _ _,jx!,Value.builtin Z,jy!,Z (Tc! Z),
jz!,(λb o _ _ hc e _=>Z),j0!,(show Z from p),j1!,(show Z from ry),j2!,(JQ!),JUa,(Xs! Z (HU! D8! q!)),
j3!,vu!/\Z,j4!,Z/\(Z FM).Pairwise LB,j5!,λq=>H!,Da?,by rw[aM!],j6!,B3! Z (Ix Z) Z,j7!,(v4! Z).1,j8!,λc q=>?_,
j9!,λc xs q=>?_,kA!,b∈GK!,Db?,by have⟨e,n,ne,nf,d⟩:=Zo! hp,kB!,λ_ _ _ H _ I h=>Z Z,kC!,x=DF!,kD!,x=T0!,
kE!,y=My!,kF!,[EB!],kG!,[.n ii],kH!,λi H=>Ky! Z/\Z,Dc?,by have⟨o,e,c,d⟩:=id RV,kI!,v.1.toNat,kJ!,v.2.toNat,
kK!,KJ! (wx! Z Z),kL!,(rel.val k).NU,kM!,Int×Int×HS,Dd?,by show C5? (ZN Z),kN!,λh=>JTE,kO!,(l.map Z).sum,
kP!,∀c∈l,y! (F5 c),kQ!,∀c∈z.cps.toList,y! (F5 c),kR!,1<=z.length,kS!,(FG Z).cps.toList,kT!,λr=>xz Z,kU!,σ[pi]?,
kV!,λt=>(Z,D8! q!),De?,by have⟨kvs,e⟩:=Z hb,kW!,oe.data=wv!,
Df?,(by rcases hb with rfl|rfl|rfl|rfl|rfl|rfl|rfl),Dg?,by have⟨q,hq,hb⟩:=EB.mp hb,Dh?,by have nd:=IW! nd,
kX!,∀t∈Bd!,Z,kY!,∀t∈Mo!,Z,kZ!,AX!<G.AY,ka!,b.1≠G.BQ,kb!,lc≠G.BQ,kc!,∀u∈nx t,Z,
kd!,show LW Im!=LW re from x.holds,Di?,by have l1:=AD! Z,ke!,ts.length<=900,kf!,∀{n:Nat} {ahead found R:G!},Z,
kg!,a.length+1,kh!,t∉aL!,Dj?,by have s1:=HX! (.BK (Z Z)) Z,ki!,{ G with BF:=Hd!,hand:=Z,AJ:=Z },
kj!,{ G with BF:=Hd!,AJ:=Z },kk!,hl.length<64,kl!,{ G with AY:=FG! },km!,λ(q:T2×Int)=>wu!,
kn!,λ(q:T2)=>(tk q,D8! q!),ko!,Ai! (GG! hz),kp!,ls=a++l::b,kq!,(Av G (HH! i)).holds.filter,kr!,kind=AL!,
ks!,λr MC=>?_,kt!,l.g=Mb!,ku!,l.th∈Mo!,Dk?,by have⟨g0,g1,ib,kk⟩:=Z l hl,
Dl?,(by rcases Eu e with⟨_,e2,_⟩|⟨_,e⟩),Dm?,(by rcases ht with h|⟨r,hr,h⟩),Dn?,by have st:Tb! (Y6! Z) ls:=Z,
kv!,λh hh bh=>?_,kw!,jB! Z=I.m,Do?,by have W2:QL! Z:=Z,kx!,∀z∈al,SG m z,ky!,G'.AY<=FG!,
Dp?,(by rcases h with(h|h)|h),kz!,W'.qs=i2! Z,Dq?,by rw[hN] at wg st,k0!,∀a∈as,Rl a,k1!,y.length<=100,
k2!,v::Ar! F3,k3!,λnx cS=>?_,k4!,(Z YB! Z),k5!,by simp at e,k6!,by simp[hi],k7!,by simpa using c,
k8!,by simp[Px! Z],k9!,Z (To! Z),lA!,MF!=D! x->Z->Z,lB!,AT h2.get? Z Z,lC!,AT Z Z OT!,lD!,Gv! DictEntry,
lE!,Gv! Arg,lF!,Z (Z (Bq! Z)),lG!,by rw[<-Z,<-Z];show Z,lH!,by rw[ez] at kq;show Z,lI!,⟨Ms! Z Z,Z⟩,
lJ!,⟨Z,k b Z q⟩,lK!,IN e,lL!,IN v,lM!,AF! kk,lN!,EN! (κ×Value),lO!,U! e1 Z,lP!,U! z Z,lQ!,U! v6 Z,
lR!,U! Z (Z k),lS!,Z (Z) TD,lT!,(K w.params).In h,lU!,CR! AI!,lV!,AP! Z! Z,lW!,Q Z iy!,lX!,GE (A8! Z),
lY!,GE (Z b hb),lZ!,GE (HZ! r Z ht),la!,T! QN!,lb!,[("kept",Z)],lc!,KE es Z,ld!,KE C8! Z,le!,KE eS Z,
lf!,KE Z nd,lg!,(back Z).1,lh!,GA! SG!,li!,HU! bn Z,lj!,A7! x,lk!,Bq! (Ac! Z),ll!,AG! Zl!,lm!,Op hb Z,
ln!,A0! z Z,lo!,Ac! i7,lp!,E8! G'.AK,lq!,PN! V,lr!,E9! A3!,ls!,E9! Result,Dr?,by show⟨F?,Z,Z,Z,_,A!,A!,Z,Z,?_⟩,
lt!,Yz! Z r Z,Ds?,by show⟨_,Ag Z,?_⟩,lu!,Ba! (W.qs[g.toNat]?),lv!,FA! Z Eq!,lw!,A1! hd,lx!,FB! pi Z,
ly!,FC! MO!,lz!,(AA Z (DU _)),l0!,JF! MN! Z,l1!,JG! F!,Dt?,by show I? Z aJ!,l2!,(V! n),l3!,(V! i),
l4!,Dn! (ZS h),l5!,inClass (AZ! 22) Z,l6!,Bb! 0,l7!,Bb! (JP n 0 lo),l8!,IsTup.new _ _,l9!,by rw[Z];show Z,
mA!,by rw[Z];lia,mB!,(Qk G ts),mC!,FG ii,mD!,FG aK!,mE!,Ha! Z o,mF!,No->Bw!,mG!,AT! Fw!,mH!,Do! Z Z DG! Z,
mI!,AU! (apos.endLine==IX.line),mJ!,id I.loc,mK!,(aN!:Key),mL!,DJ! KB,Du?,[Aq? CW],mM!,ER! Z Bl! Z,
mN!,(back Z).2,mO!,hW! 6 Z Z Z,mP!,Cg! q!,mQ!,Ml! t Z,mR!,Y5! Str NameKind,mS!,Dq! Z AM Z,mT!,Ct! Z KB,
mU!,DK! hu,mV!,jp e Z,mW!,Z (AG! M2!),mX!,Ds! BH,mY!,h (A0! Z Z),mZ!,λz=>Z (AH! z),ma!,hb! (Zk! lc),
mb!,hs.Pairwise LB,mc!,Y6! (Z G b (Z)),md!,TX! Z p,me!,Z t (p::qs) Z,mf!,EV! "sorted",mg!,va! CI Z,
mh!,No->No->A3!,mi!,Cv! (Builtin.Tuple.tupleExact _) Z,mj!,FS k (t ZB!) Z,mk!,(B8!/\Z/\Z),ml!,KZ! k Z,
mm!,ZA! oC,mn!,Q (bn Z) H,mo!,CU! (GE (Z t ht)),mp!,Kr! XT!,mq!,Kr! C5,mr!,(.ins CW dx JRi),
ms!,(.ins CW dx JRp),mt!,(.ins CW dx (Y4! MN! fi Ij! iq JRp)),mu!,L.take i,mv!,wm! i,mw!,Mv! kp Z,
Dv?,by rw[Z] at f4;show AJ! Z Z,mx!,by unfold LW;rw[Z];rfl,Dw?,by show BG? (jF! Z),my!,(Yt! h),
mz!,JN! Z Z Co! Z Z,x8!,(At! n),m0!,Dp! p xs,m1!,x.some_at m,m2!,EZ! 3,m3!,Ea! e Z,
Dx?,by show O? ZS (ZR (ZR Z)),m4!,hn! Af! Z,m5!,Mz! Z (Z Z (Z Z)),m6!,hp! Ya!,m7!,Tk! y0,m8!,ZI! XS,
m9!,wT (MJ (bn Z) ak),nA!,Pl! Z Bk Z,nB!,(B0 hl tb),Dy?,by show XY! h,nC!,vl! n,nD!,M3! (Z),nE!,vh! Z H4 M6!,
nF!,ht! 2 Z Z,nG!,ht! 4 Z Z,nH!,hu! E2,nI!,∃t,u=Z b t,nJ!,JX! (hi-lo),nK!,xs=[DF!],nL!,xs=[JO!],
nM!,he! Z (TP X AB σ Q),nN!,hw! hr! Z,nO!,JZ! (Z G tb v),nP!,(B7!,0),nQ!,ZT! KM,nR!,ZV! h,
nS!,Tb! (Y6! Z) (w3! Z),Dz?,by show Ct! (show fx! from fx) AO,nT!,(AF EU! hn),nU!,mem_mid hz,
D0?,by rw[AD (U! Z AO)],nV!,H3! more.map Z,nW!,λz=>Z (z▸m),D1?,by show AD? Z k,nX!,ZX! Z i!,
D2?,by show BH? Z Z (Ac (Z) Z),nY!,Hk! (PO! Z Z l) Z,nZ!,Z a CH!,na!,P9++(Q++s::R),nb!,Zc! BO!,
nc!,AU! (D4! t==Value.none),nd!,P2! S.hs,ne!,IS! (hX! Z .fields Z),nf!,(Cm! YH).2.2,ng!,K7! (o! Z) Z,
nh!,(BM this),ni!,K9! (t σ H Q) Z,D3?,by show⟨Z,A!,Bq! (Cq! Z),Z⟩,nj!,(Bg BL! tb (Z)),nk!,(JF b o eb hb),
nl!,Rd H Z (wv Z),nm!,AT (B7 G).lookup (E7! Z) (IN Z),nn!,I.turned (t':=C7!) (λb ob hb e=>Z) f0 f1 f3 f4 f5,
no!,L3! v,np!,NK! h Z,nq!,Zp! (λvs H1=>Z),nr!,PM! d wv Db,ns!,field (IN z) Z,nt!,hn! .BK MC,
nu!,by have:=GJ.k (k:=GE Z) Z;show N? Z;show this,nv!,by have:=Z;show N? DT;show this,nw!,q.2.2.2.1.take j,
nx!,NP! v,ny!,(λq=>Z (HM.mpr Z)),nz!,Az Z (IN Z) Z,D4?,by show DN? Fp!,D5?,by have⟨b,e,eb⟩:=h;show⟨_,Z,Z⟩,
n0!,(loop _ A!),n1!,QI! gZ,n2!,λq=>(H!,xz PP),n3!,Zx! JTF,n4!,iU! Fm!,n5!,QM! f,n6!,Mw! Z (Ap (Bh (QJ! Z))),
n7!,QO! (Kt! Z e Z),D6?,by have RS:=MY! Az! JF,n8!,h9! Ci Z n 1,D7?,by show BJ? Z ht,n9!,h _ (I.tok _),
oA!,AP! No Eo!,oB!,UE! Z Ab,x9!,PO! q FB Z,D8?,by show BK? Z (Hb! Z),D9?,by show⟨JSr,A!⟩,oC!,Ml! a xs,
oD!,TX! Fm! d,oE!,(tC (bn c)),oF!,CA! W.hasDictIn K C,oG!,Nv W W' VJ L,oH!,wJ! 1,oI!,Bg BL! tb v,
oJ!,Bg AO! tb v,oK!,IsZip Z z TI TO .ellipsis,oL!,(i7!++T),oM!,Ba Z (IN Z) Z,oN!,(HG! (·.1)).filter,
oO!,(CG _ _ i3!).trans,oP!,(Fk JSs),oQ!,(wv Db),EA?,by show S! (Bv! Z),oR!,Ab! fs.lookup m,oS!,PM! Z Gx! a,
EB?,by show O? ZS (ZR (HF Z Z ?_)),oT!,⟨_,A!,Y7!,Z⟩,oU!,aQ! "sorted" Z,oV!,[E2!,"_law_xs",MS!],oW!,JSG (b≠it),
oX!,Ch->Ch->V,oY!,aT! H2 Z Z Z Z,oZ!,aU! c,oa!,Ay! (go t Z H6 _ Z ht Z Z),EC?,by show GO! A5! Z Z,
ob!,ts[i]?=D! t,oc!,Rows G os,od!,I!->LC!->Z->Z,oe!,DE Z (show AF! Z≠0 by decide),ED?,by show I? k np,
of!,CA! lt Z jC!,og!,PE X wt! (Z Z),oh!,(Iw hl tb),EE?,[_,A!,p,Z,_],EF?,[_,A!,p,Z,dx],oi!,((At! m).map Z).sum,
oj!,i9! JSv Z Z,EG?,by show DQ? _,ok!,(Ag (Bc Z (Kx! Z) Z)),ol!,(Ag (Bc Z Z A5)),om!,h'.DictOfH knd d Z,
on!,JSH Z hb z,oo!,(Ah Z (Ai ht)),op!,jE! (h! Z) Z,oq!,y! (Aa! (Z≠k)),or!,⟨#[c]⟩,os!,∀s',Z->Q () s',
ot!,H!∈ci Z,ou!,wl! fw! Z,ov!,LP (Ah!),ow!,⟨Zm!::us,kw⟩,ox!,Ab! X.mg x,oy!,wo! D4!,oz!,wq! sc.names.lookup,
o0!,Q (Cg! Z) s,o1!,[UV "refused",T! Z],o2!,(lay H ps),o3!,λi=>JSq i IR,o4!,ws! X.base.get? Z,
o5!,Loc X.env.scope x,o6!,wF! i5! ZD! Z,o7!,ww! A_,o8!,PQ! H2 Si! [],o9!,Rd H a (Af! Db),pA!,w0! wr!,
EH?,by show(Au! b u e).RA (Z) (Z) Z,EI?,[_,A!,_,A!,p],EJ?,[A!,Z,_,_,A!,A!,_,A!,?_],
pB!,PI X (SR! Z kt pt) iter wi,pC!,PS! (Du (El (P1 hu Rs w!))),pD!,Ix u::Ix v'::Ix v2::Ix v3::vX! v4,
EK?,by show DS? (o! ⟨GX? Z⟩),pE!,hashInt (AF! Z),pF!,IZ! ds,pG!,Cg! am,pH!,(ys++[AA! Z]),pI!,aI!->Hw!,
pJ!,Fn! Z SL=[(am,hf! Z)],pK!,∀a b,R a b->Z,pL!,lc≠Cx!,pM!,JSp f2!,pN!,(M8 I6!),pO!,⟨Z,.refl _,sK⟩,
pP!,L! kq.BE et,pQ!,KE gh (Cs! hu),pR!,inr i hi,EL?,(by rw[Z] at hr;cases hr),EM?,by cases b;show⟨Z,A!⟩,
pS!,(hA! t Z).1,pT!,(Ah PR bD),pU!,CA! W.isFn K NL!,pV!,JSy w4!,pW!,bG t qs h,pX!,JSz ad Z,pY!,JS0 ta Z,
pZ!,[UV "done",Av!],pa!,UH! F0! (λq=>Z),pb!,SU! l1 xs,EN?,by change TF! Z+1<=TF! (1*Z),pc!,D6 AO! (λt=>Z) t,
JUb,(h1.push (MK! B4! (as.map Value.ref).toArray 0)),pd!,Z [DF!,JM!] H1 Q E,pe!,JS8 (Z/\Hi!),
pf!,XY p W y.I H H2,pg!,Av G (HH! i),ph!,JTB Z iU Z,EO?,by have G1:Do! f1 d1 Z Z:=Z M1.fn T,
EP?,by show KH hp (FO (Z) ?_),EQ?,by show Kw? H4 Z Z,pi!,(Cj! (a-1) 0),pj!,CU! (S! (UI! ht)),
pk!,(IR! b (BN Z)).trans e1,pl!,Dm! (RecAt Z) as rs,pm!,JTC ea,pn!,JTD 0,ER?,by show Kx? Ts!,
po!,([NN!,NO!,(c,k)]:GV!).lookup,pp!,JTH H1,pq!,JTI ok.hd,pr!,p2.keep RS,ps!,St->AP! Hp (Z),pt!,(Au! Z _ Z).1,
pu!,[AA! b,xz PP],ES?,by show w? ZA ZA,ET?,(by rcases ZI bL with h1|h1),pv!,e1++(k,e)::e2,
pw!,A_ (Z (by rw[ZA,ZA];lia)),px!,U! (Ad (n Z)) Z,py!,Z (λ_ _ r=>Z) p,pz!,L! cS ⟨Z,Z,A!,Z,Z,Z⟩,
p0!,(I_ (Z) λr s' hq=>?_),p1!,(Id! aS!).map,p2!,(tU! j).map,p3!,Lies H L,p4!,A0! e c,p5!,Al! GD! GD! Z,
p6!,¬(sB<0),EU?,by show I? (FM _ e) TD,p7!,(SS (gT!)),p8!,[AA! b,xz B6!],p9!,∃t,u=fl! x t,
qA!,HX! (FB (Z CK!)) Z,qB!,(MM! YN).sum,qC!,UF! B9! wt,qD!,λq=>O6 w H!,qE!,(mX ex C),
EV?,by show ZR (Z (s:=Z) Z VR ?_),EW?,by rw[AD (show ¬(i8!) from AO)],qF!,JS1 (Hw!\/0<=AX!),
qG!,iV! Ig! iT! (b≠x),qH!,x.lt s g ts h,qI!,(Kv hu WP Z Hm!),
EX?,by show DR? Xf! fw! Eu!;show Bo?;have⟨q1,q2⟩:=jH!;show f? q2;show DO?,qJ!,Z+Gk m y'+1=Z+Gk m y,
EY?,by have⟨a,b⟩:=Gj (hd c KB),EZ?,by have QD:=MY! W3 VH,qK!,∀i q G,Ba! (W.qs[i]?)->mf G i,
qL!,BM! (Hj ey) (.GC BQ L Z),qM!,j4 Kx C m f,qN!,WO H t Z s g ts,qO!,YA P w K mg AW! A BV! s H,
qP!,Fz (OV dd) (iz! j),Ea?,by show K _ _ Z wH! _ ?_,qQ!,FR P w K mg AW! Z (k+1) f fd ps sp,
Eb?,by show OG m.base m.mE m.line DV Z Z JSt,qR!,G1! Dr!,qS!,knd.room A,qT!,Z (Cf! (e0.bs b o e).1),qU!,α -> β,
qV!,(∃xs,Z/\k=!xs.isEmpty),qW!,(Oa! (GA=Z/\H'=H7)),qX!,y! (b h),qY!,Cw! X.fn x\/hl! SM!,
qZ!,JTA Wg D Z/\Tb! (Y6! Z) ls,qa!,λb=>PU! fm b,qb!,show JV! _ from x,qc!,∃sl,Kj! XR! { o with slots:=sl },
qd!,H!≠FD!,Ec?,by have⟨sl,e1⟩:=tZ! b o e n hb hx,qe!,(k,x)::Az f v r,Ed?,by have⟨u,hu,ru⟩:=rv.get hx,
qf!,(eI Z Z).toNat,qg!,[FG lc,FG AX!],qh!,A.frames=D! (gT!),Ee?,by have VW:p∈(X.pn++AB)++[]:=hp,
qi!,s3.toks+wj! QH!,Ef?,by have bt:hl! hd!:=FL hx,qj!,(At! Sk!)[j]?,qk!,oT.data=.fields ts,ql!,env.frame=Ix L,
qm!,λvs H Q _=>Z vs H Q E0,Eg?,(by rcases ZM hp with rfl|hp),Eh?,(by rcases Ox hq with⟨_,e⟩|hq),
qn!,Ay! (by show n?;show Z),Ei?,by have z:BE! Z (.IQ o v):=z,Ej?,by have W2:=W1.same s2,
Ek?,by have W3:=W2.same s3,qo!,∀(j:Nat) q G,wp!->Z->Z,El?,by have aX:vw! (BX Z) CV!:=ut Z,
qp!,{ y with I:={ y.I with ss:=w2! y.I.ss,fs:=JSw },fi:=i0! },
qq!,{ W with c:=W.c,ls:=KX!++[],GQ:=EL!,JC:=W.JC },qr!,{ y with I:={ y.I with cs:=JSx },se:=P1! },
qs!,∀H2,FJ!->Q (bn Z) H2,qt!,λW' H' nw e=>BM! (tn _) (.JD _ q G _ _ hi Z e PL! A! A!),qu!,(hr.mono TD),
Em?,by show Mp! h,qv!,BX! (λy=>xz AK!),qw!,(CQ.mpr (BM Z)),qx!,tn (Aj!) Z,qy!,Z Z as (BX! Z),
En?,by show QX λj=>?_,Eo?,by rw[L4! bk.OW],qz!,CS! Ft! tv,q0!,DM Z (show TV! Z by decide),q1!,Al! GI! GI! Z,
q2!,Al! Hj! Hj! Z,q3!,(by simp;show hl▸hx),q4!,(SQ! (Fo! y py) SL),Ep?,(by rw[Z] at hc;cases hc),
q5!,(CG _ _ (λz=>Z)).trans q,q6!,DK X H!,Eq?,by show(x.nv nv lb ll).1,Er?,by cases (show Z from r);rfl,
q7!,h AB s σ H _ I hw,q8!,(Z o ne.symm).trans Z,q9!,Dq! ha hb Z,Es?,by show S? t1 t2,rA!,HG M' G',
rB!,(UG r ta tb),rC!,vs=[DF!,Br!,B9!],rD!,Mr! (Z a:Key) Z b,rE!,EL 2 f1 d1 Z (Z),rF!,Pf! as bs,
rG!,EY! BX! J.map,Et?,by have⟨t,e⟩:=(show Z from r);cases e;rfl,rH!,BS Z as ts,rI!,vn! Z FB Z Z FB Z,
rJ!,(qs.set l.g.toNat HY!),rK!,Hc! Nb [DF!,T! BQ],rL!,Hc! Qw [DF!,UV Z],rM!,h2! 3 Z Z 4 Z Z Z,
Eu?,by show Z Z s (by change ¬E7! Z=C9!;show AI?) Z Z,rN!,h5! (f v u) Q Z,rO!,[PB!,E2!,MS!],
rP!,LA! Z aa NF.map,rQ!,JRx AI! (JS7 Z Z Z Z),rR!,λq=>(tk (FM q),val q),rS!,OO (QF hl) n Z [] R,
Ev?,by show .ok (by change ¬E7! Z=C9!;show AI?) Z,rT!,MT H W.GQ (BQ,t) Z,rU!,D9 (k:=DM!) (f:=Jd!),
rV!,(H!::BX PP),rW!,λr=>(JS2,xz Z),rX!,λr=>((AV! (k r):Key),f r),rY!,Mm! BC! h (KE Z Z),
rZ!,.MY g s n' u Ie! NQ!,ra!,(Ib! (Z b o (JF b o e hb) (sub b hb))),rb!,YA! Z Z x y,rc!,[xz Ie!,AA! xs],
rd!,Ay! (go t Z H5 _ PR ht Z Z),re!,I!->(D7! (jG! b))->tn i Go->Z,Ew?,by have:=Ba EF! (V! 0) (TO! DA! n),
Ex?,by have:=Ba EG! (V! 0) (Az EF! (V! 0) (TO! DA! n)),rf!,s.heap.DictOfH knd d xs,rg!,(cI (Q2 Z (Nf Z))),
rh!,(cI (Ul Z (Oj Z))),Ey?,by subst hb;rw[Ab] at e;cases e;show Z,Ez?,by have:y! (Tu! Z aH!):=N_.mpr Z,
ri!,wn! d Z s,rj!,Yu H' v dv,rk!,(z! H9 p (M8! bS (B7 Z))),E0?,by have:=BP.mp e q hq,rl!,EH _ Z (K_ (FJ Z _)),
E1?,by show⟨_,h,SC A! R!⟩,rm!,z.sameBut hs (cn y c e),E2?,by have hl:Yf!:=LB! es,
rn!,PW X (.BoolOp Z (Z) AS!) Z,ro!,Y9! H5 sl (as++NG).map,rp!,uT v H' Q,rq!,JS3 HH! Br,rr!,JS6 F7! Z (Z g) Z Z,
rs!,I1.laid (t':=Z) (Z) CC! Z,rt!,JS9 KU! Z Z hr!,ru!,swapsWith Z Z pos.line SL=BU! am,
rv!,(Z h ta tb G ha c2 hb),rw!,JTG f3 oj,rx!,(K51F.OC m f c a S),ry!,Z kindOf Z m x,rz!,λy=>(y.n,y.io),
r0!,bn (OV dd),r1!,List.Pairwise.imp (λ{a b} (h:a<b)=>Z) MO,r2!,uh (λp hp hk=>Z) h,r3!,Inv Z AB σ H s,
E3?,by intro a ha;rw[ZK ha];show h,r4!,FS h (I.tok _) ?_,r5!,Ix u::vX! v,r6!,SC Z (SC Z R!),
r7!,Ce! (Hf!->∃o',Ku! o'),r8!,knd.is Go k a,r9!,t∈C6 Ax! re,E4?,by show RG FV Fv! JM Z Z Z,sA!,Og! PW! A Z R s,
E5?,by show HC A! (HU (II (FO (v2! he) Z))),sB!,pQ Z ta tb D σ H,sC!,(MP! (ZO Z)).2,
sD!,Cf! (by by_cases hb:Z;(.subst hb;rw[Z] at e;rw[Ab];show e);.rw[Ad hb];show Z),
E6?,by cases op<;>first|rfl|show I? A! Z,E7?,by first|show ZR (JY tI (ZS ?_))|show ZR (MN tI (ZS ?_)),
sE!,∀(X:Cx K),X.prog=P->X.w=w->Z->Z,E8?,by have⟨t1,t2,_⟩:=ui I1 d,sF!,λi v=>∃e,es[i]?=D! e/\v=e.key,
sG!,if Tk=a then(H!,a,h) else q,sH!,YM! (Pj! F0! (K8! Z)),
sI!,∀W' H',wz! []->W'.qs=Ss! S8! (q,Z)->R Av! W' al ys H',E9?,by show⟨Z,Z,E_.mpr ⟨JQ!,Z⟩⟩,
FA?,by show Eq.trans r2 rc.symm,sJ!,O6 w (tk Z),sK!,PO! G.h Bk (B0 Ax! tb),sL!,Al! N ps st,
FB?,by have⟨_,_,_,q⟩:=hs;show XY! q,sM!,ER! (Bo Z rs).map (λr=>(Z:LT)) .w,sN!,R x y H2,FC?,by rw[AD d,jD!];lia,
FD?,by rw[AE d,i1!,d];lia,FE?,by show⟨v6,h.2.1,ht⟩,JUc,(A.under (G2! "type.__call__" Z)),sO!,TQ! ZF! ZF! ZF!,
sP!,λσ H Q=>wi σ H λJ H1=>∀p,Zn! p->vd! JH! [] (TT! H1 []) (∀i m ys H2,W i m ys H2->Z),sQ!,Kd G b 0,
FF?,by show⟨_,Z,TS!,TS!,TU!⟩,sR!,RW m V Z al Z ys Z Z dd Z,sS!,CU! (GE (Om Z t ht)),sT!,(sX b o e hx),
sU!,DP K C "state" "House.state" Pw DG! Z Z,sV!,DP K C "give_back" "House.give_back" m6 DG! Z Z,
sW!,sp ex vs H Q,sX!,DP K C "need_holding" "House.need_holding" Lx GI! Z Z,
sY!,DP K C "add_to_record" "House.add_to_record" mz Hj! Z Z,sZ!,GX 6 Gy Ha K0! Z,
sa!,(.ins CW dx (Y0! Ey! r JRi)),sb!,(.ins CW dx (Y0! Ij! iq JRp)),
sc!,(.ins CW dx (Y0! O1! en (Y4! MN! fi Ij! iq JRp))),FG?,by have:=Ba DA! (V! n) [],
FH?,by .rintro rfl;show hb (DK! ZB!),FI?,by rw[es,Fw,C7,lw],sd!,[xz 0,Kp! (BQ+1+x6 % 60)],
FJ?,by show DP? (Z a t' b t),se!,T.obj 0 _ Z b hb,sf!,T.keep 0 _ _ Z λb hb o e=>Z,FK?,by show uO x' hz ?_,
sg!,DP K C "lose" "House.lose" m7 Kz! Z Z,sh!,(I3! s g n' u),FL?,by first|show E? A!|show L? A!|assumption,
si!,Z/\k=(AF! Z != 0),FM?,by show⟨_,A!,_,A!,l,o,A!,g,?_⟩,sj!,Kx! (aR! IL IK Fm Z Z),
FN?,by have e1:vn! Z wv [] Z Z []:=Ab,sk!,Op (Ak q hn) q,sl!,(.Compare a [op] [b] AS!),FO?,by show ug ey A! A!,
sm!,(AA EU! (AA cB (DU _))),sn!,[Kp! (wt-Iu wt),wp (Iu wt)],
so!,∀i x ys H2 (N:JH!),w1! Pr! (UJ! H2 wK! (N ys H4)),FP?,by have G2:i4! f2 gR Oc:=Ov M2.fn T,
sp!,attributeBase o Z SL (Te! o)=aO!,FQ?,by have⟨o,g,eo⟩:=Vh (k:=Pk!) (f:=v3!) (Am! Z) ha,
sq!,y! (lt Z (Cj! Z 0)),sr!,λx y H Q=>Z K x y H Q,FR?,by rw[Px! (TZ.size-j=(TZ.size-(j+1))+1),SM] at hr,
ss!,λhz=>Z _ hz _ (CT!) A!,st!,(sE hs os rs),FS?,by show⟨DL? _ _ A! Z⟩,
FT?,by have⟨t,e1⟩:=rc;rw[e1] at e;unfold W.kitOne W.kitCls at e;simp at e,su!,(letOwnedTupleGo tg (IN it) u),
sv!,DP K CW "give_back" "World.give_back" Pu UG! Z Z,sw!,DP K CW "ask_all" "World.ask_all" Hw QQ! Z Z,
sx!,FP! J.stop (GC! p H2) J.go J.RU Z,sy!,Zd! ⟨ha,Z,ad,_,fd,Z⟩,sz!,Z Kx tl σ H R,
s0!,F9! (model P w) X.A (iB! Xc!) (λr s1=>Z) E s,FU?,by show KC (Gs I hg hm ?_ cU),
s1!,∀base:Eo!,Z->QP! base.Ns->FR Z w Z mg AW! Z Z fa fd Z Z,s2!,(F4 HX NC NB Sl As (CR! Z)),
s3!,(Ol hu WP w! Z Z wk!),FV?,by show Z AB s1 σ H1 Z I1 q1,s4!,Ah!++Dr m g2 n 2,
s5!,FR P w K mg AW! Z k f fd ps sp,FW?,by show QM (pl:=pl) JSu ht,FX?,by show⟨F?,a,ns,Z,A!,Z,C8!,wP,wP,Z⟩,
s6!,JS5 A4! params body scope dV,s7!,Z AB s1 σ H1 Z Z Q I1 r1 q1,
s8!,ZQ! tN g.mPk.mg g.mPk.fn.kp g.mPk.bd (TQ! Z JRm Z),s9!,NO Z y.2 AK! l.kind l.s l.g Sc l.x,
tA!,[.Constant (bn msg) j p1],tB!,((Op! a (Xu! λ_=>(#[]:BP!))).push (MK! Er! KO! 0)).push,
FY?,[F?,y? p dx _ A! hp (Co W _ ZV) xa _ _ _ A! Hn! A!],FZ?,by change Z kindOf ((p,w)::P.zip vs) m Z=_,
Fa?,by intro a ha;simp only[SU,BU,CL,GY] at ha;rcases ha with rfl|rfl|rfl;{ show v6 };{ show h.2.1 };{ show h.2.2 },
Fb?,by show⟨this.BQ,this.AY,Rr M G x,this.hand,this.AJ,this.AK,this.holds⟩,
tC!,hR v Z Z _ _ _ A! Z jo ⟨y,_,i1,i2,Z,ey,A!,A!,A!,A!,Z⟩,
Fc?,by show Kv? (x.wl.same hi Z A! A! A!) hC! (λl h=>h) ⟨?_,GJ!⟩,
tD!,(jF (⟨F?,p,dx,_,A!,hp,Co W _ ZV,_,A!,xa,_,_,_,A!,A!,Hn!,A!,_,A!,xa,_,y? _ _ A! A! Hn! A! xa _ _ _ A! Hn! A!⟩) ex),
tE!,(mF b o eb hb n1 n2 n3),tF!,Al W' V' xL XU EC XD/\Z,
Fd?,by have aD:(l1++l2).length<=2400:=by rw[el,ZE,BJ] at z3;rw[ZE];show CF z3,
Fe?,by show⟨F?,GW? t _ QK! a _ _ A! (Ac! e2) A!⟩,Ff?,by show FO (Z _ _ _ _ _ _ Z _ _ _ Z Z) ?_,
Fg?,by show FO (Z Z A! A! hc i [] s5 _ H5 (KG!) I5 (UM YX) cO Z) ?_,tG!,WI nC r V' E' m lP mL nJ nG XU XD,
Fh?,[q,G,i,q,a,b,G,ta,tb,A!,i.at Az!,ea,eb,jA!,Z],
Fi?,[Ky? TJ! g.TK.nW,pw,UJ,_,A!,UH,Co W _ ZV,_,A!,r,_,0,_,A!,A!,Cq! QT,A!,k],yA!,(a++b).length,yB!,(λt ht=>ht),
yC!,(Po!),yD!,(OR! ?_),yE!,(JTm),yF!,(show FB! Z Z from rfl),yG!,(show B5! Z by decide),
yH!,s.heap.FunFrames Z Z,yI!,(uL! 10 n).map,yJ!,us.length=ps.length->Z,yK!,cr->Z,yL!,Z->x3! Z,yM!,v=bv q!,
Gj?,by show Mh (lo:=Z) (n:=Z) Z Z ?_ ?_,yN!,⟨F?,p,ME,_,A!,JG,av!,_,A!,k⟩,Gk?,by show B8?,
Gl?,(by rcases h with(e|⟨o,e⟩)|z),yO!,(Z Go l1 l2).objs.size=Z,yP!,wT JUG,Gm?,by .show DM? (EW! Z),
Gn?,(by injection e with e1 _),yQ!,(Bp P w).is,yR!,∃its:k!,Z,yS!,VI.2.2.2.2.2.1,yT!,(P7 ls n u).1,
yU!,(P7 ls n u).2,yV!,o.data=.seq Z n,yW!,∃o,Hf!,yX!,¬v=C9!,yY!,(At! m).filter,yZ!,(gp h H).get?,
ya!,(Z,[true,false,false]),yb!,λz=>z.hash==e.hash,yc!,λb xs e=>?_,yd!,λb ps e=>?_,ye!,λp hp=>Zo! Z,
yf!,(uV ht).elim,yg!,λj y v' e1 e2 e3=>?_,yh!,λy c e=>?_,yi!,λy c e=>Z y c (KG.look e),
Go?,by have fin:EP X AB σ Q Z s:=Z,yj!,λi j=>JUR Z Z,yk!,(MF X sc cl s1.heap.objs.size Z s1 H1 fp AB).Ok,
yl!,λf s1 q=>?_,ym!,λi H=>∃xs,Z/\xs.length<=i,yn!,∀xs,Z->Pr!,yo!,[Z,Mx! (hf! Z)],yp!,-DN!<=i,
yq!,{ s with toks:=JT5 },yr!,B5! (xs.length+zs.length),ys!,tp! (s.toks+1),yt!,s.heap.objs.size+2,
yu!,s.heap.objs.size+3,yv!,s.heap.objs.size+4,yw!,(IS! SV!).push,yx!,∀fs:DP!,Z,Gp?,(by by_cases h:tb∈ci MO!),
yy!,show xs.length+Z=Z from rfl,yz!,λy H1=>FK! Z (λx H2=>Z),y0!,JTi::us,y1!,FQ! Z=ps.length,
Gq?,by have hl:Z:=NE! Z Z,Gr?,(by rcases ZI Z with hy|hy),Gs?,by have⟨w',hw,TX⟩:=Cd! uB v v o Z Z,
y2!,λc ys ec=>?_,y3!,λ_ _ q=>ZT _ q,y4!,s'=BT!,y5!,(MP! Z).1.symm,y6!,Int×Str×Int×Int,
Gt?,by have⟨its,r',pl,hz⟩:=Fp! hq,y7!,(Av G (HH! i)).holds,y8!,d.params.defaults=[],y9!,∀{l:cr},Z,
zA!,z.length+1,Gu?,by show C6? eO,Gv?,by have⟨o,e,_⟩:=JTW,Gw?,by have⟨ob,g1,g2,g3⟩:=id hm,
zB!,(Heap.SameBut.update ..).extBut.push,zC!,jK!=m,zD!,sizeLine+1,zE!,λt=>! DK G t,zF!,AN! (ZS! Z),
zG!,∃dx,Pn! Z,zH!,G.l∈CV!,Gx?,(by rcases hb with rfl|hb),Gy?,by have⟨o,ho,hc,hd⟩:=id hit,zI!,At×Int,
Gz?,by have⟨q,hq⟩:=ZX! Z Z,zJ!,∀{ps:JTO},Z,zK!,λu=>Cy! Z Z AM,zL!,t∈db k,zM!,Ii! UZ!,zN!,Ii! (AY!≠n),
G0?,(by rcases ZM hb with hb|hb),G1?,(by rcases ZM hz with hz|hz),zO!,{ W with qs:=iD! },zP!,r∈CP! L,
G2?,(by rcases ZI m with m|m),zQ!,xB!<=h,G3?,by have⟨q,hq,e2⟩:=ZN h,G4?,by have ht:FC! Z:=ht,
G5?,by have l2:=AD! Z,zR!,ts.length<=5000,G6?,by have lt:=AD! th,G7?,(by rcases h with⟨ht,h⟩|⟨_,h⟩),
zS!,∀(m l:G!),Z,zT!,(Av G (HH! i)).AJ,zU!,show M.AJ=G.AJ from x.AJ,zV!,Ay! (k t Z _ Z Ab Z),zW!,Ay! (JTb ht),
G8?,(by rcases k with⟨h,k⟩|⟨h,k⟩),G9?,(by rcases k with k|⟨h3,k⟩),zX!,{ G with hand:=hh! Iw },
HA?,by have s1:=hn! wv Z,zY!,g4! (vl! Z),zZ!,G.hand.length<64,za!,G.AJ.length<64,zb!,G.AK.length<64,
HB?,by have:Zz! Z:=rfl,HC?,(by rcases ZM hz with rfl|hz),zc!,λH2 a t Q' sm ha ht q=>?_,
zd!,let⟨_,_,_,fr⟩:=h;Z (Z),HD?,by have⟨t,ht⟩:=ZX! ts Z,ze!,kind=S7!,zf!,kind=E4!,zg!,∀(l:Y!)(t u:T2)(v:Int),Z,
HE?,(by rcases ht with ht|⟨q,hq,ht⟩),zh!,l.kind=EJ!,zi!,l.kind=S7!,zj!,G.BQ=sB,zk!,show b=t from c.symm,
zl!,l.kind≠E4!,zm!,l.x=Mb!,zn!,l.x≠Mb!,zo!,λl hl _=>GE hl,zp!,∀r∈Z,Jr qs r,zq!,Pu!+x,zr!,Ah!++more,
zs!,λk:Nat=>EX!,HF?,(by rcases ZI hz with h1|h1),HG?,(by rcases ZM he with h1|h1),zt!,s∉ci Yl!,zu!,fi.length+1,
zv!,se++[(s,Cp!)],HH?,by have⟨j,hj,rfl⟩:=ZN h1,zw!,W.JC.length<=900,zx!,{ W with c:=Z,ls:=Z,JC:=Qd! },
HI?,by have⟨r,hr,rfl⟩:=ZN Z,zy!,λt H1 W1 l1 JF=>?_,HJ?,by have⟨n1,n2⟩:=IW! nd,HK?,by have⟨j,_,ez⟩:=P8!,
zz!,Ak! Z Z<sizeLine,z0!,∀n∈ns,Sm n,HL?,(by by_cases c2:Je!),z1!,x3 % Bt!,z2!,∀l∈VJ,l∈W.ls,
z3!,W'.ls.length<=2400,z4!,by cases Z<;>rfl,z5!,by simpa using h2,z6!,by simp[e],z7!,by simp[Str.length],
z8!,by simpa using z,z9!,ts[3]?=D! Z,HM?,by show⟨_,A!,p,C,Z,_,_,A!,Z,v!,Z,Z,Z,_,A!,Z,Z⟩,
HN?,by show⟨_,Gi? Z Z Z⟩,JAA,by show M?;show Z,HO?,by (.show Gf?),JAB,(by simpa using hw),JAC,⟨o.slots,Z⟩,
JAD,AF! MG!,JAE,Z/\Hi!/\Z,JAF,U! eh Z,JAG,U! nu Z,JAH,U! Z h,JAI,BE! Z (Af! (HD! Z)),
HP?,by show⟨Dq! eq eq2 Z,Z,Z⟩,JAJ,CR! EQ,JAK,CR! (au! WP),JAL,Aa! (x<y),JAM,VI.2.2.2.2.2.2.1,JAN,ci De!,
JAO,ci S5!,JBf,HS! (jM! Z Z) Z,JBg,HS! Z s,JBh,GE (EW! k),JBi,Z (Ix x::Bw σ []) Z Z,JBj,HT! fo! Z Z Z,
JBk,(Os! A!),JBl,KE ew Z,JBm,KE Z z,JBn,FS b2.extBut Z Z,JBo,h1.symm.trans e,JBp,vU! fs!,JBq,GA! OW!,
JBr,PM! Z Af! Z,JBs,o! (A8! Z),JBt,Mk! Z Af,JBu,Kk! (Z Z).map,JBv,A7! g!,JBw,Bq! ha,JBx,Op Z x.dl,
JBy,Op Z (GX! Z),JBz,NS! Z+1,JB0,A0! Z (Z Z),JB1,A0! Z (ih! Z Z),JB2,A8! R!,JB3,A8! (GE (Bq! Z)),
JB4,Ac! (GT! Z Z Z),JB5,UV "done",JB6,E9! No,JB7,TL! AI!,JB8,TL! K3!,JB9,TL! (pv 9),HQ?,[F?,AT? Z],JCA,TM! FD!,
JCB,JRe 3 Z Z,JCC,(Z Z (IN Z) T3!),JCD,Ba! (qs[h]?),JCE,Ba! (W.qs[h]?),JCF,FA! Fm! Z,JCG,A1! r,JCH,A1! nr,
JCI,FC! Fw!,JCJ,FC! (CP! L).map,JCK,JF! AL! Z,JCL,JF! Ij! Z,JCM,JF! MV! Z,JCN,JF! EJ! Z,JCO,Y1! H4 Z,
JCP,JG! L2.St,HR?,by show O? wpAny_standAt Z,JCQ,(V! (-1)),HS?,by show⟨_,A!,Z,A!,x,_,A!,Z,?_,Z⟩,JCR,Bb! (n+1),
JCS,firstArgMember _ _,JCT,AD! r,JCU,AJ! Z TD,JCV,FD Z TD,JCW,(FX.keepR G R),JCX,No->UQ!,
JCY,Hb! (Mb Bs Z Z PP!),JCZ,AT! BX!,JCa,by simp only[PyData.depth];decide,JCb,Bc! (d! (d! Z)),JCc,DJ! ab!,
JCd,JRf H 0,JCe,Dp! Z (Ar! CK!),JCf,hW! 4 Z Z Z,JCg,Z (List.filter_sublist.map _),JCh,vX! y,
HT?,by show ZR (C_ (x:=Z) e1 A! A! Z),JCi,S! (d! Z),JCj,Dq! Z ZA Z,JCk,TQ! w! Z Z,JCl,TQ! AI! Z Z,
JCm,ZT _ (ZT _ Z),JCn,Bu p { W with qs:=Z },JCo,GG! ha,JCp,Q (a2! bv Z) H,JCq,MQ! (AG! Z),JCr,gp! (AG! Z),
JCs,NM λhs os rs=>Z,JCt,VI.2.2.2.2.2.2.2.1,JCu,Mn! Z Z (λt=>[lc,AX!]),JCv,GH! ZH Z,JCw,GH! Z AX,
JCx,λσ H Q=>ty σ H Z,JCy,Ds! LR,JCz,Kp! v6!,JC0,hb! (0<Ho!),JC1,hb! (t∉xN!),JC2,NA W ii q G,
JC3,(by show DV?;lia),HU?,by show Ac? (Cm hu WP w! Z A!) Z,JC4,XN! n,JC5,Bv! ?_,JC6,Y6! az!,JC7,JQ p W H H2,
JC8,Kj! Fm! u,JC9,Kq! ho,JDA,Kq! eQ,JDB,Pu!=0,JDC,vs=[JU!],JDD,TX! XR! Z,JDE,EV! B4!,JDF,EV! Er!,
JDG,Y8! (h! Z),JDH,EA! (PZ! Z) Z (Z Z),JDI,Mp! e1,JDJ,Du! sh,JDK,Du! ii,JDL,(typeOf (Ep! Z)),JDM,JK! hg,
JDN,Ta! (wX! Z) Z,JDO,FI! u.there Z,JDP,CU! (GE ?_),JDQ,(Af! (HD! ls)),JDR,Pb! (Au Mc Z (Bh Z) A!) Z,
JDS,Pc! Z hr Z Z Z Z,JDT,Tb! (a8! Z) Z,JDU,∀b,An!->Z,JDV,W.qs.drop (Aj!),JDW,GL! Z GU!,JDX,Kr! AR,JDY,Ms! v6 Z,
JDZ,Mt! [],JDa,JL! NH,JDb,W.qs.take i,JDc,Mu! (hb.elim S! λh=>Z),JDd,Mu! (by simp at hb),JDe,(Ag (Ap (pv Z))),
JDf,(Ag (Ap (Bh Z))),JDg,(Ag jX!),HV?,by show j? ht,HW?,by show j? hr,HX?,by show j? hl,JDh,NE typeIs_str _,
HY?,by show BG? (ite (Z) _ _),JDi,GQ! [Z] Z,JDj,GQ! Kn! Z,JDk,(lookup_mem h),JDl,MF X sc cl C Z s1 H1 fp iT,
JDm,vs[i]?=D! v,JDn,Dp! l1 xs,JDo,EZ! 2147483647,JDp,JR! Dl!,JDq,Z (by rw[Z];simp),JDr,EN! (Int×Str×Int×Int),
JDs,Ec! L4! Z,JDt,Ec! Z i!,JDu,Pu! / 2,HZ?,by (have e:Z:=by simpa using e),JDv,hp! En!,
Ha?,by show Bn ⟨AK? t8 0,K6? sq⟩,JDw,Pj! Z M2!,JDx,wT (MJ (bn Z) cN),JDy,(B0 (EM re ta) tb),JDz,(SC hr! Z),
JD0,vl! hb,JD1,hY! a t,JD2,JRn Z WG.nd,JD3,JRn Z g7.nd,JD4,Dm! (MT H GQ) Z Z,JD5,hu! Af,
JD6,∃o,wO! g5! (H!=tb) tb o/\Z,JD7,∃o,Z/\o.cls=Zm!,JD8,xs=[T0!],JD9,Ee! Z Z 60,JEA,tt (JRh) Z (vi! Z Z),
JEB,JZ! G',JEC,Ce! (Z->Z->Z->iI!),JED,ZS! (Z l hl),JEE,Ky! (.IQ ob Z),JEF,ZU! H1 Z Z,JEG,Km! p o,JEH,Km! x o,
JEI,FS k (t ZB!) e,Hb?,by show r? (Cz (pl:=_) Z Z E3! G1 hr EI! R! Z),JEJ,y! (MJ (bn Z) cN),
JEK,Py! ⟨A!,Z,Z,A!⟩,JEL,(Ac (Cm hu EQ Z Z A!) Z),JEM,Rf (HR! h g tb) G Z,JEN,h2! Z Z Z Z Z Z (Ac Z Z),
JEO,PM! p Af! Db,Hc?,by show d! ⟨Z,Zt!⟩,JEP,Heap.SameBut KH! Z h',JEQ,P0! Z H8!,JER,PX h d es ep,
JES,Tt! (u∈ci HI!),JET,FO (Z AB Z σ H2 _ Z q2) Z,JEU,[("world",v)],JEV,(FB (p.1.map kV)),JEW,P2! Ab,
JEX,Ok GE! n,JEY,Tx! A!,JEZ,h5! Z Z s1,JEa,(.Call (Fo! Z p) Z [] AS!),JEb,NF! Z (Ap (pv Z)),
JEc,NF! Z (Ap (Bh Z)),JEd,Zg! (Z Z u Z),JEe,VI.2.2.2.2.2.2.2.2,JEf,((Z b).map Z).sum,JEg,(z! H1 Z (iM! Z)),
JEh,by unfold nums;rw[Z];show Z,JEi,EL 3 Z Z Hh! (Z),JEj,TN! (Z g).mono,JEk,(Au p6 Z Af PP!),
JEl,(Au Jt Z Af PP!),JEm,EL 2 Z Z DG! Z,JEn,GX 6 Z Z GD! Z,JEo,GX 6 Z Z Th! Z,JEp,JRt UL!,
Hd?,by have⟨s,nu⟩:=Iq! eq,JEq,iE! Oc!,JEr,v1! Z Z EO,JEs,AT (Gu m sd fd cd).lookup (E7! Z) (IN Z),
He?,by show GT? Z Ao! Z,JEt,LD! [Hv!,UV Z,T! s,K4!,Z],JEu,al=a++z::b,Hf?,by cases Z;show⟨_,_,A!,Z,Z⟩,
JEv,Zn! KH!,JEw,T5! ZM! Z,JEx,T5! Z (MI! (Z Z)),JEy,PY! b xs,JEz,Ss! S8! (q,KP (HZ GE!)),
JE0,by have:=JTt;show N? Z;show this,JE1,ZI! (AF z2 hn),JE2,q.2.2.2.2.take j,JE3,G.holds++[(t,a,[])],
JE4,LL! DG! Z,JE5,y! (W.excIn K Z mV uZ!),JE6,! Aa! Dh!,Hg?,by show DN? I1.list,JE7,Zv! l Z,JE8,Zv! Z oe,
Hh?,by (have e:Z:=UU!),JE9,(db Bl!).map,JFA,iU! XR!,JFB,vo! Rs wE Z Z Z Z,JFC,JR2 EQ,JFD,JR4 EQ Z Z,
JFE,NU! (JR! Z),JFF,YK Z it d Z EC! ep,JFG,Z1! AI!,JFH,iW! Er!,JFI,y! (Z Z).isSome,JFJ,AP! World Eo!,
JFK,AP! JTJ Eo!,JFL,EM re t,JFM,hb (by simp[z]),JFN,ia! a Z,JFO,ib! f7! Z Z Z,JFP,Yz! Z x [],JFQ,QY! H2 Z Z,
JFR,Y2! Z Z Z (Z g) hr Z Z,JFS,Qa! (pv 8),JFT,λz=>PM.1 (A5! Z),JFU,TX! XR! d,
Hi?,by show FO (ha AB s σ H _ I h) ?_,JFV,z! Z p (M8! Z (B7 Z)),JFW,CA! W.plainOver K C,JFX,CA! W.makesIn K C,
JFY,if! d Z,JFZ,if! dd Z,JFa,Nv W W' HF! L,JFb,wJ! u,JFc,Qe! (PO! p FB Z),JFd,JR5 sB r,JFe,Binds Kx fd ps [],
JFf,IsZip Z z TI TO IR,JFg,IsZip Z z TI TO (Xe! Z),JFh,EC.flatMap C9,JFi,V->ZG!,JFj,V->AP! Hp (Z),
JFk,Az f v ((k,x)::r)=(Z),JFl,(JR5 sB r':CN),JFm,(Fw! (·.1)).filter,JFn,(Xe! L),
JFo,EO! ([FG n,kd,FG h,FG g].take i).map AE!,JFp,UV! h,JFq,Ax (λ_ _ r=>Yb! k) Z,JFr,Mv! k hc,
JFs,Mv! k (λz=>hc (by simp[z])),JFt,Bg AO! tb (wt-Iu wt),JFu,UW! Z JUB Z,JFv,(ls++[JUK]),JFw,Ah!++[JUC],
JFx,UY! ht,JFy,UB X (binaryOp Z) (Z Z),JFz,Ch->Ch->A3!,JF0,Ue! s4 Z,JF1,wX! o,JF2,Jq X AB H' b,
JF3,W.fnOf Z Z Z Z Z IR kV doc pm an EO ct,JF4,(Ib! (LH! RR (JF b o e hb))),Hj?,by show B9? NR!,
JF5,q.2.2.2.1.take (j+1),JF6,Z (At! n),JF7,⟨Z,?_,xR! Z Z⟩,JF8,ac! Z Z I.bk,JF9,M5!->Z->Z->Z->M0!,JGA,ah! OR,
JGB,Og! jN! Z Z (Z) Z,JGC,hX! Er! .seq Z,JGD,ak! A!,JGE,(Iw (EM re ta) tb),JGF,am! Bf! Z Z,
Hk?,by show CA? Z Z (af! Z 2 Z Z Z),JGG,an! (Ud! hm),JGH,JSR Ah!,JGI,JSR (Ah!++[a6!]),JGJ,Kt! W.methodObj f Z,
JGK,Kt! .call f Z,Hl?,by show Kq? (I.turned (t':=C7!) (Tq! xX!) f0 f1 f3 f4 f5),JGL,JST Z [aa!,DH!,Br!,B9!],
JGM,Rf (Ze! JC!) G Z,JGN,Rf (Ze! JD!) G Z,JGO,DZ K H1 a xs,JGP,DZ K H2 a xs,Hm?,by show CC? (Z >>= _),
JGQ,JSV Z s3,Hn?,[CD? nX Z],JGR,JSH Z hb z1,JGS,h AB s σ H Z I Z,JGT,EP X AB σ Q Z s',JGU,T2->G!,JGV,Dt!=E8! Z,
Ho?,by rw[this,Bool.or_true],Hp?,by show DT? ht,Hq?,by subst e;show xk! xY!,JGW,L! Int.add_right_comm _,
JGX,NE s4 el,JGY,AR (by rw[Z]),JGZ,(MP! e).2,JGa,EL 3 Z Z Hh! Z,JGb,jP! (Lz (k:=Z) (f:=Z) _ Z),JGc,jQ! u,
JGd,(V! a t),JGe,(V! PP t),JGf,λi=>vs.getD i IR,JGg,jW! Rs,JGh,Nw W W' HF! L,JGi,jY! d,JGj,Cu xL n u,
JGk,Ci xL n u,JGl,yT X.env.scope x,JGm,ja! (Fh (Z Br)),JGn,wF! JR9 ZD! Z,JGo,Qb! (kvs[i]?) v,
JGp,Rd H a (wv Db),Hr?,by show DY? h1,JGq,(x.sD.X_ l hl nb),JGr,JSZ Z Z Z Z (JSZ Z Z Z (TQ! GF! GF! GF!) Z),
Hs?,by show DZ? ea,JGs,PI X (Fo! x px) iter wi,JGt,jl! Hh! Z,JGu,EH _ Z (QV (Z Z _)),JGv,JSm Z hd,
JGw,PS! (Du (El (Eo hu Rs w!))),JGx,Ix u::Ix v::Ix v2::Ix v3::vX! v4,JGy,w5! Z Z (Tb! (Y6! Z) Z),
Ht?,by have hr:r∈Ub!:=hr,JGz,(JX s4).sq,Hu?,by have s2:=ET! Z ha,JG0,{ W with qs:=iD!,c:=c,ls:=MZ! },
JG1,{ W with qs:=iD!,c:=c,ls:=KX!++L },JG2,(Cg! q!),JG3,(D8! q!),JG4,(W2.same s3),JG5,vs[1]?=D! Z,
JG6,vs[2]?=D! Z,JG7,Z=D! (th,a,hl),JG8,x.ma.lt _ hl,JG9,BE! l (EO! ws.map AE!),JHA,xD! V,JHB,bn SZ! t,
JHC,(wpAny_updateSeq Z A! Z Z Z),JHD,xE! (DR _),JHE,(FE.mp t6).1,JHF,xG! K3!,
Hv?,by show⟨F?,GU? Z Z Z Z Z (JH.t (k:=tk FD!) Z Z (Pa! Z))⟩,JHG,xH! zH Z Z,Hw?,by show O? wpAny_handled ?_,
JHH,MW! (Z Z T),JHI,Dp! a JUE,JHJ,xI! Z hb,JHK,xJ! Z iT! Z,Hx?,by show Gb? Z (Gz! not Z),JHL,[h! ka,T! PP],
JHM,xQ! G.holds.find?,JHN,Ph! (Be F8 JRm Af),JHO,Ph! (Be F8 JT4 Af),JHP,(MQ! (AG! Zl!)).map,JHQ,xV! ho Z,
JHR,xW! Z h.2.1,JHS,(I.LC x c e),JHT,xd! 1,Hy?,by show B3? (field (IN it) 1),Hz?,by show B3? (field (IN it) 0),
JHU,DC Kx H a xs,JHV,UB X (SO! Z) (fk Z),JHW,UB X (SO! Z) (Z Kx),JHX,R (.ok (.ret (Ep! Z))) Z,JHY,Dr m g n 1,
JHZ,Z it d i EC! ep,JHa,xo! 20,JHb,Wt BD! G tb x G',JHc,Wt BD! G tb wt G',JHd,y.next hi Z (Z) (Yh! Z) GP!,
JHe,xu! Eu!,JHf,xw! (Z GA H'),JHg,(b2 p hp).1,JHh,DZ K H a (CL! wp),JHi,DZ K H l (CL! wp),
H0?,by show⟨Bp!,W.pd,W.c,HF!,_,_,_,_,A!,Z,CW! Z,Z⟩,JHj,HT! (B7 G).lookup (E7! Z) V! Z,JHk,x2! (Z),
H1?,by show ZR (C_ ho hd (x:=Z) A! ?_),JHl,x5! (El (Eo hu Z Z)) Z,JHm,LG.mpr λq _=>sK,JHn,(v0::Kl!),JHo,JTK H',
JHp,FE! Z/\M1!,JHq,JTL (H!,v),JHr,S9! (hZ! i) MZ!,H2?,by have q:Zz! " ":=rfl,JHs,MI! (Z QR),
JHt,(by rw[z,Z] at e;cases e),JHu,⟨Z,(f2 b hb).2⟩,JHv,FS VH (NE s3 Z) Z,JHw,plainId_quiet IG _,
JHx,ER! arrOf Z CI!,JHy,JTT Z Z Z Z (Hb! Z),JHz,(Be Nh w! Af),JH0,GH! O0 (UK! (Fy! Z)),JH1,KS! z ".",
JH2,JTV ha Z,JH3,DZ K H p ys,JH4,(Ah s1 s2),JH5,by show CF hn,JH6,Pl! r Dl Z,
H3?,by show Cv! Z (PZ (a:=Z) Z ?_),JH7,[DF!,DH!,K4!,B9!],JH8,JTd EQ Z Z,JH9,Tv! ta (FK! tb (λy H2=>Z)),
JIA,JTf Yl!,JIB,(Z++JTh Z++Z).Perm (rg m),JIC,ic! PE! (KP (HZ DI!)),JID,K1! (FJ!/\Hi!/\Z),JIE,i_ Go g e ww,
JIF,⟨H,ZH!,U! (Z r) q⟩,JIG,ok.hk t ht e,JIH,JTn Z r2,H4?,by show K0? Z Z (Z) Z Z,JII,JTo OX,JIJ,ag! _ ?_,
JIK,JTq [("world",Z)],JIL,JTr Uc!,JIM,JTs EQ,H5?,[CE? C dx],JIN,JTu ?_,JIO,(CS ?_ UM!),JIP,(Ih A! T.range Z),
JIQ,⟨bo,ny,nq⟩,JIR,(Be Cb (Be Cb Z As) (Z1! Z)),H6?,by show K1? Z hn,JIS,JTw (i9 h' g e ww) Z,JUd,wy! LI! cd,
H7?,by show K2? QS,H8?,[F?,p,CW,dx,_],JIT,JTx En,H9?,by show YD! ⟨Z,Z,λu hu v hv z=>?_⟩,JIU,JTz (u∉JJ!),
JIV,IE X (G2! Z) (Z Kx),JIW,JT2 Z (AD! Z),JIX,KS CP H p d c ls,IA?,by have hx:T6!=x:=ZO hx,JIY,GJ H2 a y o,
JIZ,JT3 Bs Z Z,JIa,yh λ_ _ _ _ _ _ _ q=>Z q,JIb,∀w' s',jL!->Z->Q w' s',JIc,JT6 aY!,JId,JT7 (lt i j),
JIe,JT8 (G.AJ.length<=1000) Z,JIf,DW (k+1) X.A,JIg,(D! (Fo! x Z)),JIh,YA! Z TO a b,JIi,Inv Z [] GA H' s',
JIj,Rd H d (wv (Z at!)),JIk,JUH (gk! (NC! Z)),JIq,(Ii Tz Rs Ma Z),JIr,JUI WP,JIs,JUN aS,
JIt,JUP (Z Go l1 l2).objs.size,JIu,(Cd! Dz f (λi:Nat=>Z) R Z Z),IB?,by show K7? ?_ Z Z,JIv,pD h' g e ww Z,
JIw,JUS Z eD,JIx,λi j=>bv (XL! (j<i)),JIy,JUT ZD! Z,IC?,[K9? Z h Z],JIz,(pm.map _).nodup_iff.mpr Z,
JI0,AG.mpr (Bv! Z),JI1,λp hp=>Z p (AH! hp),JI2,[T! Z,h! xs],JI3,λe he=>Z e (AH! he),JI4,l.most=Ix n,
JI5,λr=>xZ! H7!,JI6,AN! (Op Z (FT! x.hl)),JI7,(P1!).find?,JI8,al++JUL h,JI9,(tk FD!),JUe,(aX! Il!),
JJA,xf! (aW!),JJB,K51F.aL (K51F.IM Z),JJC,by change PR!<=Z;show DO!,JJD,(x.at_ y hy).keep (Z) Z,
JJE,Q Av! (PT! l Z),JJF,KE FR! e,JJG,FS kp (t ZB!) Z,
ID?,[_,A!,p,C,Z,_,_,A!,Z,y? v! Z Z Z A! (Ua! Z) _ Z _ Z Z Z Z],JJH,(λz=>LF! n z Z),JJI,by rw[Z];show ES! hi,
JJJ,AD (by simp;lia),JJK,DM (Z) (show TV! Z by decide),IE?,by .rw[Ad λz=>by rw[z,e] at q;cases q];show q,
JJL,by change ZP!=_;rw[Z,cY],JJM,by have:=Jm Z Z;show N? Z;show this,JJN,Tb! Ed! QC,JJO,x.all c hc,
JJP,EY! Fw! HG!,JJQ,FX.IZ (k:=Pk!) Z Z,IF?,by .rw[AL e,AL (Zi! Z)],IG?,by .show⟨_,Z,λv q=>GG! q⟩,
JJR,∀t,QH G' t->FS!\/O_ Z t,JJS,HT! (F8! H3 Z Z Z) Z Bk Z,IH?,by (have e:t=FD!:=by simpa using h),
II?,by show⟨_,A!,Z,GE (Kq! Z),?_⟩,JJT,Au! p _ hk,IJ?,by change TF! Z+B<=_,
IK?,by (have:t=FD!:=by simpa using ht),JJU,s.heap.IsItemsView v d,JJV,Pv! Z (JTg Z AI! Z Z) Z,
JJW,ER! JTN i AE!,JJX,((u7!/\JL! NJ)\/Z),JJY,ZD _ (AH! (AH! (AH! (BL hq)))),JJZ,iF! (NE PR eb),
JJa,∀b u,b≠e->Z->Kj! XR! u,JJb,Zp! (λc H1=>B3! (c=true) Z Z),JJc,∀h',Z->v8! it->Z,JJd,(Fh (xa! FG)),
JJe,(Ax (λ_ _ r=>Z) p),IL?,by show O? ZR (KZ Z (ZS ?_)),JJf,DZ Kx H a xs,JJg,⟨H,I,q⟩,
JJh,σ=Z/\GL! d (.IQ o Zf!)/\Z/\Z/\Z/\Z,IM?,by show⟨o,e,ex.2.1⟩,JJi,JSO Z Z (Bb Z HJ Z Z Z Z R! A9 Z),
JJj,ad! d l,JJk,JH.k (k:=AV! (Z)) Z (KE O1 Z),JJl,a4! (NE s3 Y_),JJm,∀{l:Q!},w7! Z->Z,
IN?,by show⟨F?,t,_,_,_,A!,A!,Z,A!,?_⟩,JJn,Hs (Ze! Z) G Z IR,JJo,jd! (MW! (Z g)) HJ Z Z Z Z,
JJp,jp! (JST Z [h! q,va,vb]),JJq,jq! (Z I.ok) Z,IO?,by show GZ? Z wv [],
JJr,xC! US! (∃vs,FU!/\h.DictOf Zq! a vs),IP?,by show k _ Z (g4! (xl! Z)),JJs,xc! HY ds,
IQ?,by show S? Z ⟨Z,ob,_,Z,λo v z=>?_,A!⟩,JJt,SE hl rows,JJu,WM Ed! QC,JJv,(XQ! C dx),
JJw,by change Z<Bt!;show G6! Z,JJx,RW m W W' al xL ys EC H0 dd Z,JJy,(Lb m b S1),
IR?,by show⟨Z,_,A!,Ks! (Cq! Z) Z⟩,JJz,PC X op a b Z,JJ0,Ce (db a7!) (tk t),
IS?,by show K4? Z (JTP Z) Z (JTQ Z) Z Z,JJ1,Wg D m He! B6! (Ss! S8! HY!) Z,JJ2,Dm! (TM H) bs os,
JJ3,Un (SS Z) Z H H' Go Gy!,JJ4,mR H' W.c Z ts L Z,JJ5,es.toList=Z (fm! knd),JJ6,xh! Z (Z)-Ho!,
JJ7,λkv=>if kv.1=k then(kv.1,Z) else kv,JJ8,QZ!/\SV a/\SV b,JJ9,X0! LG! Z (Xe! Z),
JKA,⟨λb o e n hb hx=>?_,λb o e n hb hx=>?_,Z,λb o e hx=>?_,Z,Z,Z⟩,JKB,Z-QG t Z+QG t r.2,
IT?,by show SK Z xM! Z (AC! Z) Z Z,JKC,OB BC! LK! (Ss! S8! HY!) Z,JKD,Y9! H1 r2 MX!,JKE,(KU! (ED! Z) (Jcg Z)),
JKF,Ph I JTj hs Z Z,JKG,XH (Z h a b) IR "ok",JKH,P9! e e2 (pP x.qs _ Z),JKI,v9! [DH!,Br!,B9!],
IU?,[_,A!,A!,Z,A!,Z,A!,Bq! Z,Z],IV?,[_,A!,Z,Hq!,p,W,A!,Z,Z],JKJ,∀t,t∈ts↔(F t/\Z),
JKK,EA! (HD! Z) (AV! (Z):Key) (CK! Z)=HD! (Z),JKL,Z c o e n1 n2,JKM,xr! Z->Hc! sp vs -> JUQ Z,
IW?,[Z,Z,Z,Z,Z,Z,Z,_,A!,Z,_,_,A!,A!,_,A!,?_],JKN,JUF Z (Z h ta tb G Z),JKO,storedH Z Ag! LE! x.2.2,
IX?,by have g1:GJ H WF T3! (UR! Z):=Z,
IY?,by have ex:=YS;dsimp only [M_] at ex;show OT Z ex;show FS run (λv dv W' D' al' EC H' tl ef OS fr fp eh=>JSB (wn v dv W' D' xL EC H' t tl ef OS fr fp eh ht)) (vS! (JSE i (WK i H4 t5 ef (Ah (Ai hx) s4) h5))),
IZ?,[Z,dx,[],A!,hp,Z,Z,JT1,?_],JKP,Un fs ex H Z h h',JKQ,CX BV! H s E Z Z,
JKR,∀b,(b=io\/b=I.sd\/b=I.fd\/b=I.cd)->Z,JKS,W.looks_findIn (M:=model B2! w) X Z,JKT,aK Go x dx C mA,
Ia?,by show⟨x,_,_,A!,A!,Z,C5 (Z),?_⟩,JKU,PQ Bm! X.w H' h',JKV,K51F.a7 ZV ZV ZV ZV,JKW,λH2 s2=>k H2 (Ah s1 s2),
Ib?,by show Mc! hi Z A! (Md F4! Z) (λt _=>?_) Z,JKX,RW m W W al al ys ys Z dd Z,
Ic?,by show⟨Z,hz!,hz!,hz!,hz!,Z,Z,JUM Z,Z⟩,Id?,by show Z (tt:=H6!) (te:=Z) (be:=[]) Z Z Z ?_ ?_,
JKY,(OX! b o e n hx),JKZ,I.hG (its':=Z) hH e KB Z ?_,
JKa,∀(H2:Hp) (a:Addr) (t:T2) (Q':Jf!),FJ!->JT0->t∈ts->Q' (b t) H2->JT9 Q',
Ie?,by show O.tr _ _ _ (h.lt Z) wH! (h.lt Z) Z Z,JKb,step (o:=wv []) Ab (c0 Z) Z,
JKc,(xs! Rs F7! g.mWLe.mt (og g) OU g.mWLe.bd),JKd,FR P w K mg AW! CX k f fd ps Z,
If?,by show O7 (K:=K) (a:=Z) (xs:=Z) (Z) Z (Z) ?_ ?_,JKe,WL Z p pw p0 m n W V D E al bl ys zs,
JKf,JUZ GP! T9! iC! g1 (CU! (GE Z)) g2 (λ_ c e=>FS hR c e),JKg,WI H pw V D m n d A B al ys,
Ig?,by show⟨p,BQ,W,l1,l2,t,BQ,s,g,Z,_,A!,Az!,el,et,λH1 W1 JF=>?_⟩,JKh,ks.filter xK!,JKi,hs.Perm Ax!,
JKj,Qc! d.name fa -> Z,JKk,(λx y H Q=>HK λi j=>Z),JKl,L8! Z (Fn! Z SL),JKm,updateSeq S Z,
JKn,((Z Z Z).extBut Z Z).extBut Z Z,JKo,jC Z Uf Z Z,JKp,e=x\/PM! e Gx! x,JKq,Sm lc/\Sm AX!,
Ih?,(by rcases h with(h|⟨r,hr,ht⟩)|h),JKr,(p.1.map AV!:Ko!),JKs,∃u,Zu! e u,JKt,B3! Cr! PP Z,
JKu,{ cls:=GB! B4!,data:=.seq CH! n },JKv,b∈([]:Z!),Ii?,by rw[hU! OH hj] at e2,JKw,λσ H=>Z (σ.set i KM) H,
JKx,D7! (∃o,Z/\∀v,o.data≠OT! v),JKy,λσ H R=>ta σ H λvs H1=>Z,
JKz,∀(i j:Int) (t u:Tok) (s:Shared) (Q:Os) (E:Os),Z,Ij?,by change EY! (gp! (AG! Z)).map Z,
JK0,Z (λt:T2=>t) (l:=Z) Z,JK1,Fs! (Zb! hy),Ik?,by have hl:Z:=A0! Z (aw! F.len Z),JK2,∃q,Ha! XR! q,JK3,H5! > 0,
Il?,by have⟨j,h1,h2,h3,h4,h5⟩:=za he,JK4,∀(s:Shared) (u:Value),jm! (Hl! [u]) Z,JK5,l++[(t,v)],
JK6,{ s1 with heap:=s1.heap.push (hX! Z .fields Z) },JK7,(Z mU).reverse,
JK8,Ib! (h8! (Ad (λz=>hb (by rw[z];simp[BX])))),JK9,∀o v,Z d≠Ix (.IQ o v),JLA,acc.toList=Ar! D4!,
JLB,λt=>by unfold QZ;rw[AD Z],JLC,G.h::G.o::G.l::G.r::Z,JLD,λl=>Aa! (AY!=n),JLE,G.hand++Mx G,JLF,FD!∉Mo!,
JLG,{ G with BF:=Hd!,holds:=Z re Z Z },Im?,by have S6:=S5.same s6,JLH,x / 3 % jk!,
In?,by have⟨⟨dx,h1⟩,hd,le,nd⟩:=id S,JLI,W.c+AF! L.length,Io?,(by rcases QO hz with hz|rfl),
JLJ,if u=t then v else Aj l u,JLK,∀{l:cr} {i:Nat} {q r:gi!},Z,Ip?,(by rcases(Dg _ _ _).2.2 t h with h|h),
Iq?,by have cF:JQ p W H Z:=PI! Z,JLL,{ I with cs:=JRq I.cs },JLM,{ W with OJ:=Z,c:=ZP!,ls:=MZ! },
JLN,pd::po::JS4,JLO,λt2 oN=>⟨GR? t2 Z (id! Ab)⟩,JLP,∀cls i,cq ww i->Z->Z,Ir?,by have bg:=Yw! s2,
JLQ,∀ds,Z->∀x∈ds,∃n,x=Z,JLR,(r.append r2),JLS,(Sj WP),JLT,H!=L3! Z,
Is?,by show⟨Au?,p,C,Z,_,_,A!,Z,v!,Z,Z,Z,Z,A!,Z,_,A!,?_⟩,JLU,wv (db Z),JLV,Z (MM! .w),
JLW,(by first|rfl|(simp only[firstArgMember];rfl)),JLX,⟨q,hq⟩,JLY,U! AM W2,JLZ,U! ZF Ab,JLa,U! Ka! ok.on,
JLb,Z (UM Z) (NE T.obj Z),JLc,(z! (PO! Z Gx! Z) Z Z),JLd,AP! Ch Ch,JLe,(dz z).2.1,
JLf,(Z (b,o) (FH! (FH! (Fn hb e)))).2.1,JLg,Inv X AB Z H s',JLh,HT! FT.lookup Z Z gn,JLi,KE bX hb,
JLj,A0! h2 hr,It?,by change [v6!]=[Dl!+sB],JLk,Al! Th! Th! Z,JLl,Al! h1! h1! Z,Iu?,by show⟨_,Ac Z (Ag Z),?_⟩,
JLm,B0 M.hand tb,JLn,Z/\tn i Z/\(D7! M1!)/\Z,JLo,(D! (CK! a)),JLp,AT l.lookup y k,JLq,operate Z (getItem Z Z),
JLr,Km! r1 (hT! Ya!),JLs,.BK (DZ.of Z) (Z Z),Iv?,by show Ax (OR! ?_) Z,
JLt,Z/\Z/\Z/\DH Z H'/\∀b ob,Yy! ob->b≠d->Ku! ob,JLu,ER! OO! Z (λo=>Z),JLv,(x::BX (JR5 sB r')),
Iw?,by show ZR (FH (Z) (Z) ta!),JLw,0<=QG t r.2,JLx,by rw[E4,z] at h;lia,
Ix?,by show⟨a?,dx,_,A!,hp,Hq!,_,A!,p,Z,W,A!,Z,Z⟩,JLy,((If! (AG! Cr!)).map CI!).getD 0,
JLz,(qs[h]?.map Z).getD 0,JL0,⟨Z,H,ZH!,BN!,Z⟩,JL1,CB! z hz,JL2,(λz=>by rw[z,Z] at hp;cases hp),JL3,(Eq! h tb),
JL4,(Aj BL! tb),JL5,ax!=D! (t,Z),JL6,[DF!,UV v,h! r],JL7,TW! hi (λv s1 h1=>FO h1 λlY s2 h2=>?_),
Iy?,by .rw[Ad λz=>by rw[z,e] at q;cases q];show q,JL8,[My!,T! j],JL9,Ta! _ (SS! hc),JMA,Cw! xs.all Rg,
JMB,Cw! Builtin.Dict_items.ownsTuple ST!,Iz?,by show Ct! (x.BQ▸n) n',I0?,by show Ct! (x.BQ▸n') n,
JMC,GL! xf UX!,JMD,GM! hb Zt!,JME,Pd! Z (.ins CI dx (Gu I.m E6! Dj! EK!)),JMF,λi=>L.getD i ((0,0),0),
JMG,(AL (λz=>Z (by injection z))),JMH,I.base.RY b ps e,I1?,by rw[hp] at h;show AJ! h.symm Z,JMI,Cy! f2 g2 Z,
I2?,by show ZR (EE Z KB Z),JMJ,(dz z).2.2,JMK,Mz! (1<=sh) (CJ TD hs),JML,(SC (bn _) (SC hr! Z)),
JMM,(ZR (ZS (ZR ?_))),JMN,[xz n,xz G0!],JMO,M3! [UV Z,DH!],JMP,(.IQ o (.BK xs)),JMQ,ve! Bm hn Rs,
JMR,BS Z fA (QF hl t),JMS,(cF b o eb hb),JMT,C_ jk tH (x:=Z) A! Z,JMU,i' K H v t,I3?,by show DJ? Z (I.kept kp),
JMV,(by rw[Z] at q;cases q),I4?,[p,CW,Z,_,_,A!,Z,wE,Z,Z,_,A!,Z,_,A!,Z,?_],JUf,Tu! DC! (k q∉Z),
JMW,Dm! (ON Z) Z as,JMX,Z (hX! Z .fields (#[h! Z,V! 0 0])),JMY,((wt=0/\JL! NW)\/Z),
JMZ,h6! (by rw[v6];show⟨Z,Ab⟩),JMa,(z! H1 c JTR),JMb,Pi Z KM (D! Z),JMc,(Bg BL! tb (Tw!+(Z))),
JMd,R v W' Z ys H1,I5?,by show B2? (Z+(Ct t ls+QZ t Z)),JMe,Zk! (PR!+sB),I6?,by (have h2:Z:=U! CM (NX _ _)),
I7?,by rw[kp] at e;show AJ! e ZV,JMf,(A7 Yq Dk! g.T.VL CK (hj! Z (Sk (v:=.ty Z) Dk! Z Z A!))),
JMg,(Z λS=>Mo t S.2.2).sum,I8?,by show O? ZR (wpAny_onRaise (Cv! (QW! Builtin.SmallTypes.nextOf Z) Z)),
JMh,iV! (b≠I.sd) (b≠I.fd) Z,JMi,(Ck (Bt 0) (Ck Z F6)),JMj,FS kE g.X2 (.no _ q G 2 hi Z A! A! A!),
JMk,((λh=>Z) ∘ Nat.succ)=λh=>Z,JMl,ia! d l,JMm,ib! .Constant Z j Z,JMn,E8! (Bg BL! Z (Z)),
JMo,CW! (AA (AA (BM Z) Z) m5),JMp,IS! (hX! B4! .seq Z),JMq,K1! (Y1! H2 r/\Z/\Z),JMr,ih! r hr,
JMs,Qf! l.lookup l.lookup,JMt,⟨I.ok,I.os,SL!,Z,Z,Z,KF!,I.LC,Eb!,Z,Z⟩,JMu,FS kp (t ZB!) e,JMv,PK! H io I,
JMw,Bs! 2 f1 d1 Z Z,JMx,Ce (Z Z) (AV! n),I9?,[_,A!,_,A!,Z,_,A!,JH.t (k:=tk Z) Z Z (Pa! Z),?_],
JA?,by show B7? (HO.dT ((Z).map Z)=Z (Z)),JMy,∀t,t∈Ra↔t∈Rb,JMz,JSO Mt Z (JUX g.TR.str),
JM0,Z->PK! H' io Z->XY p W I H H'->Z->M0!,JM1,Bs! 3 f1 d1 Z Z,JM2,as! Fc re,
JB?,by show Kq? (I.kept (t':=C7!) Z),JM3,((At! qs.length).map λh=>Z).sum,JC?,by have hn:A7! HB!:=Tm! tj!,
JM4,(envOfC qual NT! Uf f EO),JM5,MT H1 W.GQ,JM6,Do TD A!,JM7,GJ Z Z (V! Z) (D! Z),JM8,Classical.choose (o9 h),
JD?,by show ZS ⟨_,A!,h! HB!,_,Z,A!,Z⟩,JE?,by show Call_ (Qc I hg hm Z Z),JF?,[DU?,DL? (FF! Z Z Z) (Xc ZV) _ Z],
JM9,(Be Cf JRm EQ),JNA,Ea! (k o e) r,JNB,EL 1 Z Z [HL!] Kk,JNC,jb! (Z Kx tl),JND,⟨v,H,I,r,h⟩,
JG?,by have:=BP.mp e r0 YT,JNE,vn! Dj! Af! aP! Z Af! Z,JNF,vn! EK! Af! i6! Z Af! Z,JNG,wO! PD! (H!=tb) tb wt,
JNH,IsPart vl lo,JNI,IsPart vu hi,JNJ,Z Z g.T g.mNe g.mQH Z Z,JNK,w6! 5 3,JNL,H d≠HU! Z Z,JNM,AT fs.lookup f v,
JH?,by (have hj:j<m:=NE! lm Z),JI?,by show⟨F?,GU? dx hp Z Z Z Z⟩,JNN,Z=IM (L.take i)++[BF!],JNO,xj! G0 Hd Z,
JNP,LL.lt s g ts,JNQ,(backToKw IX (keywordEach [] SL)).all (λx=>x.1.isSome),JNR,xq! Z [e] (Z td ty),
JNS,OB.less hi Z (Z) (Yh! (HZ! r Z ht)) GP!,JJ?,[Gd?,K5? Z GW!],JNT,HT! (F8! Z Z Af! []) Z Af! [],
JNU,xz! S2.fld ME,JNV,SF H t k Z s g n u,JNW,hm! (Km! Z (Af! (HD! l))) Z/\JQ p W H (Km! Z (Af! (HD! l))),
JNX,(sB+Bt!*1).toNat,JNY,AN! (by have:¬Cr!:=JTl h;show Y?),JNZ,((C4 (Cv L) L).filter al!),JNa,(bn (Br t)),
JNb,Rep K H x d,JNc,(by have:=ES! ea;show lt▸this),JNd,JTS F7! Z (Z g) Z Z Z,JNe,∀b,FE! Fm!->g b,
JNf,[xz G.BQ,xz G.AY],JK?,by show Kz? (Aj (Z) t) Z,JNg,NM! WF Dl BL!,JL?,by show K3? o d,
JNh,by change W.JC.length<=d+1;show CC a3,JNi,PY H' W.c Z Z Z L gj!,
JM?,by show Gh? Z h (Fu (dd:=Z h) g x1 hn hB hd m4 cB wT! bad),
JN?,by have hb:AU! Z:=NS.mpr h;simp only[List.lookup,hb,Z],JNj,Er (DM!) BL! (jI! Z),JNk,JUD S7! sn,
JNl,JUJ (Z []) Z (Z Go I.big),JNm,(Fz (OV dd) (SU dd)),JNn,JUU (L8! AS! (Fn! (e::es) SL)),
JNo,s.heap.IsList l2 ys,JNp,x.there hl Z hi Z,JNq,∃a,as[j]?=D! a/\Z,JNr,SW! (k=f) ((k,v)::r) Z,
JO?,by have e0:AF! (Ak! W.qs.map a1!)=W.qs.length:=sK,JP?,by have⟨⟨q,G⟩,hi⟩:=Mm! BC! PE! (by rw[Mi!];lia),
JNs,(G2! "list.extend.loop" (Hl! Z)),JNt,(KN! ns ms),JNu,((db Z).map Z)=db Z,JNv,((Q5 ec Z (λz=>nomatch z))),
JNw,(by induction p with | nil=>show R! | cons r _ ih=>show BM? (NE Z r)),
JNx,(IR! b (Z Z)).trans (fq! b o e n hb hx),JQ?,by change Str.length Z<=10;show AI?,JNy,A0! BH (JV (l₂:=Z)),
JNz,Dp! Z (cs.map CK!),JR?,by show ZR (wpAny_newList ?_ Z),JN0,bindArgs (Z) aq!=BU! xv!,JN1,⟨_,Z,A!,_,A!⟩,
JN2,ve! Jo T.len Rs,JN3,Kt! .call fa (Hl! JT!),JN4,b∈B5 l1\/b∈B5 l2,JN5,cQ G tb sh HV,JN6,H4! (u=1) 5 3,
JN7,Ji! s2 s3 s4,JN8,PS X (.Assign [Z] Z AS!) Z,JN9,Inv Z [] (start N vs) H s1,
JS?,(by (have:q=(FD!,a,[]):=by simpa using hq);rw[this] at ht;cases ht),JOA,XV->M_ H' t Z->Z->TR! t,
JOB,DE Z (show Bt!≠0 by lia),JT?,[A!,A!,Z,_,_,A!,A!,Z,Z],JU?,by show ZR (C_ h1 h3 Z ?_),
JOC,(AG.mpr ⟨Z,by rw[h.keys];simpa using ht⟩),JOD,FS fr Ab (fw S.dl),JOE,(Z b (BN (AU e))).trans (ZT _ e),
JV?,by show⟨z,Cs! Z,e,c⟩,JOF,L_ p b ts H i ys H2,JOG,[.n h,.t a.1 a.2,.t b.1 b.2],
JOH,⟨Iq!,x.AY,Rr M G x,Z,Z,Z,YJ!⟩,JOI,(Ot Z Z Z Dk! Z Z R! A9 jg!),JOJ,ic! OX.toNat (Fg G tb B6! Z),
JOK,Gh (fs.take i) (ws.take i),JOL,Bt 0 (JRh) H4 JTY,JOM,F.run Z Z s H Z us vs Q Z hr Z Z Z Z,
JON,p7 wi be tt te σ H Z,
JOO,o! ⟨q,G,iw,q,G,hs,os,rs,A!,iw.at Z,gd.h2,gd.o2,gd.r2,KO.pm,KO.pw,KO.PL,JA!,KO.wr,Z⟩,JOP,h.Ns1 dx mA,
JOQ,knd.keeps Z gd aJ Z,JOR,∀b xs,JTk->Ku! (FB xs),JOS,(IS! (aj! Fk! x4!)).objs.size,JOT,λz=>Z _ (CZ! z q),
JW?,by have:Z:=TA! (Eq.trans Z Z),JOU,vs=[DF!,DH!,va,vb],JOV,if([]:w9!).isEmpty then 0 else Z,
JOW,λi h h' st k=>st.at λo e=>jZ! o e,JX?,by have UM:∀{H':Hp},(JTM)->Z:=λhn b hb=>Z,
JOX,∀i x σ H,Pr!->Pv i σ H->x1! x,JY?,by have e:=Gz! (λz=>z.cps.toList) e,
JOY,if v<0 then JX! (v+DN!) else min v.toNat n,JOZ,(EX!,a k,Z k),JOa,∀l,Tl! P5! l Z,
JZ?,by have f:ha! Hf! Z (Km! Z (Af! (HD! l))):=λb o e h=>h8! (Ad h),Ja?,by have h3:=Pa (λq:T2×Int=>Z) Z,
JOb,∀(l:Addr)(H':Hp),P5!->Z->Z->TR! l,Jb?,by have⟨W4,VH⟩:=W3.LZ S4 bO,Jc?,by have⟨W3,aS⟩:=W2.LZ S3 VX,
Jd?,by have XF:=MY! W2 aS,JOc,(pm.filter λq=>! Z).length_eq,JOd,∀k<n,Ce Z (S! EX!)=D! (Z (Z k)),
Je?,by have kt:=MY! Az! wf,Jf?,by have⟨ad,fd⟩:=s.ok.find ha hh,
JOe,{ W with c:=ZP!,ls:=KX!++L,GQ:=EL!,JC:=W.JC },Jg?,by have lq:DW 4 _:=Y3!,Jh?,by have iw:Z:=xA! Z CZ hq,
JOf,(x.UP hi RT),JOg,(uW vG Af),Ji?,by show⟨_,A!,_,_,A!,A!,_,A!,?_⟩,JOh,Array (ON! DY!),
JOi,storedH_new (atKey_none_of_get no),JOj,(Dl (QU! (AG! M2!))),JOk,by rw[typeLookup_type,YE];kernel_rfl,
Jj?,by show FO (Z) ?_;rintro _ s8 ⟨vV,H8,I8,rfl,rfl⟩;show⟨Z,A!,I8,Z⟩,JOl,SE hl (CP! Z),JOm,fB K H a xs,
JOn,by subst z;rw[Z] at mu;show mu,JOo,{ cls:=IR,data:=.fields ps },JOp,knd.keeps Z g dat P3!,
JOq,Dq! y1 y2 x.ys,JOr,Mn! BX! (At! Z).map (λ(i:Nat)=>c+1+sB),JOs,(by show AA Dr! Dr!),
JOt,(by show Nat.sub_lt Dr! TD),Jk?,[A!,Z,_,A!,Z,A!,_,A!,?_],
JOu,Z->Z->Nw W W' iS! L->Z->AT H' y xT!->R aZ! W' Z ys H',JOv,Y9! H3 l1 Ya!,
JOw,DP K C "is_spent" "House.is_spent" T8 Kn! Z Z,JOx,⟨0,0,0,0⟩,
JOy,(GO! (FM _ _ _ _).symm.trans h (by intro q;cases q)),JOz,⟨A!,A!,A!,A!,Z⟩,JO0,ZR (EE Z KB Z),
JO1,JN! "parted" Lw Kb! Z Z,JO2,JN! u5! Hz F1! Z Z,JO3,JN! "listed" Ly HL! Z Z,
JO4,Tj! "state" "World.state" Oe Z Z,JO5,Heap.ExtBut it Go h',JO6,Kw! ⟨JSV Z Z,?_,Ab⟩,
JO7,by have h1:Ja! Z Z Z _:=Z;have h2:=Z;change Ja! Z Z Z Z;lia,
JO8,W.findIn K (IN C) "__setattr__"=D! (hi! "object.__setattr__"),
JO9,H0! (λ(kv:Key×V) (r:Int×Int×HS)=>∃a,kv=(AV! W!,T6!)/\UP! a Bd!) ss fi,
JPA,H0! (λ(x y:Addr×CN)=>HG x.2 y.2) Z Z,JPB,DP K C C9! "House.make" ph DG! Z Z,
JPC,DP K C Ci! "House.clean" Ue DG! Z Z,JPD,DP K C "tick" "House.tick" pq DG! Z Z,JPE,vs! As As As,
JPF,DP K CW "weight_came" "World.weight_came" Km Hh! Z Z,JPG,DP K CW "pass_came" "World.pass_came" T6 Hh! Z Z,
JPH,DP K CW "ask_came" "World.ask_came" Hv Hh! Z Z,JPI,DP K CW "answer_came" "World.answer_came" Ew Hh! Z Z,
JPJ,DP K CW "let_came" "World.let_came" Hu Hh! Z Z,JPK,tt (Z) H2 (vi! (vh! Z H4 wK!) (N ys H4)),
JPL,DP K C AL! "House.hold" pY GI! Z Z,JPM,DP K C Db! "House.drop" pW GI! Z Z,
JPN,DP K C Dc! "House.take" pk GI! Z Z,JPO,DP K C "came" "House.came" pV Hj! Z Z,
JPP,DP K C "added" "House.added" Ug Hj! Z Z,JPQ,DP K C "given" "House.given" Ud Hj! Z Z,JPR,P9! ey bQ x.ys,
JPS,T.keep _ _ _ Z λb hb o e=>(Z (b,o) (FH! (FH! (Fn hb e)))).1,JPT,s.ip b (S! hb),
Jl?,by show⟨Iq!,x.AY,A!,Df!,Z,Z,Z⟩,JPU,⟨DO!,G6! hh⟩,Jm?,by show O? ZR (JS ty (ZS (ZR Z))),
JPV,WI H' p W' D' m He! (d+1) 0 B' xL EC,Jn?,[Z,A!,A!,Z,A!,Z,A!,Bq! Z,?_],JPW,Wt l.kind G Sc l.x G',
JPX,r0.1=W!/\t∈r0.2.2,JPY,UT! Z y (List.Perm.swap x y Z),JPZ,YA! Z TI (IN i1) (IN i2),
JPa,y! (W.codeIn K EO qual),JPb,(Q8 m g ts),JPc,Ad (hm b _ q λz=>z),JPd,⟨o,g1,g2,g3⟩,
Jo?,by show⟨F?,t,_,3,xz g,A!,A!,QX!,A!,?_⟩,JPe,F8! H5 ad Bk Z0!,JPf,DP K C Kc! "House.let" pe Kz! Z Z,
JPg,(Dr m g n u),JPh,!(Builtin.Str.occurrences Z Z 0 Z 1).isEmpty,JPi,AT Ob! f ⟨oc,od,Z,eC⟩,
Jp?,by have⟨t,q⟩:=(f1! Z);cases q;show NV! Z Xi!,JPj,DP K C Dd! "House.free" pX NA! Z Z,
JPk,DP K C "part_record" "House.part_record" T9 NA! Z Z,JPl,GX 4 Gx G9 ar! Z,JPm,xP! Z Z Iw! G3 Ix! Z,
Jq?,by have:=Ba A6! (IN d1) jj!,JPn,DP K CI "still" "Inquiry.still" Oh DG! Z Z,
JPo,DP K CI "result" "Inquiry.result" Ku DG! Z Z,
Jr?,by have⟨a,b,e,ea,eb⟩:=h;show⟨_,e,SC A! (hw! (FM! a ea) (FM! b eb))⟩,JPp,(ls++[ik! AL! g iN!]),
JPq,(ls++[ik! E4! b.1 g]),JPr,xx! (Builtin.«list.sort» (Hl! JT!)) P,JPs,HT! (F8! H1 E6! Af! jn!) Z Af! Z,
Js?,by show⟨Bp!,W.pd,W.c,HF!,_,_,_,_,A!,W2.po,z3,λt H3 ht et S3 VX=>?_⟩,
Jt?,by show ZR (C_ ho hd (x:=V! i 0) A! (ZR (JR oQ oU ?_))),JPt,IH.mpr (Ai! (by have⟨i,_,e⟩:=P8!;rw[<-e];rfl)),
JPu,F8! H7 WF Dl BL!,JPv,V->Cz!->Cz!->ZG!,JPw,ci BX!=nums W.c L.length,JPx,JTc (∃a,Bg!/\qA H1 a/\xe! Z),
Ju?,[AK? x 0,_,A!,A!,Z,wB!,A!,_,A!,?_],JPy,[h! y1,h! y2,h! y3],JPz,PB m A B Z al ys,
Jv?,by show K8? Hn! JTU (Ay! ⟨GR? t QS (id! Ab)⟩),
JP0,Z b' o' Z (λz=>LI (DK! (by rw[z];simp[Cd]))) λz=>LI (DK! (by rw[z];simp[Cd])),
JP1,∀(x:Addr)(L:j!)(H':Hp),Z->uQ H' W.c Z L Z->M5!->PF!->a3!->xb!->M0!,Jw?,by have i:xL!:=⟨g0,hi⟩,
JP2,jc! W.OJ (Am! Z)=D! (IN Z),Jx?,by .rw[AD c,AD (Fr! (¬b=t) (ZW! c))];lia,
JP3,{ cls:=iW! G9!,data:=Data.fields vn },JP4,vo! Z v! E3! G1 EI! Z,
Jy?,by rw[AE (show AU! (QR! T != Value.none) by simp)],JP5,⟨_,_,_,_,xO! Z,Z⟩,
Jz?,by show wD! x.of Z Z ae! I2! a5! Ye!,J0?,by show DX? hx (GE ⟨Z,A!,Cc Z,nx _ A!⟩),JP6,(P0 DV LM RN P8 Z),
J1?,by show CF?;show b? Z;have⟨p,h,va,vb,W,rfl,S,k⟩:=h;show A?;show Q?;show B?;show⟨_,Ag (Bf (xi! a9! E3! G1 EI! (xF! AI!))),?_⟩;show⟨Gg? h W S⟩;show GY?,
J2?,[_,A!,Z,_,A!,Z,Z,Z,_,_,A!,Z,Z,Z,Z,A!,Z],JP7,ZU! H4 x ([]++[Kp! Dl!]),
J3?,by show Gc? G.h (B0 Ax! tb) QT! (S.RC (B0 Ax! tb)),JP8,CE BV! P w H s Q u s',
JP9,ho AB s2 σ H2 x y v u Z I2 Z Z Z,
J4?,by have⟨rY,H5,J5,q5⟩:=q;show Mg (O4 J5 J4.ok) hN hi hn λs6 J6=>⟨_,H5,J6,q5⟩,JQA,An N ps scope,
JQB,∀a b,ND!->BA!->xy! Z,J5?,by have⟨o,e,d⟩:=T.obj _ _ Z b hb,
JQC,Z (H':=xm! Z Z) Z (Bq! Ab) (Cf! (EW! (Ai Z b o e))),JQD,λw' s3 I3 TX=>⟨v,Z,I3,TX,q2⟩,
JQE,{ s3 with heap:=s3.heap.push (hX! "slice" .fields (#[vl,vu,IR])) },JQF,∃as,Reads Z u d as,
JQG,#[JO!,V! 0 0,V! Z 0,V! ep 0],J6?,by have ha:=A6 th i a t ea Z,J7?,by have⟨g1,g2,g3⟩:=Qe S ha YI,
JQH,∀(x:Addr)(as:Z!)(H':Hp),Z->FA! H' GU!->LJ H' as Z->ap! Z->Jj! H'->M0!,
JQI,λb' o' LI e'=>U! (Ad (λz=>ZY! lC LI)) e',JQJ,λi:Nat=>Z g sB n u,
JQK,{ W with c:=ZP!,ls:=KX!++L,GQ:=EL!,JC:=W.JC++[(y.n,xf)] },JQL,((Z (AG! (H!=tb))).map CI!)=D! 0,
JQM,(Z (ME! Eu! 0 lo)).take (ME! Eu! Eu! hi-ME! Eu! 0 lo),JQN,Lb m (λh=>Z) (M8 Z),JQO,(compEnvC sc cl Z SL),
J8?,by show⟨Bp!,W.pd,_,_,_,_,_,_,A!,Z,(by rw[ZE,Z];lia),Z⟩,JQP,⟨A!,Z,_,_,A!⟩,JQQ,(Us hu Z Z Af Hm!),
JQR,W.specialIn K (G2! Xj!) "__get__"=D! JTX,JQS,o! ⟨_,Z,a,Z,A!,ha,Z⟩,J9?,[F?,_,A!,Z,_,A!,Z,_,A!,?_],
JQT,DP K C "part" "House.part" pj jO! Z Z,JQU,DP K C "passed" "House.passed" Of je! Z Z,
JQV,Dm! (MT H2 (Z)) L Z,JQW,EC.map qd=XD.map qd,JQX,DP K CW "letters" "World.letters" Ht DG! Z Z,
JQY,DP K CW "let_all" "World.let_all" Ko jf! Z Z,JQZ,(h.lt (AF EU! hn)),JQa,XX K H (a k) (S k),
JQb,W.takesIn K (G2! Xj!)=D! q!,JQc,MF X sc cl Oo! Z s3 H3 fp AB,JQd,iE Z x hs os rs,
JQe,[Kp! (1+v0 % 5),xz 12],JQf,ZQ! tP g.mLl.mg g.mLl.fn.kp g.mLl.bd Z,KA?,by show DK? ME JG ME JG,
JQg,DP K CP "letters" "Post.letters" Ia DG! Z Z,JQh,DP K CP "taken" "Post.taken" Og K0! Z Z,
JQi,Jh! YP! Fy It! Aw! Z Z,KB?,[Au?,p,CI,dx,_,_,A!,Z,v!,Z,Z,_,A!,Z,_,A!,JH.k (k:=AV! h) Z (Et (Td! Z)),?_],
JQj,DP K CI "first" "Inquiry.first" Oi ji! Z Z,JQk,DP K CI "second" "Inquiry.second" Kt jU! Z Z,
JQl,Zu! S (MK! B4! (K2! OL.map D4!) c'),JQm,(bp (Ke XM P w K mg AW! N qual scope f EO A BV! s H E0) ex),
JQn,(Ag (Cr Rs Af D4)),JQo,SP X AB D Z s',KC?,by show⟨I.ok,I.os,Z,Z,Z,Z,Z,Z,Eb!,Z,I.len⟩,
KD?,by have S1:Hk! (PO! WF Dl Z) (gk! (NC! Z)):=S.OF _,KE?,by show BL? (JRu v! Ke! G2 HM!) Z,
JQp,NO H t n BD! s g tb Z,KF?,by .rw[e];show⟨ZV,ZV,ZV,ZV⟩,
KG?,by show O? EK (DA slot_list_sort (Kq! Z) entry_list_sort Z (args_list_sort _)),JQq,yp p W io I,
JQr,(λ_ s2=>HK λx H'=>JTa/\Jg!/\Z i H x H'/\Z/\Z),
KH?,by show⟨p,Z,Z,A!,A!,Z,⟨dx,_,hp⟩,λr xs H1 s1 er pa=>⟨λc=>bb c Z,λ_ c=>bb c Z,λ_ _=>?_⟩⟩,
KI?,by have⟨a,b,ex,ea,eb⟩:=id YS;show OT Z ex;show JUO a b ea eb,JQs,JTv (∃a,Bg!/\(∃xs,Z)/\R Z H1),
KJ?,by show Z (HI hu) (Kz Au! eb) Z Z ?_,JQt,hc! G1 hr M1.mg M1.fn.kp EI! Z,
KK?,by show Ta! (F9! (model B2! w) _ Z _ _ s) ?_,JQu,k v Z D Z ys H1 (hr Z Z A!) Z (Z) (pG wf) A!,
JQv,Es (K:=K) (a:=Z) (Z:=Z) (Z:=Z) (Z:=Z) (Z:=Z) (Z:=Z) Z Z Z ?_ ?_,KL?,[_,A!,A!,Z,_,_,A!,A!,?_],
KM?,by show⟨u,A!,JUV d (xt! x ru (A8! (λys hy=>U! (Z hy hq) hx)))⟩,JQw,λ_ c e=>hR _ _ Z Z Z Z _ Z Z Z c e ey,
JQx,my CP "put" (He) [] E0 Z (Ck (tC (bn Z)) (Ck (Bt Z) Z)),JQy,FR P w K mg AW! XM 12 Z Z jJ! (Qz K),
JQz,Jk (Z:=Z) (tt:=Z) (Z:=Z) (be:=Z) Z A! A! A! A! Z A! ZV A! ZV A! P6! ay! QA! ZV Z Z,
JQ0,s.heap.IsSliceOf sl vl vu IR,KN?,by show Z st Z (x:=u) (by simpa using hu) λh' RV sb=>?_,
JQ1,∀b∈ch,(b∈X.ex\/X.JK.heap.objs.size<=b)/\SJ!/\(JTe)/\aV! (g!≠b),
JQ2,∀q:Bh!,JTp Z->Z->∀h' c,(JSG (b≠a))->Ha! XR! (MK! B4! (K2! q.map Z) c)->P (.done (.ret IR)) BT!,
JQ3,∀(H2:Hp) (bs:Z!),FJ!->jS! (hT! En!)->BS H2 bs (Z b)->Dv!,JQ4,Ay! (Z hn hq (S! (S! (KO.pm.mem_iff.mp ht)))),
KO?,(by have oX:b'≠x:=λz=>by rw[z] at e' LI;rw[JF x o' e' LI] at hx;cases hx),JQ5,λk=>Zh! f k c k,
KP?,by have⟨hs,os,rs,KO⟩:=(x.wg.wl.good (CF hn) SZ).told,KQ?,by have⟨_,_,_,_,e⟩:=ee j q G hj,
JQ6,⟨Po!,io,I,[],[]⟩,JQ7,TU kind_sorted plain_sorted entry_sorted (args_sorted1 _) (Z),JQ8,(f jh! (V! j u)),
KR?,by show S! ?_;rw[es];show CB?;(.show M4!);.show DW?,JQ9,HK λa b=>M3! [UV Z,DH!,Br!,B9!]/\ND!/\BA!,
KS?,by show⟨[],⟨Bq! h,by change ¬E7! Z=Ew!;show AI?,λk t H' _ e=>e,GE (Dn! h)⟩,Bu!⟩,
JRA,tw! (BR! IU!) (t8! Z)=BU! KM,KT?,by show⟨B0?,Z,_,_,A!,Z,v!,Z,Z,Z,_,Z,A!,Z Z,Pa! Z,Z,Z,Z⟩,
JRB,zG (G:=G) A! A! ht,JRC,∀t,GS m b S1 t->Z,JRD,M1 X o Z apos e IX,
KU?,by have⟨GA,H',I,q⟩:=h;show⟨GA,H',I.PD,q⟩,KV?,by show Ga? (o! ⟨q,G,i,q,HQ,DL? hq Be! _ k⟩),
JRE,vo! Rs TJ! g.mSy.mt (yj g) g.mSy.bd (CR! Z),JRF,(B_ (AU e) (I.ok.e_ x c xS hc)),
JRG,ao! (Te! a) (λv EZ=>h5! (eval b SL) (λu NN=>Z) EZ),
KW?,by (have e5:IM L=IM (L.take AB!)++IM (L.drop AB!):=QV! ZF GZ),
KX?,by show⟨R? q,Ge? ME YU (B9 _ ZV) q _ S1 (UN! hb)⟩,JRH,(.MY s g Z u Cp! S),
JRI,(Nn I (Bq! e) (λxs z=>by rw[e] at z;cases z) (λy z=>by rw[e] at z;cases z) Z (λps z=>by rw[e] at z;cases z) Z),
KY?,[A!,_,_,A!,_,_,A!,A!,?_],KZ?,[A!,Z,Be!,_,A!,_,A!,Z,b,G,tb,wt,A!,Z,Z,Z,Z],
JRJ,yf ha hb I h λv u s2 x y H2 I2 rx ry q=>Z,JRK,Qc I hg hm hv Z hn Z,JRL,uR P w K mg AW! Z Z Z Z Z,
JRM,x.answer (new:=Z) (D':=D) (y':=Z) el es p1 p3 ey ee jz fr A! A! A! (o_ fr at2) Z x.wg (λ_ h=>h) Z (λw9=>Z) cA cB Z Z Z Z (Z) Z (λe he=>GE he) (CC z5) Z,
JRN,⟨Z,U! ew Z,by change a0!<=_;show BW a1,x.ob,x.m1,x.m5,Z,Z,Z,Z,Z,U! ew x.ma,?_,Z,Z,Z,Z,Z,Z,Z,JQ!,Z,vM! ?_⟩,
JRO,(Mc! OS cM nv ja Z Z Z).1,JRP,∀f,TN (fs.lookup f) (mA f),
Ka?,by have h4:Z:=zp (Ai! (by have⟨k,hk⟩:=G_.mp hz;show(Cd! Z q z.1 G z.2 hk).1.m0)) Z,
JRQ,k H2 bs sm (A0! ey JG) XO,
Kb?,by (·(have e1:W.c+Bb! Aj!=v6!:=X!);rw[e1,<-BH];show Z (CJ! (h8! (Ad (λz=>Z))))),
Kc?,by show⟨p,h,_,_,W,A!,Az!,Z⟩,Kd?,by show Cv! (checkCount "sorted" 1 1 _) (ZS (ZR (Z Z Z Z Z Z))),
JRR,⟨Z,Z,x.on,Z,x.ke,x.rn,Z,Z,x.new,Z,x.lk,Io!⟩,Ke?,by show k t H3 W3 ⟨a,b,et,UO! XF.BE,FF! XF.BE s2 Z⟩ w8!,
Kf?,by show VX b' o' (NE s2 (Uf! JF)) (λz=>LI (DK! (by rw[z];simp[Cd]))) λz=>LI (DK! (by rw[z];simp[Cd])),
Kg?,by show Jn I1 ea c hm l ?_,
Kh?,by show RH (h₀:=Z) I.ok.mod.YR Z (FO (ha AS! AB s σ H _ I h) λus s1 ⟨vs,H1,I1,r,q⟩=>Bv! I1.PN) he TY,
Ki?,by have⟨a,b,h1,h2,h3⟩:=h;show⟨a,b,Mp! h1,Mp! h2,Mp! h3⟩,
Kj?,by have⟨a,b,e,ea,eb⟩:=h;show⟨_,JUY Z ⟨a,b,e',Tr! ea,Tr! eb⟩ [UV Z,T! h',Br!] ⟨a,c,et,Tr! ea,ec⟩,Ao!⟩,
JRS,I.laid (t':=C7!) (o:=Z) (λb ob q=>ZT _ q) CC! ?_,
Kk?,by show Z (K:=K) (a:=Z) (Z:=Z) (Z:=Z) (Z:=Z) (be:=Z) (Z) Z (Z) ?_ ?_,
Kl?,by show B3 ⟨_,A!,p,CD,dx,_,_,A!,hp,TJ!,g.TK.nW,Dq,pw,UJ,_,A!,UH,Co W _ ZV,_,A!,r,_,0,_,A!,A!,Cq! QT,A!,_,A!,r,_,LA? 1 2⟩,
JRT,(zw lo (es:=es) (ep:=ep)),JRU,Z Kx wi be tt te σ H Z,Km?,by show VS _ (λrest _ s'=>Z) _ ?_ ?_ _ _ Z,
Kn?,by have⟨u',r',q⟩:=hl j y v' e1 e2 e3,JRV,WI Z pw W' D' m He! (d+1) 0 B' xL EC,
JRW,zX G ta tb (Z) (E (IN NJ) KM H) (E (IN OM) KM H) (E (IN MI) KM H),JRX,nD m BQ W W' al xL ys EC Z L,
Ko?,by show⟨⟨QS! (FS f e (OZ! Z)),xS! x.hs Z,JTy (FI! f ?_),x.po.keep (λo e=>FS f e Z) (λo e=>FS f e Z),Z,Z,Z,BY!⟩,Ib! (FI! f ?_)⟩,
JRY,ZipApart z TI TO i1 i2 l1 l2,JRZ,∃kvs,uG P w K FA Db/\Dm! (pR K) FT Db,
JRa,∀(t:Addr)(H':Hp),jV! (Ss! S8! (q,Z)) Dl! (W.ls++jR!)->NO H' t T1! Z h Z tb Z->M5!->jT! T1!,
JRb,Z q loose XP YP l.row.toRowW d [] (λf vs=>PySem.call f vs),
JRc,x.gz (G':=Z) i W1 JF JTZ iR! GP! T9! Z wg st Z (Fy! (U! (ZK hl) (Pq! hb))) cA Z (BW (AH _)) (pS _) A! (LJ! l1) k _ λ_ c e=>hR _ _ _ _ _ Z c e,
JRd,by show M?;rw[eval_ListComp];show Z;rintro C D H' s1 s' H1 hC I1 I' hn ⟨m,hm⟩ q;subst hC;show⟨m,hm,λh' bu=>⟨h! D,H',JUW I',A!,q⟩⟩,
tH!,I.step (g':=s.gens) (d':=s.drawn) (ch:=Z) Z Z Z (Z) Z Z Z Z (Z) Z SL!,
tI!,Z Z Z AB Z σ Z x y v u Q Z rx ry Z Z,Fj?,by show λa b _ _=>⟨p,_,_,_,W,A!,Az!,JUA⟩,
tJ!,RH (first:=JT!) (h₀:=Fl!) I.ok.mod.YR hm.kp (FO (ha AS! AB s1 σ H1 _ I1 q) Z) gE TY,
tK!,λr s'=>r=.ok (.ret (Cg! q!))/\OldK KQ! Gy!/\s'.os=EZ.os/\xg!,
Fk?,by have st:=Ti (ls:=ls) (G':=Z) (l:=Z) hi hb A! A! A!,
Fl?,[A!,_,A!,_,A!,p,CW,Z,_,_,A!,Z,wE,TW.nS,Kf _,H1!,Z],
Fm?,by show⟨F?,p,C,Z,_,_,A!,Z,v!,F2!,Dw _,_,A!,WF,_,A!,g1,_,A!,_,_,A!,A!,_,Z,?_⟩,
tL!,x.got i (ls:=Z) es p1 p3 Z Z Z Z Z Z Z Z Z Z Z Z Z mu Z Z Z Z cA cB k _ Z,
Fn?,[a?,CW,Z,_,_,A!,Z,wE,I0!,D7 _,Bp!,Z,_,A!,Z,Jk!,_,A!,_,A!,_,A!,_,A!,H1!,Oz! ?_],
tM!,uF m W W' a b xL ys EC Z s g Z u Cp! S,
Fo?,by show⟨JW!,λc=>bb Z c,λc=>bb Z c⟩;have⟨_,_,_,rfl,rfl,⟨a,rfl,ea⟩,⟨b,rfl,eb⟩⟩:=sP pa;show Z p pw r a b V h A! S1 er (Fu (dd:=Z h ta tb) g x1 hn hB hd m4 cB wT! bad a b ea eb);show BN?;cases tx;show xp!,
tN!,Jk (te:=Ef!) (i:=4) (be:=Z) Z A! A! A! A! Z A! ZV A! ZV A! P6! Z QA! ZV Z ai!,
Fp?,by show Nr (ow:=Z) (bd:=Z) hc hi J' JE H_ IF KG has LY ?_ ht he I h wn hs]
def ZV{p:B!}(h:p:=by show BO?):p:=h
open PySem PySem.Spec PyProof.Rows in abbrev ZR:=@wpAny_bind
open PySem PySem.Spec PyProof.Rows in abbrev ZS:=@wpAny_pure
open PySem PySem.Spec PyProof.Rows in abbrev ZT:=@Heap.get?_push_of_some
open PySem PySem.Spec PyProof.Rows in abbrev ZU:=@Heap.get?_push_size
open T CFeVbbRrJldX afRyzYuvRBH BmBjJJmuyHID BmPISqujkApG hZxANpurTFY BqUmSKNQZTSn IJIXxqUEcCu BqheHDcOQvrc BXZzgtuwweWL CUpvMDhGFOtC CXZAFlAzxklh CEKkoogQItLw NixtYhfqUhJ CRiImnRjESXb BIrQVWgAiLjW CCLtYBTQfFGe gjkXyQEUUGE BPDJrUtkDoNd BZcXHicGSyOm ZzBzIbdHKkE tHQEXWgPBnJ BGXNfXMWhXIR qMHqVbSSGV CLeuLJCOFBTN BUZFYQMszkeT BZkMWTJLZEHs bSVLymlkxnt BKCfIliuQapp BgRxlmFurhfB PDhMiwcqzgH BPbsJnzmNLSB BDhiCkBKrYvg BqMKBHpKZpEM grwTkUkmXOX CNrYyYWtkiWI CLCoHwBvPGuL BwulVdhZfXFP oHkPSZwdioX BqdyCklrKfFO CUmOLayNrTQW DybuotvOWuO BfoXTxOWSeTa BQCuEVuivGnF BlgwftPSNSIT OGOTmVvxXXB jHfChVPmByb ODpuNrYBpIY BNrdxUytrCFv BhNqsfzSXTvG BSiakOxnTSAk CVggQrAjdMpP EzRMOVPhIBe BKrxjLNVxaiW GjGTjFbeMnf QKUvIjJZwcT qLLCUKSmEgY BTvUXksbIIxy pIkJLCfuoSM MSaMeLQcdco BvDpvHgHHjDk CCPTdTWFWkVq PsTrhPuSMhG BOFchOBLtToa gGbTQvgRIgV OakfqitAyHT GorKcjFIapd BporxFLjnzBF KcxleRLJjFH DlwUfHQdURL BFYCOWlIgEyk mMLVuVzuJuU YnxSQEujIzZ fGtGillOuVx BMcjTPPCQEAz CXFTgysYsVtw ZUWxsfbDbxT BXZROVtQJsLO fbrbFGBvvGe BkWdyLXmmFnP uraUeKaWGjt YAIXtLnySqg CXUqlahcYcBX JDnppLQRuxT QeQMxlGZMYz lavrAmrHfU CHWHTYyAbXag PbxEQPWaXdp CFWhvYdSkNEI CCKWvIBYIQxa iiEzWvLzYFN KjDtjyMUreM tGcgaboiHJl MBkLmiWjSJg bVyYkphRSck CCvTkdgbgekc BtdOeBONhtDD xBtAtqqGCjm BrayZqoRelKe LZltgRNUZVw CQsPRmEjSFrD CXbkxvUpxTCs SrDMXEKtluE CLfNPoHLoYWp bqWJjXJLYwS TLCevfWWBRT rIbCDXEsAnY CCbehfHYxvGR BYoSHKgLoTXb dfqFKUlkwRl BvkpTgVlAqFX CJewrgempBtO CONopuomnOdR sJRDWAWGGSM BwZlVRALoCSp cIWoJSeOFRJ BWlAsRbqbfUS iMZsLXUDAfY BjwgLgCTKMfv BZEGvFoHfluW BOAxiJRwJguP wgiBrVjEJFX CaZXFCemWiM BpNYGUjAMimP BJSIQzYxArsV BKvDkRDsdCrx BEYOwJppXWKA FxrtJVSvjJb BBQqyZNBWaSM CJnwIeLrjcJO wqGryzmtdue CDbmOOIJAGft BBJbShSUMRXf EnPitROebKl BvemzJsDPXcl BIzyjssGMzSl CNmDCzKrxFtE BwSdbXzgSvXd CWbxyFvAIihO BPLZhVWuhprJ BFdkzRBkEwDf BnoMUyZLPhFu LDlBsHhNjUB CIyFmKffceTS BDQbFKwByqfV BZCJODwPtHRS BnrsGaXZCdxs zWzrdjsXgbm iIRcNEhjsbv BwBSlgPbynaz nhmliNPTrTq wYizekFrdOQ CIHcoFoyeRTe CRNlMYwuTSep BNafcXhBLXeD RBgdyDGmwdr JmrYeTzXNIO CJrKhBukdGDz BWXtzRAihLHs BoaJoyVMskFi zUafpRbHgCv dhpsUZSeThG jbjgdPEzUVk BxiRIJVkrJbI cxbELXUziRf CAiThLtamVnr BVnJQwrtRDNi BaVjQQpeAzNZ COdQKjykFOFq BXEhfJqVjXnH OQgCthDFVuQ dRVqWBAyNCz CDYlLIvBAfbl BmXVpLzfSDek BxaFodhohwzk fVcXcIoRAAx BjZAgkwWkxFD SLUvdEkLFcn wenBPmAhpgN BjaXfnAKIhuA BNFrgXNIvszh gXviSQRceVC ltCTAXijjaa BLMBLKaTEPyZ voImTpakhEi OhNFQcOrTpq BsURwqoMitaw WsotaUrMbli pyNUOqawGCv BqkEqlfJLUOR BdlZmsttCtqD BuKaDLmNbSFa BGMuVmaRNWyB BECzGULMXNQX CEHSaBDemDym GcuKQvlFKWg NdwvDcuBNfv BHOOtIgBKLBL NisJocGkeWH qNKFYxrizkn BkBixjqNKCKq CVwTMdzkvpwE BljzWChBsGna iMgcALvHtwm BsnDJNLVMSld woJaKhmhlHb zMDnZyhvbIW mIbvmKCPlCy KeUbjWrjunM BjtdaSBElMHc CSnqYUginjKs plVjbjdLNCY MssErfdYVHc IYnCdDdTUEi CPXvxMbAZNdX iBWZrvQrJdb HFPaPDoYxj MkzdtHGlhIP gXdjuciJdOO GGUoNYfTWKq XdtSWXaJDrI GBOpmHieMLd BeLccvlZABLb BLOcwgABBepb BPsrbxJEQpEK CEcLnhqrCHgI BpntNEZSYnzF BmwQOKxZgCBT BuhrDgyJoqbU BWxqiyAgwlZZ CXDvZzsTJSWr HpJWdPGQImf BKsYSnXBxqud CWHOrhnJHztN BRwSIoaMWxAb mllVaMrfoTE BHHSgFKlEaWw BFvDZWQujVcC BVeSgcdCBVvS BLOZoCmbqrZH zQJzeyQXRNz zulAnjJwCyu GTffBJrdQHb OTnbVpOdxiH CAeWjVsLbLsK BFecBHnjLwza suQUshZcTgI BniwxPvqutXN CEauGOqGexci BUQbJVGoiUBu DChsOIIehzK CFGejdMRJeso tFCVGUdvkGy CAvmjFXmUhjI HBhPNNTwsKw BkwObolHDvlz BPyESWhmqGkQ BcbgkjZXQzyn CMIHJqOqYKDV eBQYfuxQpHb BNJjtpsIYuvQ BystMVXSYWhd BkxoOUmCUytE BaykmzDNjpYR BeOtyfCYkMwB CWHIXAecedKH zqgJsglBfxE CLwyrDaTpywk fJkpAMGKCun BXeuWRPDUfeU BikFjFAeFOxu BZkdFpafcxiU CHOtonJQYVPY BzokKpfjjxCH BCbiHxZMkGyA BWEPOGYUPfbg BcyYPCbevSDd CNnnikbEqUlX CFjaiOoZdFmh BCOIbjZhuqlt CDWvOoRSjhQd BCSpINbpUwL CUjzUEtpocBJ VHOrgItAvcn BoCbnihDoXGt TvuqVIblnXy BJVxeKSICteo BPtZjxIUblXi HrkDoKNNSFN BNCppreLImQt NDaFFFxlYTb BSTSRjfNwiRg BNCOLySXilj BNfxlnvsxVMj CIgauciGArAM CMkpWXotHfUV BIFTkAjMZTeT BeypQiHfaCPL kzkPYyIOmKh CjXNpCMtOCp CIsMzuOIUEvP CEpgIPfHXvnz PUHFAlZqFVU CVjhZnsSZcQo jHMxwVpwZnT WUyDBwRnaLt sdAAwMmUtzq BFQXDCJIaKrc BBfgmmhvRoEO YBADZSARPIM etHfNwwpHyk BMwfILVyizyQ BphwGGWqFXxJ BODsZYcMwgFC BEdxwOfBdcCS CABcaoPnmLZS qxGbQLGpsOS BJrSROXQugNr rzsZbgcDDJC BzzJhjfSGyeD CDiMQiIgmlkG vQBloMurggS BgexKcbKrFCc BOKcJIFFlnVi CGgZMtfpoQSQ BFhoHcbADYGt mdUaUWMEtiI JYBaWeNOEmp BxbhlooQVPfu BnFHFvFGqziY CHIRvAMeqXEt BKTHOyDCNBnq BNDkGwSVBJQB usvnTXFjMsz BokALpPsBnCx bGYRzKTPZBg BCDuvWsyPytj qmTyZYjUmZo CMHFeJuNzSPf XiNgbJecHiv qTOASczcsna fxfycTqkwTL fEsojvnGriK zdHdtaAmfzi CAoMnrrQHplm BibBgFqNKLmB fNpiOkDEcbj BRDYTPHkdKXh XkxFFNYLQgV BZYHWDVZSOBD CGdNgpzuInYc myAKhOFbdqX lnldyWMGVVh XARUGuyfUeW CBTZqyjfrUkx atgwCQjuDkD CMuiPZgzCFGk BxKkCEcxyFwo BgcTimuAyfmx BtEtZEKJJnwr CIykMhBdzLmo BFCFtZMgJtmx mlEcqMSytou VnhIwswrrFe BzRXjdoRUwgE BGCDEvkyCKoR BSlmDBHuGHrI BBfhdRtTBwxW OjAddgGeQCD CVDoWdyHmcCq PphcvbzQWdy BXFmrHEPyXBV zNbufOCuhxO BIjGGuhcXUyz BZdioQGvdzmM BquhUcuEXtpJ BQLgWykdlwKk BBWvRaEikZii BCsWeuEnDOuX BjqgWEwJrCgE BdKaohAFzOya BikxAgWAxFCH uyotmzVYQTM ZTibwOwcTuk CTGATJlgTRKi aFuigyotxFb iRsWwRBrwGh bBTSBsKFoUw BMEGAMLyxbqx hDkJCBAKUhA BsYDQirVRPAM BzNsbEDDLmDU BydoGDcusZqR CRJcptfnbRhD CKPTWPpvmvSu KCQySVlZCCl BXQEFihWAPBV BdKFsnkAxNNs BXmOnKViaTse BkQHnacCkSVz BkYdeekBvkeD fbFEBfnbOcW BlarAaqCKLca BVcXvTKhLJQl zLwFiZzUDyE BaibujmbuYl BzLSSDOnWzoW BxgkNgilGKJc BRRyjViVYktS BsEoCREqnPmO HzWwSRJRzUA CFhaINxoANpC CeGYqsiXVLy bZogjNVFcdx BXtROCFpPpFY gtEwxWGMaFS CLwsJltzbXfM BAJTMDdVtSxC IrCCEwarNAJ BFkyQfojekYV CTVmdfESWZZf UYkPewdRVMF bKlDHyTzrtK CAjViiSyDRll CWuSgbrdYwUc BfgafPaZOHWs BaosimVhcDcA eiOYnDXSVRc BArvAFgKMYeH BehmNKbNXxhy CRYGZReEiGAT WMezAYBZoNE tGAboGBwwke MekOdNuLYGp BOqOoOFNLYBd BOfhahiKnnXo EZkKgLhiYKZ pyjTRAnIBTV BQUtQXAtlAoE vEgYJoboykb CIQuTwIkTXEV CFBGEMqHvFdi WEnRsxkZmvu BcljUOqFhabd BZXAMzzYeGhd tFAhapvfIjX BZrrhFAPiygL BrUgNVbCvIzy BpHcAZWiRQbS BexINwEsFVUD nonUpznRqOq VBCCbHDWOiT BZxLHlGXZAqV BlSuNTffBIlj BSgAhfIwhmye fJLCGZrqtLM BoWgTtIFAaWj CVpilZIwDzRQ BchVTHYTFLQD oKAzAnpVLMU BVvXYURVzCDI BPTCsFBtVBVK CCYdskcsMrpY gapfGsLAOWy CHwjXYYaRIhi ZfigEpablXE BPoCBOvtnrIf BlGRRtUfxfIh BDEtdbbMZbWR BIZAwwmOKIXC CTLkiLnKzNlx BcHYRZGXTogO CKRLTqiquxiZ BWtWbRMnTYlG CCLKAbBbtMDQ CWcYpRVumSFl BOJlfxZVcEPP BxdcEzNljteB LGrUwMeJMoK BiXiirgCJsXL BXyDtkpMxyJd YNxKAWtPGgh CEprBOuLapAx YLZBghoKUpu BgFDpCxowTAc CEiKvYvDRyWf lxkgpxcjWeN YkwVcAmEQA CBiegXLHMlTY BubprdXPzEtZ CMPmjewrxpUB CCzhjsqalQuk BVoqpVQwPclA mrUHfYfCdZV BCXgypUOfAMj
def ZA {α β : DX!} {as : Q!} (f : qU!) : wo! f = as.length := List.length_map f
def ZB {α : DX!} {a : α} {as : Q!} (bs : Q!) (h : a ∈ as) : a ∈ fk! := List.mem_append_left bs h
def ZC {α : DX!} {b : α} {bs : Q!} (as : Q!) (h : b ∈ bs) : b ∈ fk! := List.mem_append_right as h
def ZD {α : DX!} (y : α) {a : α} {l : Q!} (h : a ∈ l) : a ∈ y :: l := List.mem_cons_of_mem y h
def ZE {α : DX!} {as bs : Q!} : FQ! fk! = as.length + bs.length := List.length_append
def ZF {α β : DX!} {f : qU!} {as bs : Q!} : (fk!).map f = Ar! f ++ En! f := List.map_append
def ZG (n : Nat) : n <= n := Nat.le_refl n
def ZH {α β : DX!} {f : qU!} {as : Q!} {i : Nat} : (Ar! f)[i]? = as[i]?.map f := List.getElem?_map
def ZI {α : DX!} {a : α} {s t : Q!} : a ∈ s ++ t -> a ∈ s \/ a ∈ t := List.mem_append.mp
def ZJ {α : DX!} {l : Q!} {i : Nat} {a : α} : l[i]? = Ix a -> ∃ h : i < l.length, l[i] = a := List.getElem?_eq_some_iff.mp
def ZK {α : DX!} {a b : α} : a ∈ [b] -> a = b := FC.mp
def ZL {α : DX!} {a : α} {l : Q!} : a ∈ a :: l := List.mem_cons_self
def ZM {α : DX!} {a b : α} {l : Q!} : a ∈ b :: l -> a = b \/ a ∈ l := BU.mp
def ZN {α β : DX!} {b : β} {f : qU!} {l : Q!} : b ∈ db f -> ∃ a, a ∈ l /\ f a = b := AQ.mp
def ZO {α : DX!} {a b : α} : Ix a = Ix b -> a = b := Option.some.inj
def ZP {α : DX!} {l : Q!} {i : Nat} {a : α} : l[i]? = Ix a -> a ∈ l := List.mem_of_getElem?
set_option autoImplicit true
set_option Elab.async false
set_option maxRecDepth 100000
set_option maxHeartbeats 4000000
inductive HK{α β:UF}(p:Fg!):B!
 | mk (a:α) (b:β) (h:p a b):HK p
inductive NM{α β γ:UF}(p:α->AP! β γ):B!
 | mk (a:α) (b:β) (c:γ) (h:p a b c):NM p
inductive YL{α β γ δ:UF}(p:α->β->AP! γ δ):B!
 | mk (a:α) (b:β) (c:γ) (d:δ) (h:p a b c d):YL p
inductive kC{α β γ δ ε:UF}(p:α->β->γ->AP! δ ε):B!
 | mk (a:α) (b:β) (c:γ) (d:δ) (e:ε) (h:p a b c d e):kC p
inductive kA{α β γ δ ε ζ:UF}(p:α->β->γ->δ->AP! ε ζ):B!
 | mk (a:α) (b:β) (c:γ) (d:δ) (e:ε) (f:ζ) (h:p a b c d e f):kA p
inductive qB{α β γ δ ε ζ η:UF}(p:α->β->γ->δ->ε->AP! ζ η):B!
 | mk (a:α) (b:β) (c:γ) (d:δ) (e:ε) (f:ζ) (g:η) (h:p a b c d e f g):qB p
inductive vT{α β γ δ ε ζ η θ:UF}(p:α->β->γ->δ->ε->ζ->AP! η θ):B!
 | mk (a:α) (b:β) (c:γ) (d:δ) (e:ε) (f:ζ) (g:η) (h:θ) (h:p a b c d e f g h):vT p
set_option linter.all false
open N L2
open PySem PySem.Spec PyProof.Rows
@[reducible]abbrev Key:=Sum Ch Str
abbrev mj:Key->DY!->A3!
 | .inl k,v=>Value.isInt k v
 | .inr x,v=>Value.isStrOf x v
abbrev Jy0(w:World):Key->Ch
 | .inl k=>hashInt k
 | .inr x=>hashStr w x
def Cw:∀{k:Key} {v:Value},CA! mj k v->(HK λi t=>k=AV! i/\v=XK! i t)\/(HK λx t=>k=L3! x/\v=fl! x t)
 | .inl i,v,h=>by have⟨t,e⟩:=Cd! Value.isInt_shape k i v v h;show GE (HZ! i t e)
 | .inr x,v,h=>by have⟨t,e⟩:=Cd! Value.isStrOf_shape x x v v h;show o! (HZ! x t e)
def Jmv(i:Int)(t:Tok):y! (mj (S! i) jh!):=by simp[mj,Value.isInt]
def Jmu(x:Str)(t:Tok):y! (mj (d! x) (bn x t)):=by simp[mj,Value.isStrOf]
def Jwx(a b:Int):rD! AV! AV!=(a==b):=Qy!
def Jwu(a b:Str):Fd! (rD! L3! L3!) (a=b):=Qy!
def Jww(a:Int)(b:Str):wT (rD! AV! L3!):=AL (λq=>nomatch q)
def Jwv(a:Str)(b:Int):wT (rD! L3! AV!):=AL (λq=>nomatch q)
abbrev Bp(prog:Program)(w:World):PySem.KeyKind B2! w Key where
 is:=mj
 hash:=Jy0 w
 inj:=λv a b ha hb=>by
  show Fq? (Cw ha)
  .rcases Cw hb with⟨j,u,rfl,e⟩|⟨y,u,rfl,e⟩
   .show Gn?;rw[e1]
   .show XM!
  .rcases Cw hb with⟨j,u,rfl,e⟩|⟨y,u,rfl,e⟩
   .show XM!
   .show Gn?;rw[e1]
 byValue:=λk v h=>by
  rcases Cw h with⟨i,t,rfl,rfl⟩|⟨x,t,rfl,rfl⟩<;>rfl
 pyHash:=λhv h=>by
  show Fq? (Cw hv)
  .show wpAny_pyHash_int h
  .show wpAny_pyHash_str h
 eqBool:=λhu hv h=>by
  show Fq? (Cw hu)
  .rcases Cw hv with⟨j,u,rfl,rfl⟩|⟨y,u,rfl,rfl⟩
   .rw[Jwx] at h;show tO! h
   .rw[Jww] at h;show SeqAt.EqAt.int_str i t y u _ _ _ _ h
  .rcases Cw hv with⟨j,u,rfl,rfl⟩|⟨y,u,rfl,rfl⟩
   .rw[Jwv] at h;show SeqAt.EqAt.str_int x t j u _ _ _ _ h
   .rw[Jwu] at h;show wpAny_eqBool_str h
 «strs»:=λk x t v h=>by
  rcases Cw h with⟨i,u,rfl,e⟩|⟨y,u,rfl,e⟩
  .show XM!
  .show Gn?
   subst e1
   cases v<;>rfl
def Jgz(prog:Program)(w:World)(i:Int)(t:Tok):y! ((Bp B2! w).is (S! i) jh!):=Jmv i t
def Q6(prog:Program)(w:World)(x:Str)(t:Tok):y! ((Bp B2! w).is (d! x) (bn x t)):=Jmu x t
inductive V where
 | GB|bl (b:Bool)|int (i:Int)|str (x:Str)|Y' (b:Array UInt8)|ix (b:UInt64)|ref (a:Addr)|ty (n:String)
 deriving DecidableEq
abbrev RelV:AP! V DY!
 | .GB,u=>tP!
 | .bl b,u=>u=KD! b
 | .int i,u=>R5!
 | .str x,u=>p9!
 | .Y' b,u=>nI! Value.bytes
 | .ix b,u=>nI! tQ!
 | .ref a,u=>u=ZE!
 | .ty n,u=>u=JC4
@[reducible]abbrev Vals:AP! C! k!:=Qg! RelV
def Vals.length(r:Ek!):xs.length=us.length:=JCT
def Vals.get{xs:C!}{us:k!}{i:Nat}{x:V}(p:Ek!):Pr!->∃u,us[i]?=D! u/\Jg!:=by induction p generalizing i with | nil=>intro e;simp at e | cons r _ ih =>intro e;cases i with | zero=>cases e;show P? r | succ i=>show ih e
def Vals.append{xs ys:C!}{us ws:k!}(p:Ek!)(q:Gw! ys ws):Gw! (xs++ys) (us++ws):=by induction p with | nil=>show q | cons h _ ih=>show BM? h
def Vals.take{xs:C!}{us:k!}(n:Nat)(p:Ek!):VY! xs.take n us.take n:=by induction p generalizing n with | nil=>cases n<;>show R! | cons r _ ih =>cases n with | zero=>show R! | succ n=>show SC r (ih n)
def Vals.drop:∀{xs:C!} {us:k!} (n:Nat),Ek!->VY! xs.drop n us.drop n
 | _,_,0,r=>r
 | _,_,_+1,.nil=>R!
 | _,_,n+1,.cons _ t=>Vals.drop n t
abbrev TN:AP! VE! (HV! DY!)
 | some v,some u=>C3!
 | none,none=>True
 | _,_=>False
abbrev KV{κ:UF}:AP! By! lN!:=Qg! (λ(p:κ×V)(q:κ×Value)=>g!=H!/\lx! PP)
abbrev kV:Key->V
 | .inl i=>My!
 | .inr x=>cF!
inductive HO where
 | BK (xs:C!)
 | BE (xs:C!)
 | dK (kvs:Bz!)|dT (kvs:BI!)
 | set (S:Ch->A3!) (n:Nat)
 | ins (C dx:Addr) (fs:DP!)
 | own (x:Addr)
 | xd (fs:DP!)
 | met (f x:Addr)
 | sM (lo hi:Int)
 | IQ (o:Obj) (u:HO)
 | fb (ps:BP!)
 | ext (φ:JG! Eo!)
@[reducible]abbrev Hp:=Y5! F! HO
abbrev upd(H:Hp)(a:Addr)(o:HO):Hp:=λb=>j6! (b=a) o (H b)
def Ab{H:Hp}{a:Addr}{o:HO}:z! H a o a=D! o:=by unfold upd;rw[AE A!]
def Ad(h:b≠a):z! H a o b=H b:=by unfold upd;rw[AD h]
def Ja:z! N2! a u=z! H a u:=by funext b;unfold upd;split<;>rfl
def Q5{H:Hp}{a b:Addr}{o u:HO}(h:c7!)(h':Pt!)(d:o≠u):a≠b:=by intro e;subst e;rw[h] at h';show d (ZO h')
def Ak{H:Hp}{a b:Addr}{o:HO}(h:c7!)(h':An!):a≠b:=by intro e;subst e;rw[h] at h';cases h'
open S
variable (P:Program)(w:World)
abbrev EX(H:Hp)(h:Heap)(a:Addr):JG! HO
 | .BK xs=>Fj!/\HK λ(its:List Value)(n:Nat)=>Wa!/\JV! JKu
 | .BE xs=>Fj!/\yR! (Wa!/\OP! h a CH!)
 | .dK kvs=>JJr
 | .dT kvs=>xC! US! (∃xs:Lx!,
  H0! (λ(p:List Key×V)(q:List Key×Addr×Value)=>g!=H!/\BE! Tk JEV/\lx! BF!) Db xs /\
  NM λo es ep=>dF!/\o.ExactDict/\NY!/\es.toList=D5! (fm! x0!)/\AT! D5!)
 | .set S n=>h.SetOf (intKind P w) a S n
 | .ins C dx fs=>oS! dx/\XP! 1000/\dx≠a/\JV! JJv /\
  ∃mA,JOP/\(JRP)/\tT! mA (OQ! Bl!)
 | .own _=>∃o,dF!
 | .xd fs=>∃mA,h.Ns1 a mA/\JRP
 | .sM lo hi=>NM λt u v=>JV! (aj! Fk! x4!)
 | .IQ o u=>dF!/\EX H h a u
 | .fb ps=>JV! JOo
 | .met f x=>JV! (JGJ LZ!)
 | .ext φ=>φ h/\(∃o,dF!)/\∀h1 h2:Eo!,φ h1->(∀o,mE! SG!->mE! h2.get?)->φ h2
abbrev PQ(H:Hp)(h:Heap):B!:=∀a o,c7!->JF1
open E
open S
variable {P:Program}{w:World}{H H':Hp}{h h':Heap}{a:Addr}{o:HO}
def EX.lt(x:JF1):a<h.objs.size:=by cases o with | BK xs=>have⟨_,_,_,_,e⟩:=x;show B1! | BE xs=>have⟨_,_,_,p⟩:=x;show p.lt | dK kvs=>show Ct?;show B1! | dT kvs=>show Ct?;show B1! | set S n=>have⟨o,_,_,_,e,_⟩:=x;show B1! | ins C dx fs=>have⟨_,_,_,e,_⟩:=x;show B1! | own y=>have⟨_,e⟩:=x;show B1! | xd fs=>have⟨_,⟨_,_,_,e,_⟩,_⟩:=x;show B1! | sM lo hi=>have⟨_,_,_,e⟩:=x;show B1! | IQ ob u=>have⟨e,_⟩:=x;show B1! | fb ps=>show AU (qb!) | met f y=>show AU (qb!) | ext φ=>have⟨_,⟨_,e⟩,_⟩:=x;show B1!
def Jyk{R:Fg!}{S:AP! γ δ}{f:α->γ}{g:β->δ}(h:pK! (S (f a) (g b))){xs:Q!}{ys:C1!}(p:J0!):Hz! S (D5! f) BS! g:=JNw h
def Jus{R:Fg!}{S:AP! α δ}{g:β->δ}(h:pK! (S a (g b))){xs:Q!}{ys:C1!}(p:J0!):Hz! S xs BS! g:=JNw h
def yz{R:Fg!}{f:α->γ}{g:β->γ}(h:pK! (g b=f a)){xs:Q!}{ys:C1!}(p:J0!):BS! g=D5! f:=by induction p with | nil=>rfl | cons r _ ih=>rw[AI,AI,ih,L! h r]
def uL{R:Fg!}{as cs:Q!}{bs ds:C1!}(p:rF!)(q:Pf! cs ds):XO! R (as++cs) (bs++ds):=by induction p with | nil=>show q | cons h _ ih=>show BM? h
def Jv8{R:Fg!}{xs:Q!}{ys:C1!}(p:J0!):∀j,Hz! R (tU! j) ys.eraseIdx j:=by induction p with | nil=>show λ_=>R! | cons r t ih =>intro j;cases j with | zero=>show t | succ j=>show SC r (ih j)
def Qa8{F G:Fg!}{WH:Q!}{l₂:C1!}(p:Dm! F WH l₂)(f:∀a b,F a b->G a b):Dm! G WH l₂:=JNw f
def EX.RA(x:JF1)(k:∀b u,(b=a\/oS! b)->wr!->Kj! XR! u)(ho:∀b,oS! b->Ku! (Gx! a))(ht:JOR):EX P w H' h' a o:=by induction o with | BK xs=>have⟨z,its,n,r,e⟩:=x;show⟨z,As!,n,r,Gr!⟩ | BE xs=>have⟨z,its,r,ob,e,c⟩:=x;show⟨z,As!,r,ob,Gr!,c⟩ | dK kvs=>have⟨z,y,vs,r,ob,es,ep,e,c⟩:=x;show⟨z,y,vs,r,ob,es,ep,Gr!,c⟩ | dT kvs =>have⟨z,y,xs,r,ob,es,ep,e,c⟩:=x;show⟨z,y,xs,Qa8 r λp q z=>⟨z.1,L! ht z.2.1,z.2.2⟩,ob,es,ep,Gr!,c⟩ | set S n=>have⟨ob,es,ep,t,e,c⟩:=x;show⟨ob,es,ep,t,Gr!,c⟩ | ins C dx fs =>have⟨d,z,ne,e,mA,⟨od,es,ep,e2,c⟩,r⟩:=x;show⟨ho _ d,z,ne,Gr!,mA,⟨od,es,ep,Vk! d e2,c⟩,r⟩ | own y=>have⟨ob,e⟩:=x;show⟨ob,Gr!⟩ | xd fs=>have⟨mA,⟨od,es,ep,e,c⟩,r⟩:=x;show⟨mA,⟨od,es,ep,Gr!,c⟩,r⟩ | sM lo hi=>have⟨t,u,v,e⟩:=x;show⟨t,u,v,Gr!⟩ | IQ ob u ih=>have⟨e,q⟩:=x;show⟨Gr!,ih q⟩ | fb ps =>have e:JV! JOo:=x;change Ha! XR! JOo;show k a _ Ht! e | met f y =>have e:JV! (JGJ aZ!):=x;change Ha! XR! (JGJ aZ!);show k a _ Ht! e | ext φ=>have⟨p,⟨o,e⟩,st⟩:=x;show⟨FS st p (λo q=>FS k Ht! q),EW! Gr!,st⟩
def PQ.lt(x:El!)(e:c7!):a<h.objs.size:=(x a o e).lt
def PQ.fresh(x:El!)(e:tV!):Q8!:=by cases q:H a with | none=>rfl | some u=>show Dt? (B_ (x.lt q) e)
def PQ.kept(x:El!)(k:pA!):PQ P w H h':=λa o e =>(x a o e).RA (λb u _ q=>k b u q) (SH!) L5!
def PQ.laid(x:El!)(k:pA!)(hp:tV!)(new:EX P w N2! h' a o):WW! N2! h':=OR! (by have hn:=x.fresh hp;show CH?;(.show Ey? new);.rw[FR!] at e;show(x b u e).RA (λc v _ q=>k c v q) (λc q=>sk!) λc xs q=>sk!)
open E
abbrev Rd(H:Hp)(a:Addr)(u:HO):B!:=GR! u\/∃o,GR! J5!
def Rd.ok(r:Rd H a u)(x:El!):wX! u:=by
 rcases r with r|⟨o,r⟩;.show x a u r
 .have⟨_,q⟩:=x a _ r;show q
abbrev pI:JG! (HV! HO)
 | some (.BK _)=>True
 | some (.dK _)=>True
 | some (.dT _)=>True
 | some (.set _ _)=>True
 | some (.ins _ _ _)=>True
 | some (.ext _)=>True
 | _=>False
open S
variable {P:Program}{w:World}{H:Hp}{h h':Heap}{x e:Addr}{o':HO}
def PQ.write(ok:El!)(mu:pI (H x))(he:JKp)(k:JJa wr!)(l9:JKs)(new:EX P w (Km! x o') h' x o'):WW! (Km! x o') h':=λb u q=>by (have qO:∀c y,PM! c Gx! y->c≠x:=λc y r z=>JOn r);(have JAr:∀c xs,Ml! c xs->c≠x:=λc xs r z=>JOn r);by_cases hb:b=x;(.subst hb;rw[Ab] at q;cases q;show new);.rw[FR!] at q;by_cases jn:b=e;(·(have q':PM! b Gx! x:=by show d? he;(.show GO! jn.trans z hb);.rw[jn];show z);rw[q] at q';cases q';have⟨v,hv⟩:=l9;show⟨v,U! jn hv⟩);·(show(ok b u q).RA (λc v hc r=>k c v ?_ r) (λc r=>Op (qO c b r) r) λc xs r=>Op (JAr c xs r) r);show CI?;(.show jn);.rintro rfl;show d? he;(.show qO c b hc z);.rw[hc] at z;cases z;show hb A!
open E
structure Un(fs ex:Z!)(H H':Hp)(h h':Heap):B! where
 keep:Ce! (C2!->An!->b∉fs->XS!->iI!)
 slot:Ce! (C2!->An!->b∈fs->XS!->qc!)
 free:Ce! (C2!->An!->XS!->M1!)
 there:Ce! (C2!->XS!->∃o',Kj! XR! o')
 RX:JOR
 PV:∀b o u,Yy! J5!->Ku! J5!
 RY:∀b ps,PM! b .fb ps->∃more,Ku! (.fb (ps++more))
open S
variable {fs eY ex ex':List Addr}{H H1 H2:Hp}{h h1 h2 h':Heap}{a x e:Addr}{o:HO}
def Un.any(u:Un fs ex H H1 h h1)(q:Ni! OO!)(n:An!)(hx:XS!):∃sl,Kj! SG! { ob with slots:=sl }:=by
 by_cases hb:b∈fs;.show u.slot b ob q n hb hx
 .show⟨ob.slots,u.keep b ob q n hb hx⟩
def Un.kept(k:pA!):JKP H :=⟨λb ob q _ _ _=>k b ob q,λb ob q _ _ _=>lJ! ob.slots ob,λ_ _ _ n _=>n,λb ob q _=>lJ! ob ob,L5!,λ_ _ _ q=>q,λ_ ps q=>b0! (ah! q)⟩
def Un.refl:Un fs ex H H h h:=Un.kept L5!
def Un.laid(k:pA!)(hp:tV!)(hn:Q8!):JKP N2! where
 keep:=λb u q _ _ _=>k b u q
 slot:=λb u q _ _ _=>lJ! u.slots u
 free:=λb u q n _=>U! (Ad (BN (B_ (AU q) hp))) n
 there:=λb u q _=>lJ! u u
 RX:=λb xs q=>sk!
 PV:=λb u xs q=>sk!
 RY:=λb ps q=>b0! (by rw[Ad (Ak q hn),q];simp)
def Un.write(mu:pI (H x))(he:JKp)(k:JJa wr!)(l9:JKs):JKP JEH:=by
 have hx:JDU (b≠x):=λb n z=>JOn n
 have hb:JDU (b≠e):=λb n z=>by subst z;rcases he with r|r;(.show hx b n r);.rw[n] at r;cases r
 have hm:∀b u,Pt!->¬pI (D! u)->b≠x:=λb u q nm z=>by subst z;rw[q] at mu;show nm mu
 show⟨λb u q n _ _=>k b u (hb b n) q,λb u q n _ _=>⟨u.slots,k b u (hb b n) q⟩,λb u q n _=>Op (hx b n) n,λb u q _=>?_,λb xs q=>U! JPc q,λb u xs q=>U! JPc q,λb ps q=>b0! (by rw[JPc,q];simp)⟩;by_cases jn:b=e;.subst jn;show l9
 .show⟨u,k b u jn q⟩
open E
abbrev r9(h:Heap)(H:Hp):Z!:=(At! SI!).filter λa=>(H a).isSome
abbrev gp(h:Heap)(H:Hp):Eo!:=W.hideAll h (r9 h H)
def Jmz(h:Heap)(H:Hp):(gp h H).objs.size=h.objs.size:=W.hideAll_size _ _
def Jqi(e:C2!)(n:An!):GA! yZ! :=W.hideAll_get _ e λhm=>by have q:y! (H b).isSome:=(L6! hm).2;rw[n] at q;simp at q
def Js8(e:GA! yZ!):C2!/\An!:=by have e':C2!:=W.of_hideAll (r9 h H) e;show f? e';cases q:H b with | none=>rfl | some x =>have hm:b∈r9 h H:=N1! (XT! (AU e')) (by simp[q]);have z:FE! yZ!:=W.hideAll_none (r9 h H) hm;rw[z] at e;cases e
abbrev Jt9(g h:Heap)(L:Addr):x!:=(At! SI!).filterMap λa=>if a=L\/y! (g.get? a).isSome then none else JLu a (a,o)
abbrev rest(g h:Heap)(L d:Addr):x!:=(Jt9 g h L).filter λp=>Aa! (g!≠d)
structure Mod(K:W.Frag)(mg:sw)(base:Heap):B! where
 YR:K.In AW!
 glob:QP! base.Ns
 blt:∃mb,base.Ns builtinsNs mb/\∀x:Str,Ul!->mb x=fo! x
 nolimit:base.NoLimit
structure Cx(K:W.Frag) where
 prog:Program
 w:World
 mg:sw
 base:Eo!
 A:Around
 N:AC
 JK:OS!
 UT:Hp
 env:Env
 outer:Ca!
 stack:Ca!
 ex:Z!
 fn:Str->A3!
 calm:A3!
 pn:x!
 xe:Os
abbrev SS(l:Ca!):Z!:=l.filterMap (·.frame)
@[reducible]abbrev Cx.fs(X:E!):Z!:=SS X.outer
abbrev yT(sc:Scope)(x:Str):B!:=Gm!\/oz!\/lv! sc.names.lookup
abbrev Loc(sc:Scope)(x:Str):B!:=Gm!\/oz!
abbrev Look(env:Env)(h:Heap)(m:sw)(x:Str)(u:Value):B! :=
 (hl! tW!/\FA! m u)\/((wq! tW!\/lv! tW!)/\∃c,Tg! env.cells.lookup/\h.IsCell c (D! u))
structure Cx.Ok(X:E!):B! where
 mod:Mod Kx X.mg Fl!
 kind:X.env.scope.kind=.function
 glob:X.env.globals=mainGlobals
 blt:X.env.builtins=builtinsNs
 above:X.JK.heap.objs.size<=X.env.locals
 inj:∀x y c,vt!->AT tX! y c->x=y
 has:∀x,(wq! tY!\/lv! tY!)->∃c,vt!
 e_:∀x c,Cw! X.fn x->vt!->X.JK.heap.objs.size<=c
 hd:BK!->X.A.handled=none
 frames:X.A.frames=Ix D6!
 fe:X.stack=X.outer\/(X.stack=OU!/\X.env.frame=Ix OV!)
 YY:∀b∈X.ex,SJ!/\JTe
 bs:o4! (JBq/\FE! X.UT)
 ag:X.base.objs.size<=X.JK.heap.objs.size
 VQ:o4! (b∉X.ex)
 UR:∀b∈X.ex,fp!
 OY:X.JK.heap.FunFrames Fl! X.outer
 cE:∀b∈X.fs,FE! X.UT
structure Inv(X:E!)(AB:x!)(σ:Gv! (ON! V))(H:Hp)(s:Shared):B! where
 ok:X.Ok
 os:s.os=X.JK.os
 bare:AllBare s.gens
 base:Un X.fs X.ex X.UT H X.JK.heap Go
 loc:∃m,s.heap.Ns OV! m/\∀(i:Nat)(x:Str)(v:V),Nt!->Uy! Vy!->JGl->∃u,C3!/\Look SL Go m x u
 cell:QB! (∃v,s.heap.IsCell c v)
 free:A7! OV!
 LC:QB! (A7! c)
 pin:aV! (Zv! g! pi/\JBv/\g!≠X.env.locals/\g!∉X.fs/\∀v,p.2.data≠OT! v)
 EI:PQ Bm! X.w H Go
 len:σ.length=X.N.length
open S
variable {X:Cx Kx}{AB:List (Addr×Obj)}{σ:List (Option V)}{H H':Hp}{s:Shared}{h':Heap}
def Cx.Ok.JAt(ok:X.Ok){b:Addr}{o:Obj}(e:GA! X.base.get?):fp!:=λhb=>by have:=(ok.OY.mem hb).1;show CJ?;cases this
def Inv.bs(I:I!):o4! (DL!/\An!):=λb o e =>⟨fq! b o (I.ok.bs b o e).1 (I.ok.bs b o e).2 (I.ok.JAt e) (JK! I.ok.VQ),OX! b o (I.ok.bs b o e).1 (I.ok.bs b o e).2 (JK! I.ok.VQ)⟩
def Inv.bk(I:I!):o4! DL!:=Cf! (I.bs b o e).1
def Inv.mod{X:E!}(I:I!):Mod Kx X.mg Fl!:=I.ok.mod
def Inv.PN{X:E!}(I:I!):Kx.In Go:=I.ok.mod.YR.keeps I.bk
def Inv.lt(I:I!):X.env.locals<s.heap.objs.size:=let⟨_,hn,_⟩:=I.loc;hn.lt
def Inv.sz(I:I!):X.JK.heap.objs.size<=s.heap.objs.size:=AA I.ok.above (A_ I.lt)
def Inv.JAs(I:I!)(h:XU!):a∉X.fs:=λhb=>by have⟨_,o,ho,_⟩:=I.ok.OY.mem hb;show AJ! (B_ (AU ho) (AA I.sz h)) aJ!
def Inv.cn(I:I!):QB! (c≠X.env.locals):=λx c e z=>by have⟨v,o,ho,hd⟩:=eT!;have⟨m,⟨o',es,ep,gI,XG,_⟩,_⟩:=I.loc;rw[z,gI] at ho;cases ho;rw[XG] at hd;cases hd
def Inv.OY(I:I!):yH! Fl! X.outer:=by
 have all:∀(l:Ca!),(∀b∈SS l,b∈X.fs)->X.JK.heap.FunFrames Fl! l->s.heap.FunFrames Fl! l:=by intro l;induction l with | nil=>intro _ _;trivial | cons env r ih =>intro hs hl;have⟨hk,⟨L,o,hf,hn,ho,hd⟩,hr⟩:=hl;have hL:L∈X.fs:=hs L (by unfold SS;rw[IV,hf];show ZL);have⟨sl,e⟩:=tZ! L o ho (I.ok.cE L hL) hL λz=>I.ok.UR L z hL;show⟨hk,⟨L,_,hf,hn,e,hd⟩,ih (ut (hs b (by unfold SS;rw[IV,hf];show ZD _ hb))) hr⟩
 show all X.outer (λ_ hb=>hb) I.ok.OY
def Inv.stack(I:I!):yH! Fl! D6!:=by
 rcases I.ok.fe with e|⟨e,hf⟩;.rw[e];show I.OY
 .rw[e];have⟨m,hn,_⟩:=I.loc;show SC (by rw[KE!];decide) hf hn ?_ I.OY;show Heap.get?_none_of_le (AA I.ok.ag I.ok.above)
def Inv.WR(I:I!):∀b∈SS D6!,b∈X.env.locals::X.fs:=ut (by rcases I.ok.fe with e|⟨e,hf⟩;(.rw[e] at hb;show ZD _ hb);.rw[e] at hb;unfold SS at hb;rw[IV,hf] at hb;show hb)
def Inv.UC(I:I!):∀b∈SS D6!,An!:=ut (by rcases ZM (I.WR b hb) with e|hb;(.rw[e];show KF!);.have⟨_,o,ho,_⟩:=I.ok.OY.mem hb;show OX! b o ho (I.ok.cE b hb) λz=>I.ok.UR b z hb)
def Inv.step{g':Array GenState}{t':Nat}{d':Drawn}{ch:Z!}(I:I!)(eX:JQ1)(keep:Ce! (SJ!->fp!->XV!->DL!->An!->iI!))(slot:Ce! (SJ!->b∈X.fs->XV!->DL!->An!->qc!))(free:Ce! (XV!->DL!->An!->M1!))(there:Ce! (XV!->DL!->∃o',Kj! XR! o'))(RX:JOR)(PV:∀b o u,Yy! J5!->Ku! J5!)(RY:∀b ps,PM! b .fb ps->∃more,Ku! (.fb (ps++more)))(ns:∀m,s.heap.Ns OV! m->h'.Ns OV! m)(EI:JKU)(hg:AllBare g') : vg! { s with heap:=h',gens:=g',drawn:=d',toks:=t' }:=by
 have neL:ws! OW! SJ!:=Cf! (BN dv!);have sX:Ce! (JBq->b∉X.ex->XV!):=λb o e hx hb=>by rcases Pp! eX with z|z;(.show hx z);.show Dt? (B_ (AU e) z)
 have cellK:QB! (∀v,s.heap.IsCell c v->h'.IsCell c v):=λx c e v ⟨o,ho,hd⟩=>by have oH:c∉ch:=λz=>(eX c z).2.2.1 x c e A!;by_cases hc:c∈X.fs;(.have⟨sl,q⟩:=slot c o (I.cn x c e) hc oH ho JHS;show⟨_,q,hd⟩);.show⟨o,keep c o (I.cn x c e) hc oH ho JHS,hd⟩
 show KC? hg (JKA (λb o e n hx=>?_) (λb xs e=>RX b xs (SK! b xs e)) (λb o xs e=>PV b o xs (L7! b o xs e)) yd!) ?_ (λx c e=>?_) ?_ (λx c e=>?_) EI;.show keep b o (JK! neL) hb sT! (fq! b o e n hb hx) JKY
 .show Ec?;have⟨wA,e2⟩:=slot b _ (JK! neL) hb sT! e1 JKY;show⟨wA,e2⟩
 .show Cd?;show free b o' sT! e1 JKY
 .show Cd?;show there b o' sT! e1
 .have⟨m1,e1⟩:=JMH;have⟨m2,e2⟩:=RY b _ e1;show⟨m1++m2,jp e2 Array.append_assoc⟩
 .have⟨m,hn,hl⟩:=I.loc;show⟨m,ns m hn,λi x v e1 e2 e3=>?_⟩;have⟨u,r,l⟩:=hl i x v e1 e2 e3;show S? u r;rcases l with l|⟨k,c,e,z⟩;(.show E? l);.show L? ⟨k,c,e,cellK x c e _ z⟩
 .have⟨v,z⟩:=eT!;show⟨v,cellK x c e v z⟩
 .have⟨m,⟨o,_,_,ho,_⟩,_⟩:=I.loc;show free _ o (λz=>(eX _ z).2.1 A!) ho KF!
 .have⟨v,o,ho,hd⟩:=eT!;show free c o (λz=>(eX c z).2.2.1 x c e A!) ho JHS
 .show Db?;have oH:g!∉ch:=λz=>(eX g! z).2.2.2 p hp A!;show⟨keep g! pi ne nf oH e n,free g! pi oH e n,ne,nf,d⟩
def Inv.un(I:I!)(u:Un X.fs [] H H' Go h')(EI:JKU):vg! fs!:=by have⟨m,⟨o,es,ep,ho,r⟩,_⟩:=mJ!;have⟨sl,hL⟩:=u.any ho KF! KB;show tH! [] (λ_ z=>nomatch z) (λb o _ hb _ e n=>u.keep b o e n hb KB) (λb o _ hb _ e n=>u.slot b o e n hb KB) (λb o _ e n=>u.free b o e n KB) (XW! (JDO KB)) u.RX u.PV u.RY (λm' hm=>by have⟨o',gU,jr,gI,r'⟩:=hm;rw[ho] at gI;cases gI;show⟨_,gU,jr,hL,r'⟩) EI
def Inv.call(I:I!)(u:Un (SS D6!) ch H H' Go h')(EI:JKU)(hg:AllBare g')(eX:JQ1) : vg! { s with heap:=h',gens:=g',drawn:=d',toks:=t' }:=by have⟨m,⟨o,es,ep,ho,r⟩,_⟩:=mJ!;have⟨sl,hL⟩:=u.any ho KF! λz=>(eX _ z).2.1 A!;show I.step (ch:=ch) eX (λb o hL hb hc e n=>u.keep b o e n (λz=>(ZM (I.WR b z)).elim hL hb) hc) (λb o _ _ hc e n=>u.any e n hc) (λb o hc e n=>u.free b o e n hc) (λb o hc e=>JDO hc) u.RX u.PV u.RY (λm' hm=>by have⟨o',gU,jr,gI,r'⟩:=hm;rw[ho] at gI;cases gI;show⟨_,gU,jr,hL,r'⟩) EI hg
def Inv.turned{t':Nat}{it:Addr}(I:I!)(k:oW!)(hn:A7! it)(hL:it≠X.env.locals)(h1:it∈X.ex\/X.JK.heap.objs.size<=it)(h2:QB! (c≠it))(h3:aV! (g!≠it)):JBp:=by
 have oG:∀b u,Pt!->b≠it:=λb u e z=>JHt hn
 show tH! [it] Vr! (jz! JFs) (jz! (JAC JFs)) (λ_ _ _ _ n=>n) (λb o hc e=>EW! JFs) (ta!) (tb!) (λb ps e=>b0! (by rw[e];simp)) (λm hm=>?_) yD!;·show BW? (b=it);subst e;show⟨h1,hL,h2,h3⟩
 .have⟨o,es,ep,ho,r⟩:=hm;show⟨o,es,ep,k _ o (OZ! hL) ho,r⟩
 .show EH? (λc v hc q=>k c v ?_ q) SH! L5!;show d? hc;(.rw[z];show oG b u e);.show oG c _ z
def Inv.tok(I:I!)(t:Nat):vU! { s with toks:=t }:=I.un (h':=Go) (t':=t) Un.refl Au!
def Inv.kept(I:I!)(k:w0! JC8):JBp:=I.un (Un.kept k) (I.EI.kept k)
def Inv.laid{a:Addr}{o:HO}{t':Nat}(I:I!)(k:w0! JC8)(hp:XU!)(new:c4! N2! a o) : HS! N2! fs!:=I.un (Un.laid k hp (XX! hp)) (I.EI.laid k hp new)
def Inv.write{x e:Addr}{o:HO}{t':Nat}(I:I!)(mu:pI (H x))(he:JKp)(k:JJa JC8)(l9:JKs)(new:c4! JEH x o):HS! JEH fs!:=I.un (Un.write mu he k l9) (I.EI.write mu he k l9 new)
def Inv.bA(I:I!)(h:∀p∈OZ,Zv! g! pi/\JBv/\g!≠X.env.locals/\g!∉X.fs/\∀v,p.2.data≠OT! v):Inv X OZ σ H s :=jq! I.ok (λp hp=>(ZI hp).elim (λz=>Zo! (DK! z)) (h p))
def Uv{N:AC}(hN:N.Nodup){i j:Nat}{x:Str}(a:N[i]?=D! x)(b:N[j]?=D! x):i=j:=by have⟨h1,e1⟩:=ZJ a;have⟨h2,e2⟩:=ZJ b;show(NZ hN).mp (e1.trans e2.symm)
def Pr{M:Model}{A:Around}{E:Os}{i:Nat}{x:Str}{v:V}{u:Value}{Q:Fb!}(I:I!)(hN:X.N.Nodup)(hi:Nt!)(hx:o5!)(r:C3!)(h:∀s',JLg fa!->(∃a,Heap.SameBut a Go Gy!/\(a=X.env.locals\/FA! tX! a))->Q () s')(hf:qY!:=by show FL?):QO! (storeName SL x u):=by
 have⟨m,hn,hl⟩:=mJ!;have aG:Ad! (ft! .class || (ft! .module&&X.env.locals != X.env.globals)):=Ds! KE!
 have iA:i<σ.length:=JJI I.len
 have cn:=I.cn;have tracked:∀{a:Addr} {h':Heap},(∃o,cZ! o/\Q8!)->v8! a->PQ Bm! X.w H h':=λ{a h'} ha hs b ob e=>by have⟨_,_,SX⟩:=ha;show(Au! b ob e).RA (λc w' hc q=>(IR! c ?_).trans q) (SH!) L5!;rintro rfl;show CI?;(.show AH? SX);.show Ep? SX
 rcases hx with hk|hk;.show wpAny_storeName_local hk hn (λh' xO hs=>?_) aG;have⟨oL,_,_,hoL,_⟩:=id hn;show h _ (JMt (JKA OX! SK! L7! I.base.RY) (BM! xO yg!) yh! (tracked ⟨oL,hoL,KF!⟩ hs) (by simpa using I.len)) (BM! hs Q6!);(.show JNx BN dv!);(.show Ec?;show⟨sl,pk! dv!⟩);(.show Cd?;show⟨o',pk! dv!⟩);(.by_cases hj:j=i;(.subst hj;rw[hi] at e1;cases e1;rw[JO iA] at e2;cases e2;show⟨u,r,Ks! hk sK⟩);.show Ii?;show Kn?;show S? u' r';rcases q with⟨k,e⟩|⟨k,c,e,z⟩;(.show EA? k;have:y≠x:=λe=>hj (Uv hN e1 (e▸hi));simp[this,e]);.show L? ⟨k,c,e,rm!⟩);(.have⟨w',z⟩:=OY! y c e;show⟨w',rm!⟩);.show Db?;show⟨(IR! g! ne).trans e,n,ne,nf,d⟩
 ·(have xS:Cw! X.fn x:=by show d? hf;(.show z);.rw[z] at hk;cases hk);have⟨c,hc⟩:=I.ok.has x (S! hk);have⟨w',z⟩:=OY! x c hc;show wpAny_storeName_cell KE! hk hc z (λh' l_ hs=>?_);have⟨oc,l7,JBH⟩:=id z;show h BT! (JMt (JKA OX! SK! L7! I.base.RY) ⟨m,hn.sameBut hs (OZ! (cn x c hc)),yg!⟩ (λy c' e=>?_) (tracked ⟨oc,l7,I.LC x c hc⟩ hs) (by simpa using I.len)) ⟨c,hs,o! hc⟩;(.show JNx BN JRF);(.show Ec?;show⟨sl,pk! JRF⟩);(.show Cd?;show⟨o',pk! JRF⟩);(.by_cases hj:j=i;(.subst hj;rw[hi] at e1;cases e1;rw[JO iA] at e2;cases e2;show⟨u,r,o! ⟨GE hk,c,hc,l_⟩⟩);.show Ii?;show Kn?;show S? u' r';rcases q with q|⟨k,c',e,z'⟩;(.show E? q);.show d! ⟨k,c',e,z'.sameBut hs ?_⟩;rintro rfl;show hj (Uv hN e1 (I.ok.inj _ _ _ e hc▸hi)));(.by_cases hcc:c'=c;(.subst hcc;show⟨_,l_⟩);.have⟨w2,z2⟩:=OY! y c' e;show⟨w2,z2.sameBut hs hcc⟩);.show Db?;show⟨(IR! g! ?_).trans e,n,ne,nf,d⟩;intro q;rw[q,l7] at e;have q':oc=pi:=ZO e;show d w' (CZ! q' JBH)
def Tj{M:Model}{A:Around}{E:Os}{i:Nat}{x:Str}{v:V}{u:Value}{Q:Fb!}(I:I!)(hN:X.N.Nodup)(hi:Nt!)(hx:o5!)(r:C3!)(h:os! (JLg fa!))(hf:qY!:=by show FL?):QO! (storeName SL x u) :=Pr I hN hi hx r (λs' I' _=>h s' I') hf
def Inv.a8{s':Shared}{ch:Z!}(I:I!)(ho:tc!)(u:JJ3 D6! ch)(EI:PQ Bm! X.w H' Gy!)(hg:xg!)(eX:JQ1):QE!:=by have⟨h',g',d',t',o'⟩:=s';have e:o'=s.os:=ho;subst e;show I.call (g':=g') (t':=t') (d':=d') u EI hg eX
open E
@[reducible]abbrev XK:=DY!->PN! Nj!
@[reducible]abbrev St:=Gv! (ON! V)
@[reducible]abbrev VK:=lq!
@[reducible]abbrev TE:=St->ZG!
@[reducible]abbrev TT:=ps! Jf!
@[reducible]abbrev TA:=ps! JH!
structure Ends where
 nx:Bw!
 rt:VK
 bk:Bw!:=KG!
 ct:Bw!:=KG!
@[reducible]abbrev TS:=Ends->Bw!
inductive EP(X:E!)(AB:x!)(σ:St)(Q:VK)(u:Value)(s':Shared):B!
 | mk v H' (_:QE!) (_:C3!) (_:Jt!)
inductive TP(X:E!)(AB:x!)(σ:St)(Q:Jf!)(b:Bool)(s':Shared):B!
 | mk H' (_:QE!) (_:Hg! b)
inductive AP(X:E!)(AB:x!)(σ:St)(Q:JH!)(us:k!)(s':Shared):B!
 | mk vs H' (_:QE!) (_:Nw!) (_:Hg! vs)
abbrev SP(X:E!)(AB:x!)(D:Ends)(f:Flow)(s':Shared):B! :=
 match f with
 | .next=>JHf D.nx
 | .brk=>JHf D.bk
 | .cont=>JHf D.ct
 | .ret u=>NM λv GA H'=>wR!/\C3!/\D.rt v H'
abbrev PE(X:E!)(e:Expr)(t:TE):B! :=
 ∀(AB:x!)(s:Shared)(σ:St)(H:Hp)(Q:VK),ni! (Gp! (Te! e))
abbrev PT(X:E!)(e:Expr)(t:TT):B! :=
 ∀(AB:x!)(s:Shared)(σ:St)(H:Hp)(Q:Jf!),ni! (nM! (SN! e SL (Te! e)))
abbrev PW(X:E!)(e:Expr)(t:TT):B! :=
 ∀(whole:Sem DY!)(AB:x!)(s:Shared)(σ:St)(H:Hp)(Q:Jf!),ni! (nM! (SN! e SL whole))
def cI(h:PW X e t):PT X e t:=h _
abbrev PA(X:E!)(es:IB!)(t:TA):B! :=
 ∀(pos:Pos)(AB:x!)(s:Shared)(σ:St)(H:Hp)(Q:JH!),ni! (he! (spliced JSI) (AP X AB σ Q))
abbrev PS(X:E!)(st:Stmt)(t:TS):B! :=
 ∀(AB:x!)(s:Shared)(σ:St)(H:Hp)(D:Ends),K9! (Vc! t) (he! (exec st SL) (SP X AB D))
abbrev SW(X:E!)(st:bw!)(t:TS):B! :=
 ∀(AB:x!)(s:Shared)(σ:St)(H:Hp)(D:Ends),K9! (Vc! t) (he! (execs st SL) (SP X AB D))
def FO(h:QO! t)(hQ:∀a s,Q a s->Q' a s):F9! M A t Q' E s:=FH h hQ fu!
open S
variable {X:Cx Kx}
def bin{a b:Expr}{ta tb:TE}(ha:Gn!)(hb:Ly!){AB:x!}{s:Shared}{σ:St}{H:Hp}{R:V->lq!}(I:I!)(h:JH9 sN!){α:UF}{Q:E9! α}{f:DY!->DY!->Sem α}(hf:∀v u s2 x y H2,HS! H2 s2->LC!->CG!->sN!->rN! s2) : JRG (rN! NN):=by show Hi?;show Ao?;show FO (v2! hb) ?_;rintro u s2 ⟨y,H2,I2,r2,q2⟩;show hf v u s2 x y H2 I2 r1 r2 q2
inductive Jzw(i:Nat)(σ:St)(H:Hp)(Q:VK):B!
 | mk (v) (e0:Uy! Vy!) (e1:Q v H)
abbrev Bt(i:Nat):TE:=λσ H Q=>Jzw i σ H Q
abbrev tC(v:V):TE:=vm! v
def Jv9(hN:Nt!)(hv:JGl)(hd:D1!:=by decide)(TH:Ad! (x==E7! "__classdict__"):=by decide):og! Bt i:=by
 show M?;have⟨v,e,h⟩:=h;have⟨m,hn,hl⟩:=I.loc;have⟨u,r,l⟩:=hl i x v hN e hv;show Go? u JND;rcases l with⟨hk,hm⟩|⟨hk,c,hc,JE⟩;.show td! (wpAny_loadName_local KE! hk hn hm wn) hd
 .rcases hk with hk|hk;(.show td! (wpAny_loadName_cell KE! hk hc JE wn) hd);.show td! (wpAny_loadName_free KE! hk hc JE wn TH) hd
def Af:JMm l3! (tC (V! i)):=kB! wpAny_Constant_int (JL0 My! h)
def Ij:JMm (Cg! b) (tC (bv b)):=kB! Constant_bool ⟨bv b,H,I,A!,h⟩
def Jpd:PE X (.Constant IR j AS!) (tC Av!):=kB! Constant_none ⟨Av!,H,I,A!,h⟩
def As:JMm (bn x) (tC (bn x)):=kB! Calls.Constant_str (JL0 cF! h)
abbrev Gl(X:E!)(x:Str):B!:=FA! tY! .globalImplicit
def Gs{E:Os}{AB:x!}{s:Shared}{σ:St}{H:Hp}{x:Str}{u:Value}{pos:Pos}{Q:Os}(I:I!)(hg:Gs!)(hm:VJ! u)(h:Q u s)(hd:D1!:=by decide):x3! (Te! wt!) :=Calls.Name_function_global KE! hg (Calls.loadGlobal_global (JF8 I.ok.glob te!) hm h) hd
def Qc(I:I!)(hg:Gs!)(hm:ox!)(hv:FA! fo! u)(h:Q u s)(hn:Ul!:=by decide)(hd:D1!:=by decide):x3! (Te! wt!):=by have⟨mb,h1,h2⟩:=I.mod.blt;show Calls.Name_function_global KE! hg (Calls.loadGlobal_builtin (JF8 I.ok.glob te!) hm (JF8 I.ok.blt h1.keeps) ((h2 x hn).trans hv) h) hd
def Gp{x:Str}{v:V}{u:Value}{pos:Pos}(hg:Gs!)(hm:VJ! u)(r:C3!)(hd:D1!:=by decide):og! tC v :=λ_ _ _ H _ I h=>Gs I hg hm JND hd
def Sk{x:Str}{v:V}{u:Value}{pos:Pos}(hg:Gs!)(hm:ox!)(hv:FA! fo! u)(r:C3!)(hn:Ul!:=by decide)(hd:D1!:=by decide):og! tC v :=λ_ _ _ H _ I h=>JRK JND hd
abbrev t2I(ta tb:TE)(k:Ch->PN! Ch):Bw!:=λσ H=>JH9 (HK λi j=>Qm!/\bW!/\k i j H2)
variable {a b:Expr}{ta tb:TE}{pos:Pos}
abbrev PC(X:E!)(op:CmpOp)(a b:Expr)(t:TE):B! :=
 ∀(AB:x!)(s:Shared)(σ:St)(H:Hp)(Q:VK),bO! (t σ H Q ->
  JRG (h5! (SO! op v u) (EP X AB σ Q) NN))
def Jgq(b:Expr)(h:op≠.In)(h2:op≠.NotIn):XB!:=by
 have e1:Ad! (op==CmpOp.In):=by show E6? h
 have e2:Ad! (op==CmpOp.NotIn):=by show E6? h2
 cases b<;>simp[behindInMarks,e1,e2]
abbrev j9(p:JFz)(ta tb:TE):TE:=λσ H Q=>t2I ta tb (λi j H2=>Q (bv (p i j)) H2) σ H
@[reducible]abbrev tLt:XC!:=el! (i<j)
@[reducible]abbrev tLe:XC!:=el! (i<=j)
@[reducible]abbrev tGt:XC!:=el! (j<i)
@[reducible]abbrev tGe:XC!:=el! (j<=i)
@[reducible]abbrev J0e:XC!:=el! (i=j)
@[reducible]abbrev J2d:XC!:=j9 λi j=>! Aa! (i=j)
def Jwc{op:CmpOp}{p:JFz}(ha:Gn!)(hb:Ly!)(rule:∀(i j:Int) (t u:Tok) (Q:Os) (s:Shared),o0! (p i j)->he! (SO! op jh! (V! j u)) Q):JJz (j9 p ta tb):=by show M?;show bin ha hb I h λv u s2 x y H2 I2 rx ry q=>?_;have⟨i,j,rfl,rfl,q⟩:=q;show T?;show AQ?;show rule i j t t' _ s2 ⟨bv _,H2,I2,A!,q⟩
def Jwd(ha:Gn!)(hb:Ly!):PC X .Eq a b (J0e ta tb):=Jwc ha hb λ_ _ _ _ _ _ h=>LF! eq_int Bool.beq_eq_decide_eq h
abbrev J0d(ta:TE):TE:=Rb! (Q (a2! bv (x=Av!)) H1)
def RelV.dt(r:LC!):Fd! (v==Value.none) (x=Av!):=by grind [V,RelV]
def Jwb(ha:Gn!):PC X .Is a (.Constant IR j pos') (J0d ta):=by show M?;show Hi?;show Ao?;show Constant_none (is_none_gen ⟨bv _,H1,I1,Ds! r1.dt,q1⟩)
inductive ItB  (x:V) (H1:Hp) (Q:Jf!):B!
 | mk (c) (e0:x=bv c) (e1:Q c H1)
abbrev tB(t:TE):TT:=ZO! t (ItB  x H1 Q)
def Jwa(h:JJz t)(h1:XB!:=by first|show Jgq _ TD TD|rfl):CS! sl! t:=λAB s σ H Q I hw=>wpAny_Compare1 (JGS Q hw) h1
def El(h:JJz t)(h1:XB!:=by first|show Jgq _ TD TD|rfl):PT X sl! (tB t):=by show Fr?;show wpAny_isTrue_Compare1 (FO (q7!) λv s1 h1=>FO h1 λu s2 h2=>FO h2 λc s3 ⟨x,H1,I1,r1,q1⟩=>?_) h1;have⟨d,rfl,q⟩:=q1;cases r1;show UD ⟨H1,I1,q⟩
def F1(h:CS! e t)(he:∀whole,SN! e SL whole=(do let v <-whole;standAt e.pos;holding [v] (truthy v)):=by intro _;rfl):PT X e (tB t):=by
 show Fr?
 show isTrue_plain (FO (q7!) λv s1 ⟨x,H1,I1,r1,q1⟩=>?_) (he _)
 have⟨d,rfl,q⟩:=q1
 cases r1
 show UD ⟨H1,I1,q⟩
variable {tA r_:TT}{rest:List Expr}
abbrev J0i(t u:TT):TT:=JJb (FK! u Q) (Q am H1)
abbrev tOr(t u:TT):TT:=JJb (Q q! H1) (FK! u Q)
abbrev J0b(t:TT):TT:=Zp! (λc H1=>Q (!c) H1)
def Oj(ha:eh!):PW X (.BoolOp .And [a] AS!) tA:=by show Cu?;show isTrue_and (FO (eE! ha Q) λc s1 e=>?_);cases c with | true=>show isTrue_and_nil e | false=>show e
def Nf(ha:eh!):PW X (.BoolOp .Or [a] AS!) tA:=by show Cu?;show isTrue_or (FO (eE! ha Q) λc s1 e=>?_);cases c with | false=>show isTrue_or_nil e | true=>show e
def Ul(ha:eh!)(hb:rn! .And (b::rest) r_):rn! .And (a::b::rest) (J0i tA r_):=by show Cu?;show Ay? isTrue_and ha;rintro c s1 ⟨H1,I1,q1⟩;cases c with | true=>show hb wh AB s1 σ H1 Q I1 q1 | false=>show⟨H1,I1,q1⟩
def Q2(ha:eh!)(hb:rn! .Or (b::rest) r_):rn! .Or (a::b::rest) (tOr tA r_):=by show Cu?;show Ay? isTrue_or ha;rintro c s1 ⟨H1,I1,q1⟩;cases c with | true=>show⟨H1,I1,q1⟩ | false=>show hb wh AB s1 σ H1 Q I1 q1
def zJ(ha:eh!):PT X (.UnaryOp .Not a AS!) (J0b tA):=by show M?;show isTrue_not (FO (eE! ha (λc H1=>Q (!c) H1)) λc s1 ⟨H1,I1,q1⟩=>⟨H1,I1,q1⟩)
abbrev tIf(t:TT)(ta tb:TE):TE:=JJb (FK! ta Q) (FK! tb Q)
def Ur(hc:PT X c tA)(ha:Gn!)(hb:Ly!):CS! (.IfExp c a b AS!) (tIf tA ta tb):=by show M?;show Ay? wpAny_IfExp hc;rintro d s1 ⟨H1,I1,q1⟩;cases d with | true=>show FV? ha Q | false=>show FV? hb Q
open E
abbrev DZ(K:W.Frag)(H:Hp)(a:Addr)(xs:C!):B! :=
 Rd H a (.BK xs) \/
  NM λ(o:Obj)(its:Array Value)(n:Nat)=>mE! Ob!/\o.cls=GB! B4!/\tf!/\yV! As!/\its.size<=sizeLine/\Gw! xs Oc!
abbrev DC(K:W.Frag)(H:Hp)(a:Addr)(xs:C!):B! :=
 Rd H a (FB xs) \/
  NM λ(o:Obj)(its:Array Value)(n:Nat)=>mE! Ob!/\bX!/\yV! As!/\its.size<=sizeLine/\Gw! xs Oc!
abbrev J15:Y5! DY! V
 | .none=>Ix Av!
 | .bool b=>HU! bv b
 | .int i _=>Du! i
 | .str x _=>li! x
 | .bytes b _=>HU! .Y' b
 | .float b _=>HU! .ix b
 | .ref a=>K6!
 | .type n=>HU! .ty n
 | _=>none
def RelV.abs(r:Jg!):AT J15 u x:=by cases x with | GB=>cases r;rfl | bl _=>cases r;rfl | int _=>show BS? | str _=>show BS? | Y' _=>show BS? | ix _=>show BS? | ref _=>cases r;rfl | ty _=>cases r;rfl
def RelV.inj(r:Jg!)(q:CG!):x=y:=ZO (r.abs.symm.trans q.abs)
def Vals.inj{xs:C!}{us:k!}(p:Ek!):∀{ys:C!},TY! ys->xs=ys:=by induction p with | nil=>intro ys q;cases q;rfl | cons r t ih=>intro ys q;cases q with|cons r' t'=>rw[r.inj r',ih t']
open S
variable {X:Cx Kx}{AB:List (Addr×Obj)}{σ:St}{H:Hp}{s:Shared}{a:Addr}{xs ys:List V}
def DZ.of{K:W.Frag}(h:PY! a xs):Fe!:=Pq! h
def DC.of{K:W.Frag}(h:oC!):Dz!:=Pq! h
def Inv.list{X:E!}(I:I!)(h:JJf):yR! (Wa!/\PlainL Go a CH!/\Fj!):=by
 rcases h with h|⟨o,its,n,hk,hc,hd,hs,hz,r⟩;.have⟨z,its,n,r,e⟩:=h.ok Au!;show⟨As!,r,⟨_,n,e,A!,A!,A!⟩,z⟩
 .show⟨Oc!,r,⟨o,n,Es! a o hk,hc,hd,by simpa using hs⟩,?_⟩;have e:=r.length;simp only[DY] at e;show e▸hz
def Inv.tuple{X:E!}(I:I!)(h:JHU):yR! (Wa!/\OP! Go a CH!/\Fj!):=by
 rcases h with h|⟨o,its,n,hk,hc,hs,hz,r⟩;.have⟨z,its,r,p⟩:=h.ok Au!;show⟨As!,r,p,z⟩
 .show⟨Oc!,r,⟨o,Es! a o hk,hc,n,by simpa using hs⟩,?_⟩;have e:=r.length;simp only[DY] at e;show e▸hz
def Inv.U_{X:E!}(I:I!)(h:JJf)(h':DZ Kx H a ys):xs=ys:=by
 have⟨its,r,⟨o,n,e,_,_,d⟩,_⟩:=Fp! h;have⟨its',r',⟨o',n',e',_,_,d'⟩,_⟩:=Fp! h';show g?;cases e';rw[d] at d';injection d' with d1 _;have:its=its':=ZS! (Ui! Array.toList d1)
 subst this;show r.inj r'
def Inv.V_{X:E!}(I:I!)(h:JHU)(h':DC Kx H a ys):xs=ys:=by
 have⟨its,r,⟨o,e,_,n,d⟩,_⟩:=Et! h;have⟨its',r',⟨o',e',_,n',d'⟩,_⟩:=Et! h';show g?;cases e';rw[d] at d';injection d' with d1 _;have:its=its':=ZS! (Ui! Array.toList d1)
 subst this;show r.inj r'
open E
@[reducible]abbrev Cx.UL(X:E!)(E:Os):E!:={ X with xe:=E }
@[reducible]abbrev Cx.oE(X:E!):E!:=X.UL KG!
def Cx.Ok.UL{X:E!}(ok:X.Ok)(E:Os):(X.UL E).Ok :=pq!
def Cx.Ok.PD{X:E!}{E:Os}(ok:(X.UL E).Ok):X.Ok :=pq!
open S
variable {X:Cx Kx}{AB:List (Addr×Obj)}{σ:St}{H:Hp}{s:Shared}{E:Value->Shared->Prop}
def Inv.UL(I:I!)(E:Os):r3! (X.UL E):=jq! (I.ok.UL E) I.pin
def Inv.PD(I:r3! (X.UL E)):I!:=jq! I.ok.PD I.pin
def SP.PD(h:SP (X.UL E) AB D f s'):JQo f:=by cases f with | next=>show KU? | brk=>show KU? | cont=>show KU? | ret u=>have⟨v,GA,H',I,r,q⟩:=h;show⟨v,GA,H',I.PD,r,q⟩
def SW.oE{st:bw!}{t:TS}(h:SW X.oE st t):SW X st t:=λAB s σ H D I hw =>FH (h AB s σ H D (I.UL _) hw) (λ_ _ q=>q.PD) (Od! (XY! z))
open E
open S
variable {X:Cx Kx}{st:Stmt}{rest:List Stmt}{t u:TS}{e:Expr}{te:TE}{pos:Pos}
abbrev p8:TS:=L9! (Pm! H)
abbrev Jx3(t u:TS):TS:=L9! (t { D with nx:=u D } σ H)
def A5:SW X [] p8:=λ_ _ σ H _ I h=>QK (Nh! H I h)
def Ac(h1:PS X st t)(h2:SW X rest u):SW X (st::rest) (Jx3 t u):=by show i?;show wpAny_execs_cons (FO (eE! h1 { D with nx:=u D }) yl!);cases f with | next =>have⟨GA,H',I',q⟩:=q;show h2 AB s1 GA H' D I' q | ret v=>show q | brk=>show q | cont=>show q
def Ag(h1:PS X st t):SW X [st] t:=by show i?;show wpAny_execs_cons (FO (eE! h1 D) yl!);cases f with | next=>show QK q | ret v=>show q | brk=>show q | cont=>show q
def Inv.quiet(I:I!):wT (interactive SL):=by simp[interactive,I.ok.kind]
abbrev Jx7(te:TE):TS:=Up! te (λ_ H1=>Pm! H1)
def Bf(he:V4!)(hs:ru! e KM:=by rfl):PS X (.Expr e AS!) (Jx7 te):=by show i?;show wpAny_Expr_any (JTV he (Nh! H1 I1 q1)) I.quiet hs
abbrev J0a(te:TE):TS:=Up! te D.rt
def Ap(he:V4!):PS X (.Return (D! e) AS!) (J0a te):=by show i?;show wpAny_Return_some (JTV he ⟨x,σ,H1,I1,r1,q1⟩)
abbrev pQ(c:TT)(t u:TS):TS:=Up! c (λb H1=>vf! (t D σ H1) (u D σ H1))
def Bc(hc:PT X c tc)(ha:SW X a t)(hb:SW X b u):PS X (.If c a b AS!) (pQ tc t u):=by show i?;show Ay? wpAny_If hc;rintro d s1 ⟨H1,I1,q1⟩;cases d with | true=>show FV? ha D | false=>show FV? hb D
abbrev Jvb:TS:=SP!
def Eb:SW X IM Jvb:=λ_ _ _ _ _ _ h=>h.elim
open E
@[reducible]abbrev TG:=V->St->AP! Hp (Bw!)
@[reducible]abbrev jA:=C!->St->AP! Hp (Bw!)
abbrev PG(X:E!)(target:Expr)(t:TG):B! :=
 ∀(AB:x!)(s:Shared)(σ:St)(H:Hp)(v:V)(u:Value)(Q:Bw!),K9! C3! (t v σ H Q ->
  ao! (SQ! Xa! SL u) (λ_ s'=>xw! (Hg! GA)))
abbrev uC(X:E!)(ts:IB!)(t:jA):B! :=
 ∀(AB:x!)(s:Shared)(σ:St)(H:Hp)(vs:C!)(us:k!)(Q:Bw!),K9! Nw! (t vs σ H Q ->
  ao! (assignInOrder ((Xb! ts SL).map CI!) us) (λ_ s'=>xw! (Hg! GA)))
@[reducible]abbrev J2f:=V->V->V->AP! Hp (Gi!)
@[reducible]abbrev TIp:=de!
open S
variable {X:Cx Kx}{pos:Pos}
abbrev Jux(i:Nat):TG:=λv σ H Q=>Q fa! H
def By{i:Nat}{x:Str}(hN:X.N.Nodup)(hi:Nt!)(hx:o5!)(hf:qY!:=by show FL?):PG X wt! (Jux i):=by intro AB s σ H v u Q I r h;show tg! (Tj I hN hi hx r (λs' I'=>⟨_,H,I',h⟩) hf)
abbrev J1y:jA:=λvs σ H Q=>vs=[]/\Q σ H
inductive Jxr(t:TG)(u:jA)(vs:C!)(σ:St)(H:Hp)(Q:Bw!):B!
 | mk (v r) (e0:vs=v::r) (e1:t v σ H (Oa! (u r GA H' Q)))
abbrev Jzl(t:TG)(u:jA):jA:=λvs σ H Q=>Jxr t u vs σ H Q
def Oo:uC X [] J1y:=by intro AB s σ H vs us Q I r h;have⟨e,h⟩:=h;subst e;cases r;show assignInOrder_nil (Nh! H I h)
def Cy(h1:PG X e t)(h2:uC X es u)(hs:(Xb! (e::es) SL).map CI!=SQ! e SL::(Xb! es SL).map CI!:=by rfl):uC X ZD! (Jzl t u):=by intro AB s σ H vs us Q I r h;have⟨v,vr,e1,h⟩:=h;subst e1;cases r with | cons r rr =>rw[hs];show assignInOrder_cons (FO (h1 AB s σ H _ _ _ I r h) ?_);rintro _ s1 ⟨YM,H1,I1,q1⟩;show h2 AB s1 YM H1 _ _ Q I1 rr q1
inductive Jz6(K:W.Frag)(n:Nat)(t:jA)(v:V)(σ:St)(H:Hp)(Q:Bw!):B!
 | mk (a xs) (e0:Qi!) (e1:Dz!) (e2:xs.length=n) (e3:t xs σ H Q)
abbrev J1x(K:W.Frag)(n:Nat)(t:jA):TG:=λv σ H Q=>Jz6 K n t v σ H Q
def Uq{X:E!}{es:IB!}{k:Nat}{t:jA}{n:Nat}(hc:BK!)(h:uC X es t)(hn:(Xb! es SL).length=n:=by rfl)(gE:Ab! (Xb! es SL).findIdx? Bl!:=by rfl):PG X (SR! es k AS!) (J1x Kx n t):=by intro AB s σ H v u Q I r hw;have⟨a,xs,e1,hq,hl,hw⟩:=hw;subst e1;cases r;have⟨its,rv,ht,hz⟩:=ci!;show assign_Tuple_tuple (SS! hc) ht (by simp[hn,<-hl,rv.length]) gE λh' hx=>?_;show JB? (Cf! (Mv! hx (BN (AU e))));show h AB _ σ H xs _ Q I1 (by simpa using rv) hw
abbrev J0h(te:TE)(g:TG):TS:=L9! (Tv! te (g x σ H1 D.nx))
def Ay{i:Nat}{x:Str}{e:Expr}{te:TE}{pos':Pos}(hN:X.N.Nodup)(hi:Nt!)(hx:o5!)(he:V4!)(hs:ru! e (JIg pos'):=by rfl)(hf:qY!:=by show FL?) : JN8 (Fo! x pos') e (J0h te (Jux i)):=by show i?;show wpAny_Assign_Name JSu hs;rintro v s1 ⟨y,H1,I1,r1,q1⟩;show Tj I1 hN hi hx r1 (λs2 I2=>⟨_,H1,I2,q1⟩) hf
inductive Ju9(c:TT)(tb:TS)(D:Ends)(σ:L2.St)(H:Hp):B!
 | mk (W:mF!) (_:(∃m,W m σ H)) (_:∀m σ H,W m σ H->c σ H λb H1=>vf! (∃N:Bw!,(wL! N (∃m',m'<m/\W m' GA H'))/\tb { D with nx:=N,ct:=N,bk:=D.nx } σ H1) (Pm! H1))
def Jf2(hp:PassesOwn TZ! X.A SL X.xe)(hc:PT X c tc)(hb:SW X body tb):PS X (.While c body [] AS!) (Ju9 tc tb):=by show i?;have⟨W,⟨m0,w0⟩,turn⟩:=h;show wpAny_While (codeAny_whileLoop (λn s'=>xw! (W n GA H')) ?_ m0 (Nh! H I w0));rintro n s1 ⟨YM,H1,I1,w1⟩;show EP? (hc AB s1 YM H1 _ I1 (G0! n YM H1 w1));rintro b s2 ⟨H2,I2,q2⟩;cases b with | true =>have⟨N,hN,q2⟩:=q2;rw[AE A!];show KH hp (FO (hb AB s2 YM H2 _ I2 q2) λf s3 q3=>?_);(cases f with | next =>have⟨bf,H3,I3,n3⟩:=q3;have⟨m',hm,w3⟩:=hN bf H3 n3;show⟨m',hm,bf,H3,I3,w3⟩ | cont =>have⟨bf,H3,I3,n3⟩:=q3;have⟨m',hm,w3⟩:=hN bf H3 n3;show⟨m',hm,bf,H3,I3,w3⟩ | brk=>show q3 | ret v=>show q3) | false =>rw[AD AO];show QK ⟨YM,H2,I2,q2⟩
open E
structure It where
 go:PN! No
 RU:No->Hp->lq!
 stop:PN! No
abbrev Jq(X:E!)(AB:x!)(H:Hp)(b:Addr):B! :=
 An!/\SJ!/\fp!/\(b∈X.ex\/X.JK.heap.objs.size<=b)/\(JTe)/\aV! (g!≠b)
def Inv.UQ(I:I!)(hb:s.heap.objs.size<=b)(hn:M1!):JF2:=by
 show⟨hn,EU (B_ I.lt hb),I.JAs hb,o! (AA I.sz hb),λx c e z=>?_,λp hp z=>?_⟩;.have⟨v,q⟩:=eT!;show AJ! (B_ q.lt (xE! hb)) aJ!
 .show Dt? (B_ (AU (I.pin p hp).1) (xE! hb))
structure Turn(P:Program)(w:World)(K:W.Frag)(tg:Expr)(J:It)(fp:Z!)(it:Addr)(tn:oA!):B! where
 mem:it∈fp
 obj:∀i h,tn i h->JKx C2!
 keep:∀i h h',tn i h->(D7! (∀o,C2!->iI!))->tn i h'
 item:sE! BK! (∀(i:Nat)(AB:x!)(s:Shared)(σ:St)(H:Hp)(E:Os),re! (J.go i H ->
  s0! (∃u,r=b8! /\
   F9! jN! X.A su! (JQr J.RU (qx! Xd!) JTM) E s1)))
 done:sE! BK! (∀(i:Nat)(AB:x!)(s:Shared)(σ:St)(H:Hp)(E:Os),re! (J.stop i H ->
  s0! (r=none/\vU! s1)))
 self:∀(A:Around)(i:Nat)(s:Shared)(Q:Os)(E:Os),tn i Go->GC! it s->JRg P (iB! Oe!)
@[reducible]abbrev TI:=ps! VF!
inductive ya(X:E!)(AB:x!)(σ:St)(tg:Expr)(R:VF!)(lY:Value)(s2:Shared):B!
 | mk (it:Addr) (fp:Z!) (tn:oA!) (J:It) (H':Hp) (_:lY=h! it) (_:JTa) (_:Turn Bm! X.w Kx tg J fp it tn) (_:tn 0 Xd!) (_:(D7! JF2)) (_:R J H')
abbrev PI(X:E!)(tg iter:Expr)(wi:TI):B! :=
 ∀(AB:x!)(s:Shared)(σ:St)(H:Hp)(R:VF!),bO! (wi σ H R ->
  ao! is! (λv s1=>JEZ (Oe! v) (ya X AB σ tg R)))
def Vn{M:Model}{A:Around}{E:Os}{s:Shared}{tg:Expr}{it:Addr}{u:Value}{o:Obj}{n:String}{vs:BP!}{Q:Fb!}(ho:TX! Fm! it)(hc:o.cls=GB! n)(hd:o.data=wv!)(hn:wT (["enumerate",Fq!,ST!,"dict_reverseitemiterator","odict_iterator","itertools.zip_longest","itertools.pairwise"].contains n))(hQ:Q () s):QO! su!:=by unfold letOwnedTupleGo;cases tg<;>first | show ZS hQ | (cases u<;>first | show ZS hQ | (show Ag? th! ho;rw[hc,hd];change F9! M A (jF! (AU! (["enumerate",Fq!,ST!,"dict_reverseitemiterator","odict_iterator","itertools.zip_longest","itertools.pairwise"].contains n&&vs[0]?==HU! Xe! _))) Q E s;rw[AD (by intro h;rw[hn,Bool.false_and] at h;cases h)];show ZS hQ))
abbrev VZ(K:W.Frag)(a:Addr):It :=
 U6! (λi H=>HK λxs x=>Fe!/\Pr!) (yn! Fe!) (ym! Fe!)
abbrev XI(K:W.Frag)(a:Addr):It :=
 U6! (λi H=>HK λxs x=>Dz!/\Pr!) (yn! Dz!) (ym! Dz!)
abbrev fY(lo:Int)(n:Nat):It:=U6! (λi _=>i<n) (x=JR! (lo+i)) (λi _=>n<=i)
def Jas{P:Program}{w:World}{K:W.Frag}{tg:Expr}(a it:Addr):XI! (VZ K a) (ti! it a i) where
 mem:=sK
 obj:=MA! (by
  show A0?
  subst e
  show Cw?
  show JL?)
 keep:=JOW
 item:=by
  show v?
  show e?
  show Fs?
  show D4?
  show Ed?
  show o?
  show KN? wpAny_pyNext_list_item Of!
  show Hl?
  show Dc?
  show KM? I.U_
 done:=by
  show v?
  show e?
  have⟨xs,hq,hx⟩:=hg
  show D4?
  show o?
  show Cx?
  show wpAny_pyNext_list_end (SS! hc) st Of! q3! W5!
 self:=Wf! wpAny_pyIter_listiter
def Tc{P:Program}{w:World}{K:W.Frag}{tg:Expr}(a it:Addr):XI! (XI K a) (h.IsTupleIter it a i) where
 mem:=sK
 obj:=MA! (by
  show A0?
  subst e
  show Cw?
  show JL?)
 keep:=JOW
 item:=by
  show v?
  show e?
  show Fs?
  show DN? Et!
  show Ed?
  show o?
  show KN? wpAny_pyNext_tuple_item (j0! (nZ! SU!))
  show Hl?
  show Dc?
  show KM? I.V_
 done:=by
  show v?
  show e?
  have⟨xs,hq,hx⟩:=hg
  show DN? Et!
  show o?
  show Cx?
  show wpAny_pyNext_tuple_end (SS! hc) st (j0! (nZ! SU!)) q3! W5!
 self:=Wf! wpAny_pyIter_tupleiter
def Jh0{P:Program}{w:World}{K:W.Frag}{tg:Expr}(it:Addr)(lo:Int)(n:Nat):XI! (fY lo n) (IsRangeIter h it (lo+(i:No)*1) (DN!-(i:No)) 1) where
 mem:=sK
 obj:=MA! (by
  show A0?
  subst e
  show⟨_,st,λv z=>by
   have z':Data.fields _=Data.cell v:=z
   cases z'⟩)
 keep:=λi h h' st k=>jZ! _ st
 item:=by
  show v?
  show e?
  show o?
  have W:=Walks.range (B2!:=Bm!) (w:=X.w) Lw! it lo 1 n
  show W.item i s _ _ hg st λv h' tk hv RV kk=>?_
  have⟨t,rfl⟩:=hv
  show DJ? { s with heap:=h',toks:=tk } (I.turned (Tq! (Mv! kk (by simpa using hb))) f0 f1 f3 f4 f5)
  show P? (Vn (s:={ s with heap:=h',toks:=tk }) (n:="range_iterator") RV A! A! TD (xt! (JR! (lo+i)) (Bv! t) Bj!))
  rw[Int.mul_one]
 done:=by
  show v?
  show e?
  show o?
  show wpAny_pyNext_range_end Lw! st (by have:n<=i:=hg;lia) W5!
 self:=Wf! wpAny_pyIter_rangeiter
open S
variable {X:Cx Kx}{tg:Expr}
abbrev yq(K:W.Frag)(tl:TE):TI:=JQs JGO (VZ K a)
abbrev yk(K:W.Frag)(tl:TE):TI:=JQs (V7! H1) (XI K a)
def Df{X:E!}{l:Expr}{tl:TE}(hl:WZ!):JNC yq:=by
 show AJ?;show A2?;show Ao?;show Ft?;subst e;cases r1;show Hg?;show UE Of! ?_;show⟨JJ? Jas⟩;show CT?
 show Hq?
def Fk{X:E!}{l:Expr}{tl:TE}(hl:WZ!):JNC yk:=by
 show AJ?;show A2?;show Ao?;show Ft?;subst e;cases r1;show DN? fv!;show tk! (show nZ! tl! from p) ?_;show⟨JJ? Tc⟩;show CT?
 show Hq?
def Jf0{AB:x!}{σ:St}{H:Hp}{s:Shared}{R:VF!}{E:Os}{lo hi:Int}{t u v:Tok}{tk:Nat}(I:I!)(h1:eH!<=lo)(h2:lo<aB!)(h3:eH!<=hi)(h4:hi<aB!)(q:R (fY lo nJ!) H):vp! (Oe! (Ep! Uf)) (ya X AB σ tg R) E { s with heap:=ne! Fk! x4!,toks:=tk }:=by
 show wpAny_pyIter_range (IsRange.new ..) (small_one h1 h2 h3 h4) ?_;show DJ? { s with heap:=ne! Fk! x4!,toks:=tk } (I.kept NG!);show⟨JOS,[JOS],_,_,H,A!,I1.kept (t':=tk) NG!,Jh0 _ lo nJ!,?_,GW!,q⟩;·(have e1:lo+l6!*1=lo:=sK);(have e2:Bb! nJ!-l6!=Builtin.Range.rangeSize lo hi 1:=by rw[rangeSize_one];split<;>lia);change IsRangeIter _ _ (lo+l6!*1) (Bb! nJ!-l6!) 1;rw[e1,e2];show Cu!
 ·show BW? (b=JOS);subst e;show xk! xY!
abbrev Jy3(ta:TA):TI:=JKy (∃j:Int,vs=[T! j]/\eH!<=j/\j<aB!/\R (fY 0 j.toNat) H1)
abbrev Jy2(ta:TA):TI:=JKy (HK λ(i:Int)(j:Int)=>vs=JL8/\(eH!<=i/\i<aB!/\eH!<=j/\j<aB!)/\R (fY i (JX! (j-i))) H1)
def Ih{a:Expr}{ta:TA}{p pos:Pos}(hg:Gl X Fk!)(hm:Ab! X.mg Fk!)(ha:PA X [a] ta)(hs:pJ! [a] a:=by rfl):PI X tg (JEa Fk! [a]) (Jy3 ta):=by show AJ?;show JE? boot_range (JZ JIN hs A!);have⟨j,e,q1,q2,q⟩:=q1;subst e;cases r1 with | cons r rr =>cases rr;show Cv?;show call_range_1 (Jf0 I1 i! i! q1 q2 (by simpa using q))
def Jl8(hg:Gl X Fk!)(hm:Ab! X.mg Fk!)(ha:PA X IT! ta)(hs:Fn! IT! SL=yo! (Mx! (hf! a)) b:=by rfl)(SQ:pJ! [b] b:=by rfl) : PI X tg (JEa Fk! IT!) (Jy2 ta):=by show AJ?;show JE? boot_range (JZ JIN (Bi! hs SQ) (by rw[SQ];rfl));have⟨i,j,e,⟨q1,q2,q3,q4⟩,q⟩:=q1;subst e;cases r1 with | cons r rr =>cases rr with | cons r' rr =>cases rr;show Cv?;have⟨t',rfl⟩:=r';show call_range_2 (Jf0 I1 q1 q2 q3 q4 q)
abbrev Jx6(wi:TI)(g:TG)(tb:TS):TS:=Up! wi (λJ H1=>vd! Bw! σ H1 (∀i m σ H,W i m σ H ->
 XF! J.stop J.go Bw! J.RU))
abbrev Pz(fp:Z!)(h:Heap):x!:=fp.filterMap λb=>JLu b (b,o)
def Fn(hb:b∈fp)(e:C2!):(b,o)∈Pz fp h:=List.mem_filterMap.mpr ⟨b,hb,cG!⟩
def Jmh(hp:p∈Pz fp h):g!∈fp/\Jo! g! pi:=by have⟨b,hb,e⟩:=List.mem_filterMap.mp hp;cases q:OO! b with | none=>show AH? q | some o =>rw[q] at e;have e':(b,o)=p:=ZO e;subst e';show⟨hb,q⟩
def Inv.pinned(I:I!)(hf:D7! (jG! b))(ho:JKx DL!):Inv X (AB++Pz fp Go) σ H s :=I.bA λp hp=>(ZI hp).elim (λz=>Zo! (FH! z)) λz=>by have⟨hb,e⟩:=Jmh z;have⟨f0,f1,f2,_⟩:=hf g! hb;have⟨o,e',d⟩:=ho g! hb;show g?;cases e';show⟨e,f0,f1,f2,d⟩
def Inv.MA(I:Inv X (AB++pl) σ H s):I!:=I.bA (ye! (FH! (DK! hp)))
def Ey(hp:PassesOwn TZ! X.A SL X.xe)(hc:BK!)(hi:PI X tg iter wi)(hg:PG X tg g)(hb:SW X body tb)(hs:∀x,foldedSetIterable iter SL x=BU! x:=by intro _;rfl):PS X (.For tg iter body [] AS!) (Jx6 wi g tb):=by
 show i?;show wpAny_For JL7 hs;have⟨it,fp,tn,J,H2,e,I2,T,dy,f2,W,⟨m0,w0⟩,turn⟩:=h2;subst e;show JX? (bb! H') (JHu (C5! hn));show codeAny_forLoop_any (λn s'=>NM λi GA H'=>JLn wR! Gy! (W i n GA H')) ?_ m0 ⟨0,σ,H2,I2,dy,iY! f2,w0⟩;rintro n s3 ⟨i,bf,H3,I3,iQ,VX,w3⟩;rcases G0! i n bf H3 w3 with⟨stop,qn⟩|⟨go,N,hN,step⟩;.show EP? (T.done X A! A! hc i AB s3 bf H3 X.xe I3 (UM VX) iQ stop);rintro r s4 ⟨hr,I4⟩;subst hr;show QK ⟨bf,H3,I4,qn⟩
 .show EP? (T.item X A! A! hc i AB s3 bf H3 X.xe I3 (UM VX) iQ go);rintro r s4 ⟨u,hr,h4⟩;subst hr;show KH hp (FO h4 ?_);rintro _ s5 ⟨x,H5,I5,r5,y5,cO,YX⟩;have I5':=JLb I5.pinned YX cO;show EP? (hg _ s5 bf H5 x u _ I5' r5 (step x H5 y5));rintro _ s6 ⟨σ6,H6,I6,q6⟩;show KH hp (FO (hb _ s6 σ6 H6 _ I6 q6) λf s7 q7=>?_);(have again:∀{cL:St} {H7:Hp},Inv X (AB++Pz fp s5.heap) cL H7 s7->N cL H7->∃m,m<n/\NM λi GA H'=>JLn (iA! H' s7) s7.heap (W i m GA H'):=λ{cL H7} I7 n7=>by have⟨m',hm,w7⟩:=hN cL H7 n7;show⟨m',hm,Aj!,cL,H7,I7.MA,JPS cO I7.pin,GW!,w7⟩;show J5? cO;show JLf I7.pin);cases f with | next=>have⟨cL,H7,I7,n7⟩:=q7;show again I7 n7 | cont=>have⟨cL,H7,I7,n7⟩:=q7;show again I7 n7 | brk=>have⟨cL,H7,I7,q7⟩:=q7;show⟨cL,H7,I7.MA,q7⟩ | ret v=>have⟨x7,cL,H7,I7,r7,q7⟩:=q7;show⟨x7,cL,H7,I7.MA,r7,q7⟩
open E
def Vs{K:W.Frag}{a:Addr}{xs:C!}{g:TG}{tb:TS}{D:Ends}{σ:St}{H:Hp}(Pv:mF!)(h0:Vl!)(hl:ou! Fe!)(hs:JOX)(hd:JHe) : em! Bw! (bH! (XF! (VZ K a).stop (VZ K a).go Bw! (VZ K a).RU)):=by
 show Cg? Xf! fw! Eu!;show Fu?;have q:=hl i σ H hi p;show DO?;.show Co? (JSo q) wY!;show Cy?;subst e;show hs i x σ _ (y xs q) p
 show Kt? q (cS! p)
def O7{K:W.Frag}{a:Addr}{xs:C!}{g:TG}{tb:TS}{D:Ends}{σ:St}{H:Hp}(Pv:mF!)(h0:Vl!)(hl:ou! Dz!)(hs:JOX)(hd:JHe) : em! Bw! (bH! (XF! (XI K a).stop (XI K a).go Bw! (XI K a).RU)):=by
 show Cg? Xf! fw! Eu!;show Fu?;have q:=hl i σ H hi p;show DO?;.show Co? (JSo q) wY!;show Cy?;subst e;show hs i x σ _ (y xs q) p
 show Kt? q (cS! p)
def Mh{lo:Int}{n:Nat}{g:TG}{tb:TS}{D:Ends}{σ:St}{H:Hp}(Pv:mF!)(h0:Vl!)(hs:wl! (i<n) (x1! (V! (lo+i))))(hd:xu! n) : em! Bw! (bH! (XF! (fY lo n).stop (fY lo n).go Bw! (fY lo n).RU)):=by
 show Cg? (n-i) (i<=n) n;show Fu?;by_cases IP:i<n;.show Co? IP (n-AB!);show Cy?;subst e y;show hs i σ _ IP p
 show He? (i=n) (cS! p)
@[reducible]abbrev R2:=de!
abbrev UB(X:E!)(f:ek!)(r:R2):B! :=
 ∀(AB:x!)(s:Shared)(σ:St)(H:Hp)(x y:V)(v u:Value)(Q:VK),od! CG! (r x y H Q ->
  Gp! (f v u))
abbrev yU(X:E!)(f:DY!->Sem DY!)(r:JFi):B! :=
 ∀(AB:x!)(s:Shared)(σ:St)(H:Hp)(x:V)(v:Value)(Q:VK),K9! LC! (r x H Q ->
  Gp! (f v))
abbrev IE(X:E!)(f:Value)(r:C!->ZG!):B! :=
 ∀(AB:x!)(s:Shared)(σ:St)(H:Hp)(xs:C!)(us:k!)(Q:VK),K9! Ek! (r xs H Q ->
  Gp! (call f us))
abbrev J16(X:E!)(r:JFj Jf!):B! :=
 ∀(AB:x!)(s:Shared)(σ:St)(H:Hp)(x:V)(v:Value)(Q:Jf!),K9! LC! (r x H Q ->
  nM! (truthy v))
abbrev UG(r:R2)(ta tb:TE):TE:=Rb! (FK! tb (λy H2=>r x y H2 Q))
abbrev tUn(r:JFi)(ta:TE):TE:=Rb! (r x H1 Q)
inductive IrI(C:JLd)(g:oX!)(x:V)(y:V)(H:Hp)(Q:VK):B!
 | mk (i j) (e0:Qm!) (e1:bW!) (e2:C i j) (e3:Q QN! H)
abbrev rI(C:JLd)(g:oX!):R2:=λx y H Q=>IrI C g x y H Q
inductive J2a(g:oX!)(x:V)(y:V)(H:Hp)(Q:VK):B!
 | mk (i j) (e0:Qm!) (e1:bW!) (e2:Q QN! H)
abbrev fk(g:oX!):R2:=λx y H Q=>J2a g x y H Q
inductive IrU(g:Ch->V)(x:V)(H:Hp)(Q:VK):B!
 | mk (i) (e0:Qm!) (e1:Q (g i) H)
abbrev rU(g:Ch->V):JFi:=λx H Q=>IrU g x H Q
open S
variable {X:Cx Kx}{a b c:Expr}{ta tb tc:TE}{pos:Pos}
def yf(ha:Gn!)(hb:Ly!){AB:x!}{s:Shared}{σ:St}{H:Hp}{R:V->lq!}(I:I!)(h:JH9 sN!){Q:Os}{f:ek!}(hf:∀v u s2 x y H2,HS! H2 s2->LC!->CG!->sN!->rN! s2) : JRG (rN! NN):=by show Hi?;show Ao?;show FO (v2! hb) ?_;rintro u s2 ⟨y,H2,I2,r2,q2⟩;show hf v u s2 x y H2 I2 r1 r2 q2
def Be{op:Operator}{r:R2}(ho:WF! op r)(ha:Gn!)(hb:Ly!):CS! (.BinOp a op b AS!) rB!:=JAA (wpAny_BinOp (JRJ (JP9 Q rx ry q)))
def uW(ho:yU X (unaryOp op) r)(ha:Gn!):ib! .UnaryOp op a (tUn r ta):=by show M?;show UnaryOp_ (JH2 (s7! ho x v))
def wQ{f:ek!}{C:JLd}{g:Ch->Ch->Ch}(rule:JKz (C i j->lW! (V! QN! C7!)->x3! JQ8)) : UB X f (rI C λi j=>la!):=by show p?;have⟨i,j,rfl,rfl,hc,q⟩:=h;show T?;show AQ?;show rule i j t t' s _ _ hc (NU! la!)
def Jyp{f:ek!}{g:Ch->Ch->Ch}(rule:JKz (yL! (lW! (V! QN! C7!)) JQ8)) : UB X f (fk λi j=>la!):=by show p?;show Fv?;show T?;show AQ?;show rule i j t t' s _ _ (NU! la!)
def yh{f:ek!}{g:JFz}(rule:JKz (yL! (o0! QN!) JQ8)) : UB X f (fk λi j=>bv QN!):=by show p?;show Fv?;show T?;show AQ?;show rule i j t t' s _ _ (WS! (bv QN!))
abbrev J2c(i j:Int):B!:=0<j/\j<1073741824
abbrev ko(i j:Int):B!:=(-(2 ^ 64)<i/\i<2 ^ 64)\/(-(2 ^ 64)<j/\j<2 ^ 64)
def ko.ok(h:ko i j):IntMulOk i j:=by
 rcases h with⟨h1,h2⟩|⟨h1,h2⟩;.show .of_left (intBits_le_64 h1 h2)
 .show .of_right (intBits_le_64 h1 h2)
def E3:JFy .Add fk (bV! (i+j)):=Jyp λ_ _ _ _ _ _ _ q=>add_int q
def um:JFy .Sub fk (bV! (i-j)):=Jyp λ_ _ _ _ _ _ _ q=>sub_int q
def Nh:WF! .Mult (rI ko (bV! (i*j))):=wQ λ_ _ _ _ _ _ _ hc q=>mul_int q hc.ok
def F8:WF! .FloorDiv (rI J2c (bV! (i / j))):=wQ λi j _ _ _ _ _ hc q=>by have h1:PR!<j:=hc.1;have h2:j<1073741824:=hc.2;show floordiv_int (JL h1) (KE (Int.fdiv_eq_ediv_of_nonneg i (eZ! h1)) q) (S! (PyProof.noPylong_small i!))
def Cf:WF! .Mod (rI (λ_ j=>0<j) (bV! (i % j))):=wQ λi j _ _ _ _ _ hc q=>by have h1:PR!<j:=hc;show mod_int' (JL hc) (KE (Int.fmod_eq_emod_of_nonneg i (eZ! hc)) q)
def unI{f:DY!->Sem DY!}{g:Ch->Ch}(rule:∀(i:Int) (t:Tok) (s:Shared) (Q:Os) (E:Os),yL! (lW! (V! (g i) C7!)) (f jh!)) : yU X f (rU λi=>V! (g i)):=by intro AB s σ H x v Q I rx h;have⟨i,rfl,q⟩:=h;show T?;show rule i t s _ _ (NU! (V! (g i)))
def vG:yU X (unaryOp .USub) (rU λi=>JR! (-i)):=unI λ_ _ _ _ _ q=>neg_int q
open E
abbrev Jya:V->V->A3!
 | .GB,.GB=>true|.GB,.int _=>true|.int _,.GB=>true|.GB,.bl _=>true|.bl _,.GB=>true|.GB,.str _=>true|.str _,.GB=>true
 | .int _,.int _=>true|.bl _,.bl _=>true|.str _,.str _=>true|.Y' _,.Y' _=>true
 | .int _,.str _=>true|.str _,.int _=>true|.bl _,.str _=>true|.str _,.bl _=>true
 | _,_=>false
abbrev iS:R2:=λx y H Q=>CA! Jya x y/\JCp (x=y)
abbrev rNe:R2:=λx y H Q=>CA! Jya x y/\dt! (! Aa! (x=y))
def Pg:iu! i j=(i==j):=JGA
def Jq5:Zh! D8! i D8! j=(i==j):=JGA
def Jla:Zh! AE! i AE! j=(i==j):=JGA
def Jlb:Zh! V.Y' i V.Y' j=(i.toList==j.toList):=by rw[OR];cases i;cases j;simp
open S
variable {X:Cx Kx}{a b c:Expr}{ta tb tc:TE}{pos:Pos}
def B6(I:I!)(q:Z9! k)(e:k=k'):EP X AB σ Q (Cg! k') s:=by subst e;show⟨bv k,H,I,A!,q⟩
def Bs:WE! .Eq iS:=by show p?;have⟨hs,q⟩:=h;cases x with | GB =>show H?;(cases y with | GB=>show AB? PySem.EqNone.eq_none_none | bl j=>show AB? PySem.EqNone.eq_none_bool | int j=>show AN? PySem.EqNone.eq_none_int | str j=>show AN? PySem.EqNone.eq_none_str | _=>show AO?) | bl i =>show H?;(cases y with | GB=>show AB? PySem.EqNone.eq_bool_none | bl j=>cases ry;show eq_bool (B6 I q Jq5) | str j=>show AN? PySem.EqMixed.eq_bool_str | _=>show AO?) | int i =>show T?;(cases y with | GB=>show AB? PySem.EqNone.eq_int_none | int j=>show Gb? eq_int Pg | str j=>show AN? PySem.EqMixed.eq_int_str | _=>show AO?) | str i =>show T?;(cases y with | GB=>show AB? PySem.EqNone.eq_str_none | bl j=>show AB? PySem.EqMixed.eq_str_bool | int j=>show AN? PySem.EqMixed.eq_str_int | str j=>show Gb? eq_str Jla | _=>show AO?) | Y' i =>show T?;(cases y with | Y' j=>show Gb? W.eq_bytes Jlb | _=>show AO?) | _=>cases y<;>show Ct! JRv AO
def Jt:WE! .NotEq rNe:=by show p?;have⟨hs,q⟩:=h;cases x with | GB =>show H?;(cases y with | GB=>show AB? PySem.EqNone.ne_none_none | bl j=>show AB? PySem.EqNone.ne_none_bool | int j=>show AN? PySem.EqNone.ne_none_int | str j=>show AN? PySem.EqNone.ne_none_str | _=>show AO?) | bl i =>show H?;(cases y with | GB=>show AB? PySem.EqNone.ne_bool_none | bl j=>cases ry;show ne_bool (B6 I q (Gz! not Jq5)) | str j=>show AN? PySem.EqMixed.ne_bool_str | _=>show AO?) | int i =>show T?;(cases y with | GB=>show AB? PySem.EqNone.ne_int_none | int j=>show Hx? ne_int Pg | str j=>show AN? PySem.EqMixed.ne_int_str | _=>show AO?) | str i =>show T?;(cases y with | GB=>show AB? PySem.EqNone.ne_str_none | bl j=>show AB? PySem.EqMixed.ne_str_bool | int j=>show AN? PySem.EqMixed.ne_str_int | str j=>show Hx? ne_str Jla | _=>show AO?) | Y' i =>show T?;(cases y with | Y' j=>show Hx? W.ne_bytes Jlb | _=>show AO?) | _=>cases y<;>show Ct! JRv AO
def Q3:JHV .Lt (λi j=>bv (XL! (i<j))):=JIa lt_int
def p6:JHV .Gt JIx:=JIa gt_int
def Jyo:JHV .GtE (λi j=>bv (XL! (j<=i))):=JIa ge_int
def Jmb:WE! .In (JKk (x=UV i/\y=UV j/\dt! (JPh j i j.length))):=by show p?;show Fv?;show T?;show AQ?;show in_str (B6 I q A!)
def A3(b:Expr)(h:op≠.In:=by decide)(h2:op≠.NotIn:=by decide):XB!:=by
 have e1:Ad! (op==CmpOp.In):=by show E6? h
 have e2:Ad! (op==CmpOp.NotIn):=by show E6? h2
 cases b<;>simp[behindInMarks,e1,e2]
def Mb{op:CmpOp}{r:R2}(ho:WE! op r)(ha:Gn!)(hb:Ly!)(hm:XB!):CS! sl! rB!:=JAA (wpAny_Compare1 (JRJ (JP9 Q rx ry q)) hm)
inductive Jxn  (x:V) (H':Hp) (Q:Jf!):B!
 | mk (k) (e0:x=bv k) (e1:Hg! k)
abbrev Ki(t:TE):TT:=Zp! (λx H'=>Jxn  x H' Q)
def Au(ho:WE! op r)(ha:Gn!)(hb:Ly!)(hm:XB!):PT X sl! (Ki rB!):=by show M?;show wpAny_isTrue_Compare1 (JH2 (xV! hb (λu s2 ⟨y,H2,I2,r2,q2⟩ =>FO (JP9 _ r1 r2 q2) λc s3 ⟨z,H3,I3,r3,k,e,q3⟩=>?_))) hm;subst e;cases r3;show UD ⟨H3,I3,q3⟩
abbrev Jzr(K:W.Frag)(x:V)(H:Hp)(k:Bool):B! :=
 match x with
 | .GB=>k=false
 | .bl b=>k=b
 | .int i=>k=(i != 0)
 | .str y=>si! (y.length<=sizeLine) y.length
 | .Y' y=>si! (y.size<=sizeLine) y.size
 | .ref p=>qV! dI!\/qV! m0!\/∃kvs,JEO/\k=tm!
 | _=>False
def Ji7(r:FU!):(!vs.isEmpty)=tm!:=z4! r
def Vj(r:Wa!):(tn!)=!xs.isEmpty:=by cases r<;>simp
def Qa:(sizeLine:No)<2 ^ 63:=cX! CV
def Ju8{X:E!}:J16 X (λx H Q=>∃k,Jzr Kx x H k/\Q k H):=by intro AB s σ H x v Q I rx h;have⟨k,e,q⟩:=h;have hl:=Qa;have hs:vx!:=CV;cases x with | GB =>show H?;have e':k=false:=e;subst e';show truthy_none JJg | bl b =>show H?;have e':k=b:=e;subst e';show UD JJg | int i =>show T?;have e':k=(i != 0):=e;subst e';show PySem.P.truthy_int JJg | str y =>show T?;obtain⟨hy,e'⟩:si! (y.length<=sizeLine) y.length:=e;subst e';show PySem.P.truthy_str i! ⟨H,ZH!,q⟩ | Y' y =>show T?;obtain⟨hy,e'⟩:si! (y.size<=sizeLine) y.size:=e;subst e';show W.truthy_bytes (AA (hs▸hy) TD) ⟨H,ZH!,q⟩ | ref p =>show H?;have e':qV! (DZ Kx H p xs)\/qV! (DC Kx H p xs)\/∃kvs,JEO/\k=tm!:=e;rcases e' with⟨xs,hx,e'⟩|⟨xs,hx,e'⟩|⟨kvs,hx,e'⟩;(.subst e';show A9? (Fp! hx);show Fw?;show wpAny_truthy_list KI! (by simp only[BG];lia) (JIF Vj));(.subst e';show A9? (Et! hx);show Fw?;show truthy_tuple pl (by simp only[BG];lia) (JIF Vj));.subst e';obtain⟨hz,hS,vs,r,m⟩:xC! (Ad! (p==sysModules)) (∃vs,FU!/\s.heap.DictOf Lt! p vs):=Au! p _ hx;have hlen:Xg!:=JCT;show wpAny_truthy_dict hS m i! (JIF Ji7) | _=>show(show False from e).elim
def Um{X:E!}(ha:Gn!)(he:∀whole,SN! a SL whole=(do let v <-whole;standAt a.pos;holding [v] (truthy v))) :
 PT X a (λσ H Q=>ta σ H λx H'=>∃k,Jzr Kx x H' k/\Hg! k):=by
 show M?
 show isTrue_plain (JH2 (s7! Ju8 x v)) (he _)
def Cb:WF! .Add (JKk (x=UV i/\y=UV j/\B5! (i.length+j.length)/\mn! (i++j))):=by show p?;have⟨i,j,rfl,rfl,hz,q⟩:=h;show T?;show AQ?;show add_str (λt' tk=>NU! (bn (i++j))) hz
def vals1(r:TY! [x]):∃u,us=[u]/\Jg!:=by cases r with | cons r1 r2=>show DX? r2 r1
def vals2(r:TY! [x,y]):HK λu w'=>us=[u,w']/\Jg!/\FB! y w':=by cases r with | cons r1 r2 =>cases r2 with | cons r3 r4=>show Hf? r4 r1 r3
inductive Jjt(xs:C!)(H:Hp)(Q:VK):B!
 | mk i j (_:xs=JL8) (_:dd! (if j > i then j else i))
def Jne(hc:BK!):aQ! "max" Jjt:=by
 show X?;have⟨i,j,rfl,q⟩:=h;have⟨u,w',rfl,⟨t,rfl⟩,⟨t',rfl⟩⟩:=vals2 r;show max_two_ints (SS! hc) λh' tk k=>⟨_,H,I.kept k,?_,q⟩;by_cases hj:j > i;.rw[AE hj,AE hj];show⟨_,A!⟩
 .rw[AD hj,AD hj];show⟨_,A!⟩
inductive Jjs(xs:C!)(H:Hp)(Q:VK):B!
 | mk i j (_:xs=JL8) (_:dd! (if j<i then j else i))
def Jnd(hc:BK!):aQ! "min" Jjs:=by
 show X?;have⟨i,j,rfl,q⟩:=h;have⟨u,w',rfl,⟨t,rfl⟩,⟨t',rfl⟩⟩:=vals2 r;show min_two_ints (SS! hc) λh' tk k=>⟨_,H,I.kept k,?_,q⟩;by_cases hj:j<i;.rw[AE hj,AE hj];show⟨_,A!⟩
 .rw[AD hj,AD hj];show⟨_,A!⟩
def Jnf:Re! G3! (λxs H Q=>(∃i,xs=[My!]/\QD! i)\/∃k,xs=[bv k]/\dd! (if k then 1 else 0)):=by
 show X?;rcases h with⟨i,rfl,q⟩|⟨k,rfl,q⟩;.show CK?;show call_int_int (ie! My! BN!)
 .have⟨u,rfl,r1⟩:=vals1 r;cases r1;show call_int_bool (JFE (if k then 1 else 0))
inductive Fv(xs:C!)(H:Hp)(Q:VK):B!
 | mk i (_:xs=[My!]) (_:i.natAbs.log2<1920) (_:Q (bn (fy! i)) H)
def D_:Re! IU! Fv:=by show X?;have⟨i,rfl,hz,q⟩:=h;show CK?;show PySem.P.str_of_int hz (NU! (bn _))
open E
structure aK(h:Heap)(x dx C:Addr)(mA:sw):B! where
 obj:FA! OO! JJv
 ns:JOP
 ne:dx≠x
def Jmp{h:Heap}{dx:Addr}{mA:sw}(n:JOP):∃od,Jo! dx od/\∀name,W.lookIn A4! od=D! (mA A4!):=by
 have⟨o,es,ep,ho,hd,hk,_,hm⟩:=n;show⟨o,ho,λname=>?_⟩;have e:=hm A4!;unfold nsFind findBy at e;rw[<-Array.find?_toList] at e;unfold W.lookIn;rw[hd];dsimp only;split;.rename_i y q;rw[q] at e;show Gz! D! e
 .rename_i q;rw[q] at e;(have a:wT (es.toList.any (·.refKey)):=by rw[List.any_eq_false];intro y hy;have⟨z,t,bY⟩:=hk y (Array.mem_toList_iff.mp hy);simp[DictEntry.refKey,bY]);(have a':¬Cw! es.toList.any (·.refKey):=U! a AO);rw[AD a'];show Gz! D! e
def aK.look(I:aK h x dx C mA):∃od,W.InstAt h x JJv C (D! od)/\∀name,W.lookIn A4! od=D! (mA A4!) :=let⟨od,ho,hl⟩:=Jmp I.ns;⟨od,HZ! I.obj A! ho,hl⟩
open S
variable {prog:Program}{w:World}{A:Around}{E:Value->Shared->Prop}{s:Shared}{K:W.Frag}{x dx C f:Addr}{mA:Str->Option Value}{name:Str}{v:Value}
def Jtq{expr:Bool}{Q:Os}(X:Jx!)(I:JKT)(hg:fJ! A4!)(hh:oF!)(ha:II! A4!)(hv:AT mA A4! v)(hv':Cw! W.handedIn v)(h:Q v iy!) : A9! (getAttr (IN x) A4! expr):=by show Fx?;show W.get_value X J (to! hg).1 (W.findObj_own hh ha A! (Bi! hl hv)) hv' h
def Jqo{pl:Sem A3!}{Q:E9! (Value×k!)}(X:Jx!)(I:JKT)(hg:fJ! A4!)(hf:e5! A4!)(ht:pU!)(hv:Ab! mA A4!)(h:Q (h! f,[Qz!]) s) : A9! (getMethod (IN x) A4! pl):=by show Fx?;show W.method_fn X J (to! hg).1 (to! hg).2 hf (NS.mp ht) (by change AT (W.lookIn A4! od).map (·.isSome) am;rw[hl,hv];rfl) h
def Jr7{ns:AC}{Q:Fb!}(X:Jx!)(I:JKT)(hs:JO8)(hp:JFW)(ht:W.takerIn K C A4!=D! KM)(hh:oF!)(hw:tT! mA ns)(hsz:ns.length<=sizeLine)(h:∀h',aK h' x dx C (λy=>j6! (y=name) v (mA y))->v8! dx->Q () (tp! (s.toks+2))) : A9! (setAttr LZ! A4! v):=by show Fx?;show W.set_plain X J hs (W.osa_open (s:=iy!) (r:=KM) X J hp ht λb=>?_);have⟨cd,hc,XG⟩:=W.any_some hh;have hx:JCF ⟨Zm!,Ix dx,.plain,#[]⟩:=I.obj;show Dx? (wpAny_loadPart hx (ZR (W.Looks.here (s:=iy!) (W.looks_clsIn X hc) ?_)));rw[XG];show ZS (a:=Ix dx) JMM;show wpAny_nsSet1 (s:=iy!) I.ns λh' ij SQ=>?_;have⟨oD,esD,epD,hoD,hdD,hcD⟩:=ij.count (PySem.Within.cons A4! v hw);show ZR (wpAny_lookBehind hoD (ac! hdD pastItsLine_dict (AA hcD (KE BJ (ZV! hsz)))) ?_);show ZS (h _ ⟨(SQ.2 _ (OZ! I.ne)).trans I.obj,ij,I.ne⟩ SQ)
def Jp6{R:ls!}{vs:k!}{kw:QH!}(X:Jx!)(hm:JFX)(hi:e5! fz!)(hf:W.typeIn K NL!=D! (BR! "function"))(h:Og! PW! (JUc ⟨Zm!::vs,kw⟩) (JGK ⟨Z3! Ep!::vs,kw⟩) (W.InitBack (Pe!) R) (KJ! (yw! (XQ! C Uf)))) : sA! (Kt! .call C ⟨vs,kw⟩):=by have⟨hh,g,d,t,os⟩:=s;show W.make_core (W.makes_of X hm) (W.looks_findIn X hi) (λself=>W.bind_fn X self hf) Ht! h
open E
abbrev Az(f:Str)(v:V):DP!->DP!
 | []=>[(f,v)]
 | (g,x)::r=>SW! (g=f) ((g,v)::r) ((g,x)::Az f v r)
def Bj(f g:Str)(v:V):yx! ((Az f v fs).lookup g=B3! (g=f) (Ix v) (fs.lookup g))
 | []=>by change f0! g [(f,v)]=_;by_cases h:g=f;(.show JN? (g==f) Gd!);.have hb:Ad! (g==f):=IV! h;simp only[List.lookup,hb,ID!]
 | (k,x)::r=>by have ih:=Bj f g v r;show B7? (JFk (JNr qe!));by_cases hk:k=f;(.rw[AE hk];by_cases h:g=k;(.show JN? (g==k) (AE (h.trans hk)));.have hb:Ad! (g==k):=IV! h;simp only[List.lookup,hb,AD (λe:g=f=>h (e.trans hk.symm))]);.rw[AD hk];by_cases h:g=k;(.show JN? (g==k) (AD (λe:g=f=>hk (h.symm.trans e))));.have hb:Ad! (g==k):=IV! h;simp only[List.lookup,hb];show ih
def Qd(f:Str)(v:V):yx! (f∈h9! Az f v fs/\∀g,g∈ci OQ!->g∈h9! Az f v fs)
 | []=>⟨by simp[Az],λg h=>C0!⟩
 | (k,x)::r=>by have⟨i1,i2⟩:=Qd f v r;show B7? (JFk (JNr qe!));by_cases hk:k=f;(.rw[AE hk];subst hk;show⟨sK,λg h=>h7!⟩);.rw[AD hk];show⟨?_,λg h=>?_⟩;(.rw[AI];show ZD _ i1);.rw[AI] at h ⊢;rcases ZM h with e|e;(.show Xh! (S! e));.show ZD _ (i2 g e)
def Ba(f:Str)(v:V):yx! ((Az f v fs).length<=fs.length+1)
 | []=>by simp[Az]
 | (k,x)::r=>by have ih:=Ba f v r;show B7? (JFk (JNr qe!));by_cases hk:k=f;(.rw[AE hk,BJ,BJ];show Nn!);.rw[AD hk,BJ,BJ];show EV ih
def uB{v:V}{o:HV! DY!}(r:TN (D! v) o):∃u,o=b8!/\C3!:=by cases o with | none=>show Bd? | some u=>show⟨u,A!,r⟩
def Qad(r:TN KM o):o=none:=by cases o with | none=>rfl | some u=>show Bd?
def Jm3(r:C3!):Cw! W.handedIn u:=by cases v with | GB=>show Er? tP! | bl b=>show Er? (u=KD! b) | int i=>show Et? R5! | str x=>show Et? p9! | Y' b=>show Et? (nI! Value.bytes) | ix b=>show Et? (nI! tQ!) | ref a=>show Er? (u=ZE!) | ty n=>show Er? (u=JC4)
open S
def So(EI:El!)(e:c8!):∃mA,aK h a dx C mA/\(JRP)/\tT! mA (OQ! Bl!)/\XP! 1000/\oS! dx:=by have⟨d,z,ne,ob,mA,n,r,q⟩:=JDN ZZ! (EI a _ e);show⟨mA,⟨ob,n,ne⟩,r,q,z,d⟩
open E
structure XJ(K:W.Frag)(C:Addr):B! where
 pg:fJ! Str.empty
 hd:oF!
 po:JFW
 sa:JO8
def XJ.get{K:W.Frag}{C:Addr}(c:WO!)(f:Str):fJ! f:=c.pg
abbrev GF(K:W.Frag)(C:Addr)(f:Str):B!:=II! f
def GF.rG{K:W.Frag}{C:Addr}{f:Str}(n:n5!):W.takerIn K C f=D! KM:=by unfold W.takerIn;rw[show II! f from n];rfl
structure j4(K:W.Frag)(C:Addr)(m:Str)(f:Addr):B! where
 at_:e5! m
 fn:pU!
 kp:CA! SX! K NL!
open S
def Vo{X:E!}(I:I!)(e:c8!)(c:SB!)(n:GF Kx C f)(l:JNM)(h:∀u s',jL!->C3!->Q u s'):Zg! (getAttr Bf! f b):=by have⟨mA,O,r,_,_,_⟩:=Pg! So;have⟨u,hu,ru⟩:=Cd! uB v v o (mA f) (CZ! l (r f));show Jtq Es! O (c.get f) c.hd n hu (Jm3 ru) (h u _ (I.tok _) ru)
def Jn{X:E!}(I:I!)(e:c8!)(c:SB!)(k:j4 Kx C m g)(l:oR!)(h:Q (h! g,JT!) s):Zg! (getMethod Bf! m pl):=by have⟨mA,O,r,_,_,_⟩:=Pg! So;have hn:Ab! mA m:=Qad (A0! l (r m));show Jqo Es! O (c.get m) k.at_ k.fn hn h
def T1{X:E!}(I:I!)(e:c8!)(c:SB!)(n:GF Kx C f)(hl:fs.length<1000)(ry:CG!)(h:os! (wn! a (Mt! (Az f y fs)) s')):Zg! (setAttr Bf! f u):=by
 have⟨mA,O,r,wi,_,ho⟩:=Pg! So;have hz:B5! (OQ! (·.1)).length:=ck! CV (ZI! hl)
 show Jr7 Es! O c.sa c.po n.rG c.hd wi hz λh' O' sb=>h _ ?_;have hd:∃o,JDD dx:=let⟨o,_,_,e',_⟩:=O'.ns;EW! e';show I.write (x:=a) (e:=dx) JTj (Bc! ho) (λb q hb z=>(sb.2 b hb).trans z) hd ?_;show⟨Op O.ne ho,?_,O.ne,O'.obj,_,O'.ns,λg=>?_,λg hg=>?_⟩;.have:=Ba f y fs;lia
 .change TN ((Az f y fs).lookup g) (H4! (g=f) b8! (mA g));rw[Bj];by_cases q:g=f;(.rw[AE q,AE q];show ry);.rw[AD q,AD q];show r g
 .by_cases q:g=f;(.rw[q];show(Qd f y fs).1);.show(Qd f y fs).2 g (wi g λz=>hg ?_);change H4! (g=f) b8! (mA g)=none;rw[AD q];show z
def Inv.AY(I:I!):HS! (JLc Uf Qh! Qh! (M8! Uf [])) (KJ! (yw! (XQ! C Uf))):=by
 have e1:AT (IS! SV!).get? Uf SV!:=ZU Go A!;have e2:Z3! (yw! (XQ! C Uf)).get?=D! (XQ! C Uf):=by have:=ZU (IS! SV!) (o:=XQ! C Uf) A!;show BA? LK
 have e3:(IS! SV!).Ns Uf (Oh!):=⟨SV!,#[],_,e1,A!,(λe he=>AJ! he KB),G4!⟩;have I1:=I.laid (a:=Uf) (o:=Z3! Gx!) (h':=IS! SV!) (t':=C7!) (λb u q=>ZT _ q) CC! (Bq! e1);show iw! I1.laid Pe! (.ins C Uf []) C7! (λb u q=>ZT _ q) (BM (AC! LK)) ?_;have ne:s.heap.objs.size≠Pe!:=BN (NY _);show⟨jp (Ad ne) Ab,Bu!,ne,e2,Oh!,(Heap.Ns1.of_empty e3).at λo q=>ZT _ q,λ_=>True.intro,Fs! (AJ! A! hy)⟩
def Jt5(hb:attributeBase e f env (OF! e)=eval e env)(h:xx! (OF! e) (λo EZ=>d6! (getAttr o f q!) EZ)):A9! (OF! (SY! e f AS!)) :=Attribute_any_ h (Bi! arm_eval_Attribute hb)
open E
inductive Jzz(K:W.Frag)(f:Str)(x:V)(H1:Hp)(Q:VK):B!
 | mk (a C dx fs v) (e0:Bg!) (e1:e4!) (e2:WO!) (e3:n5!) (e4:JNM) (e5:Q v H1)
abbrev gr(K:W.Frag)(ta:TE)(f:Str):TE:=Rb! (Jzz K f x H1 Q)
abbrev J04(K:W.Frag)(ta tv:TE)(f:Str):TS:=Up! tv (yz! ta (YL λa C dx fs=>Bg!/\Ha! H2 ZZ!/\WO!/\n5!/\fs.length<1000 /\
 Pm! (z! H2 a (Mt! (Az f y fs)))))
abbrev uH(X:E!)(op:Operator)(rd:de!):B! :=
 ∀(AB:x!)(s:Shared)(σ:St)(H:Hp)(x y:V)(u v:Value)(Q:VK),I!->Jg!->FB! y v->rd x y H Q->Gp! (inplaceOp op u v)
abbrev Jsf(K:W.Frag)(ta tv:TE)(rd:de!)(f:Str):TS:=L9! (Tv! ta (kC λa C dx fs v=>Bg!/\e4!/\WO!/\n5!/\JNM /\
 FK! tv (λy H2=>rd v y H2 λz H3=>HK λyL eY=>Ha! H3 (M8! yL eY)/\eY.length<1000/\Pm! (z! H3 a (M8! yL (Az f z eY))))))
open S
def Aq{X:E!}(he:CS! e ta)(hb:attributeBase e f SL (Te! e)=hf! e):ib! SY! e f (gr Kx ta f):=by show M?;show Jt5 hb JSu;rintro u s1 ⟨x,H1,I1,rx,a,C,dx,fs,v,ex,ea,c,n,l,q⟩;subst ex;show s?;show Vo I1 ea c n l λu' s2 I2 ru=>⟨v,H1,I2,ru,q⟩
def Di{X:E!}(ha:RV!)(hv:qz!)(hs:ru! Ft! (D! (SY! o f pos'))):JN8 (SY! o f pos') Ft! (J04 Kx ta tv f):=by show i?;show plainObj_wpAny_Assign_Attribute (TW! hv ?_) hs;rintro u s1 ⟨y,H1,I1,ry,q⟩;show FO (ha AB s1 σ H1 _ I1 q) ?_;rintro ov s2 ⟨x,H2,I2,rx,a,C,dx,fs,ex,ea,c,n,l,q2⟩;subst ex;obtain rfl:ov=ZE!:=rx;show T1 I2 ea c n l ry λs3 I3=>Nh! _ I3 q2
def Cr{X:E!}(ha:RV!)(hv:qz!)(xJ:uH X op rd):PS X (.AugAssign (SY! o f JAQ) op Ft! AS!) (Jsf Kx ta tv rd f):=by show i?;show Ay? wpAny_AugAssign_AttributeAny ha;rintro ov s1 ⟨x,H1,I1,rx,a,C,dx,fs,v,ex,ea,c,n,l,q⟩;subst ex;obtain rfl:ov=ZE!:=rx;show Vo I1 ea c n l λu s2 I2 ru=>FO (hv AB s2 σ H1 _ I2 q) ?_;rintro w3 s3 ⟨y,H2,I3,ry,q3⟩;show FO (xJ AB s3 σ H2 v y u w3 _ I3 ru ry q3) ?_;rintro w4 s4 ⟨z,H3,I4,rz,yL,eY,WE,l',q4⟩;show T1 I4 WE c n l' rz λs5 I5=>Nh! _ I5 q4
inductive J1h(x:V)(y:V)(H:Hp)(Q:VK):B!
 | mk i j (_:Qm!) (_:bW!) (_:dd! (i+j))
inductive J05(x:V)(y:V)(H:Hp)(Q:VK):B!
 | mk i j (_:Qm!) (_:bW!) (_:dd! (i-j))
def D4:uH X .Add J1h:=by rintro AB s σ H x y u v Q I rx ry ⟨i,j,rfl,rfl,q⟩;have⟨t,rfl⟩:=(f1! R5!);have⟨t',rfl⟩:=j1! (∃t',v=XK! j t');show PyProof.Rows.iadd_int (JFE (i+j))
def Jqg:uH X .Sub J05:=by rintro AB s σ H x y u v Q I rx ry ⟨i,j,rfl,rfl,q⟩;have⟨t,rfl⟩:=(f1! R5!);have⟨t',rfl⟩:=j1! (∃t',v=XK! j t');show PyProof.Rows.isub_int (JFE (i-j))
open E
open S
inductive Qq(K:W.Frag)(H:Hp):AP! V DY! where
 | GB:aD! Av! "NoneType"
 | bl (x:Bool):aD! (bv x) "bool"
 | int (i:Int):aD! l3! G3!
 | str (x:Str):aD! (bn x) IU!
 | ix (x:UInt64):aD! (.ix x) "float"
 | BK {a:Addr} {xs:C!} (e:PY! a xs):dw! B4!
 | IQ {a:Addr} {o:Obj} {xs:C!} (e:GR! JMP):dw! B4!
 | BE {a:Addr} {xs:C!} (e:oC!):dw! Er!
 | dK {a:Addr} {kvs:Bz!} (e:Ri!):dw! DZ!
 | dT {a:Addr} {kvs:BI!} (e:WH!):dw! DZ!
 | ins {a C dx:Addr} {fs:DP!} (e:c8!) (cl:WO!) (ha:OI! C)
  (hn:JQR) (htk:JQb)
  (hm:N5! C):Qq K H Bf! Jq!
def Jmx{X:E!}(I:I!)(rx:Jg!)(ty:Qq Kx H x t)(e:Oi! Kx t c=D! b)(h:∀tk,Q (Cg! b) { s with toks:=tk }) : WB! Sa! [u,c]:=by cases ty with | GB=>cases (f1! tP!);show NV! W.kitx_none Xi! | bl y=>cases (f1! (u=KD! y));show NV! W.kitx_bool Xi! | int i=>show Jp? R5! W.kitx_int | str y=>show Jp? (∃t,u=fl! y t) W.kitx_str | ix y=>show Jp? (∃t,u=tQ! y t) W.kitx_float | @BK a xs ea =>show Bc?;have⟨_,_,n,_,h1⟩:=fX! (.BK xs);show NV! W.kitx_list (Kq! h1) | @IQ a ob xs ea =>show Bc?;have⟨_,_,_,n,_,h1⟩:=fX! (as! .BK xs);show NV! W.kitx_list (Kq! h1) | @BE a xs ea =>show Bc?;have⟨_,_,_,p⟩:=fX! (FB xs);have⟨o,h1,h2,_⟩:=p;show NV! W.kitx_tuple (Ea! h1 h2) | @dK a kvs ea =>show Bc?;have⟨_,_,vs,_,p⟩:=fX! d4!;have⟨o,es,ep,h1,h2,_⟩:=p;show NV! W.kitx_dict (Ea! h1 h2.1) | @dT a kvs ea =>show Bc?;have⟨_,_,xs,_,o,es,ep,h1,h2,_⟩:=fX! oQ!;show NV! W.kitx_dict (Ea! h1 h2.1) | @ins a C dx fs ea cl ha hn htk hm =>show Bc?;have⟨mA,O,_⟩:=So Au! ea;have⟨od,J,_⟩:=O.look;show NV! (W.kitx_own (cl.get _) cl.hd ha hn htk hm) J
open E
structure DW(k:Nat)(A:Around):B! where
 hd:KK!
 dp:A.depth+3*k+5<recursionLimit
 un:Xk! (16*k)+200<cLine
def DW.mono(r:Rf!)(h:j<=k):DW j A:=⟨r.hd,by have:=r.dp;lia,by have:=r.un;lia⟩
def DW.deeper(r:DW (k+1) A)(env:Env):xr! env :=⟨r.hd,by have:=r.dp;change A.depth+1+3*k+5<_;lia,by have:=r.un;change Xk! 3+16*k+200<_;lia⟩
def Ji0{A:Around}{C:Addr}{us:k!}{kw:QH!}:(A.under (.builtin "type.__call__" ow!)).depth=A.depth+1:=by first|rfl|simp[Around.under,Code.weight,Code.isCreation,Code.isGuard,Code.isCaller,Code.frames,Code.isFrame,guardIds]
def Jiz{A:Around}{C:Addr}{us:k!}{kw:QH!}:(A.under (.builtin "type.__call__" ow!)).units=Xk! 1:=by first|rfl|simp[Around.under,Code.cUnits,Code.frames,Code.isFrame]
def DW.make(r:DW (k+1) A)(C:Addr)(us:k!)(kw:QH!):DW k (A.under (G2! "type.__call__" ow!)) :=⟨r.hd,by have:=r.dp;rw[Ji0];lia,by have:=r.un;rw[Jiz];lia⟩
def DW.depth(r:Rf!):A.depth<recursionLimit:=by have:=r.dp;lia
def DW.units(r:Rf!):Xk! 64<cLine:=by have:=r.un;lia
abbrev F6:TA:=vm! []
abbrev Ck(ta:TE)(tr:TA):TA:=Rb! (FK! tr (λxs H2=>Q (x::xs) H2))
open S
def Ae:PA X [] F6:=λ_ _ _ _ H Q I h=>K' ⟨[],H,I,R!,h⟩
def Aa(ha:V4!)(hr:PA X es t)(hs:L1!:=by rfl):PA X ZD! (Ck te t):=by intro pos AB s σ H Q I h;rw[hs];show BG? (spliced (JR3::JKl AS! es));show Ay? II ha;rintro u s1 ⟨x,H1,I1,r1,q1⟩;show FO (hr AS! AB s1 σ H1 _ I1 q1) λus s2 ⟨xs,H2,I2,r2,q2⟩=>⟨x::xs,H2,I2,SC r1 r2,q2⟩
inductive Jzx  (xs:C!) (H1:Hp) (Q:VK):B!
 | mk  (e0:Fj!) (e1:∀p,Tl! (Zn! p) p (bA! p FB xs))
abbrev uN(t:TA):TE:=Zp! (λxs H1=>Jzx  xs H1 Q)
inductive Jzy  (xs:C!) (H1:Hp) (Q:VK):B!
 | mk  (e0:Fj!) (e1:∀p,Tl! (Zn! p) p (TT! H1 xs))
abbrev J0c(t:TA):TE:=Zp! (λxs H1=>Jzy  xs H1 Q)
def Bh(h:PA X es t):PE X (SR! es x1 AS!) (uN t):=by intro AB s σ H Q I hq;show wpAny_Tuple_spliced (FO (h AS! AB s σ H _ I hq) λus s1 ⟨xs,H1,I1,r,z,q⟩=>Bv! (Q9! Xl!));have hf:JEv:=Tm! tj!;show⟨h! KH!,QY! H1 KH! xs,rs! s1.toks (OR! Hs!) ?_,A!,q _ hf⟩;show⟨z,us,r,JN1 Cu!⟩
def Eh(h:PA X es t):PE X (.List es AS!) (J0c t):=by intro AB s σ H Q I hq;show wpAny_List_spliced (FO (h AS! AB s σ H _ I hq) λus s1 ⟨xs,H1,I1,r,z,q⟩=>Bv! (Q9! Xl!));have hf:JEv:=Tm! tj!;show⟨h! KH!,JEF KH! xs,rs! s1.toks (OR! Hs!) ?_,A!,q _ hf⟩;show⟨z,us,0,r,Cu!⟩
open E
@[reducible]abbrev Sp:=C!->Hp->AP! VK XK
@[reducible]abbrev bV:=Ca!->Hp->OS!->XK->Os
structure YA(P:Program)(w:World)(K:W.Frag)(mg:sw)(base:Heap)(A:Around)(outer:Ca!)(s:Shared)(H:Hp):B! where
 frames:A.frames=Ix BV!
 mod:Mod K mg AW!
 bs:ws! base.get? (DL!/\An!)
 ag:base.objs.size<=s.heap.objs.size
 OY:yH! AW! BV!
 cE:∀b∈SS BV!,An!
 EI:PQ P w H Go
 bare:AllBare s.gens
inductive CE(outer:Ca!)(P:Program)(w:World)(H:Hp)(s:Shared)(Q:VK)(u:Value)(s':Shared):B!
 | mk v H' (_:tc!) (_:xg!) (_:JJ3 BV! []) (_:WW! H' Gy!) (_:C3!) (_:Jt!)
abbrev CR(CX:bV)(outer:Ca!)(P:Program)(w:World)(H:Hp)(s:Shared)(Q:VK)(E:XK)(r:Result)(s':Shared):B! :=
 match r with
 | .ok (.ret u)=>JP8
 | .ok _=>False
 | .error e=>JKQ e s'
structure FR(P:Program)(w:World)(K:W.Frag)(mg:sw)(base:Heap)(CX:bV)(k:Nat)(f:Addr)(fd:FuncData)(ps:AC)(sp:Sp):B! where
 len:pM!
 run:∀(A:Around)(outer:Ca!)(s:Shared)(H:Hp)(args:Args)(us:k!)(vs:C!)(Q:VK)(E:XK),Rf!->qO!->jm! D9! xv!->Nw!->Hc! sp vs ->
  JGB A (JGK D9!) (CR CX BV! P w H s Q E) s
def FR.mono{P:Program}{w:World}{K:W.Frag}{mg:sw}{base:Heap}{CX:bV}{j k:Nat}{f:Addr}{fd:FuncData}{ps:AC}{sp:Sp}(F:FR P w K mg AW! CX j f fd ps sp)(h:j<=k) : s5! CX:=⟨F.len,λA outer s H args us vs Q E hr=>F.run A BV! s H D9! us vs Q E (hr.mono h)⟩
def YA.make{P:Program}{w:World}{K:W.Frag}{mg:sw}{base:Heap}{A:Around}{outer:Ca!}{s:Shared}{H:Hp}(e:qO!)(C:Addr)(us:k!)(kw:QH!) : YA P w K mg AW! (JUc ow!) BV! s H:=⟨by first|show e.frames|(simpa [Around.under,Code.envs,Code.isFrame,pushEnvs] using e.frames),e.mod,e.bs,e.ag,e.OY,e.cE,e.EI,e.bare⟩
open S
def Inv.iC{X:E!}(I:I!):YA Bm! X.w Kx X.mg Fl! X.A D6! s H :=⟨I.ok.frames,I.ok.mod,I.bs,AA I.ok.ag I.sz,I.stack,I.UC,Au!,SL!⟩
def Inv.after(I:I!)(h:CE D6! Bm! X.w H s Q u s'):JGT u:=by have⟨v,H',os,bare,un,EI,r,q⟩:=h;have⟨hh,g,d,t,n_⟩:=s';obtain rfl:n_=s.os:=os;show⟨v,H',I.call (h':=hh) (g':=g) (d':=d) (t':=t) (ch:=[]) un EI bare (λb z=>AJ! z KB),r,q⟩
open E
abbrev Kj(sp:Sp)(UA:C!)(E:XK)(t:TA):TE:=nq! (sp (vs++UA) H1 Q E)
inductive Jxo(C:Addr)(m:Str)(sp:Sp)(UA:C!)(E:XK)(t:TA)(σ:St)(x:V)(H1:Hp)(Q:VK):B!
 | mk (a dx fs) (e0:Bg!) (e1:e4!) (e2:oR!) (e3:FK! t (λvs H2=>sp (x::Uh!) H2 Q E))
abbrev my(C:Addr)(m:Str)(sp:Sp)(UA:C!)(E:XK)(ta:TE)(t:TA):TE:=Rb! (Jxo C m sp UA E t σ x H1 Q)
abbrev ub(C:Addr)(sp:Sp)(UA:C!)(E:XK)(t:TA):TE:=nq! (∀x dx,Zn! x->Zn! dx->dx≠x ->
 sp (Qz!::Uh!) (z! (bA! dx Gx! x) x JDZ) (λv H2=>v=Av!/\GC! x H2) E)
abbrev Binds(K:W.Frag)(fd:FuncData)(ps:AC)(ds:k!):B! :=
 ∀(s:Shared)(us:k!),Jx!->y1! Oj!->jm! aq! (Xm! (Oj!))
def Binds.all{K:W.Frag}{fd:FuncData}{ps:AC}(h:∀us:k!,yJ! (bindArgs fd aq!=BU! xv!)):fF!:=λs us _ hl=>by rw[AM] at hl ⊢;show .of_eq (h us hl)
abbrev Jp(CX:bV)(X:E!)(E:XK):B!:=∀(AB:x!)(σ:St)(H:Hp)(s:Shared)(e:Value)(s':Shared),K9! (CX D6! H s E e s') (X.xe e s')
open S
def zK{X:E!}{AB:x!}{σ:St}{H:Hp}{s:Shared}{Q:VK}{us:k!}{vs:C!}(F:Rx!)(hr:V0!)(hb:Ru!)(hd:R3!)(hx:SA!)(I:I!)(r:Nw!)(h:Hc! sp Uh!):Gp! (Kt! call f us):=by
 have r2:Gw! (vs++UA) (Oj!):=r.append hd;show Ik? (y1! Oj!) r2.length h
 show WQ (p0! (F.run X.A D6! s H aq! (Oj!) Uh! Q E hr I.iC (hb s us Es! hl) r2 h));cases r with | error e=>show hx AB σ H s e s' I hq | ok fl =>cases fl with | ret u=>show I.after hq | next=>show Ba? | brk=>show Ba? | cont=>show Ba?
def Bb{X:E!}(F:Rx!)(hr:V0!)(hg:Gs!)(hm:VJ! NL!)(hk:CA! SX! Kx NL!)(hb:Ru!)(hd:R3!)(hx:SA!)(ha:N6!)(cU:D1!:=by decide)(he:L1!:=by rfl)(TY:Rs!:=by rfl) : o6! (Kj sp UA E t):=by show M?;show FU?;show Kh? Fl! hk;show zK F hr hb hd hx I1 r q
def Ar{X:E!}{pl:Sem A3!}(he:RV!)(c:SB!)(hm:qM!)(F:Rx!)(hr:V0!)(hb:Ru!)(hd:R3!)(hx:SA!)(ha:N6!)(gE:L1!:=by rfl)(TY:Rs!:=by rfl)(ht:JIy (do
  let ov <-aO!
  eF!
  let(f,first) <-fe!
  JNn):=by rfl) :
 JGn (my C m sp UA E ta t):=by
 show M?
 show FW?
 show Cz?
 subst ex
 show s?
 show Kg?
 show tJ! (λus s2 ⟨vs,H2,I2,r,q2⟩=>Bv! I2.PN)
 show zK (us:=Br!::us) (vs:=Br!::vs) F hr hb hd hx I2 (SC A! r) q2
def Cz{X:E!}{pl:Sem A3!}(he:RV!)(c:SB!)(hm:qM!)(F:Rx!)(hr:V0!)(hb:Ru!)(hd:R3!)(hx:SA!)(ht:JUT [] (do
  let ov <-aO!
  eF!
  let(f,first) <-fe!
  JUU (L8! AS! (Fn! [] SL))):=by rfl) :
 wF! JR9 [] (my C m sp UA E ta F6):=by
 show M?
 show FW?
 show Cz?
 subst ex
 show s?
 show Kg?
 show W.callWith_K0 (first:=JT!) I1.PN hm.kp (zK (us:=JT!) (vs:=JT!) F hr hb hd hx I1 (LJ! A!) q)
structure Mk(K:W.Frag)(C f:Addr):B! where
 makes:JFX
 init:e5! fz!
 fn:pU!
 kp:CA! SX! K Jq!
def Jfr{X:E!}{AB:x!}{σ:St}{H:Hp}{s:Shared}{Q:VK}{us:k!}{vs:C!}(M:Mk Kx C f)(F:Rx!)(hr:JIf)(hb:Ru!)(hd:R3!)(hx:SA!)(I:I!)(r:Nw!)(h:∀x dx,lj!->A7! dx->dx≠x->sp (Qz!::Uh!) (JLc dx x x JDZ) (λv H2=>v=Av!/\GC! x H2) E) : Gp! (Kt! call C us):=by
 have hq:=h Qh! Uf (XX! (DU _)) WG! (BN (NY _));have I2:=Inv.AY (C:=C) I;have r2:Gw! (Z3! CK!::Uh!) (JTi::(Oj!)):=SC A! (r.append hd);have hl:y1! (y0!++ds):=by have e:=r2.length;rw[aw! F.len hq] at e;show Bn!
 show WQ (Jp6 (f:=f) Es! M.makes M.init (NS.mp M.fn) (I_ (F.run _ D6! _ _ (Hl! y0!) (JTi::(Oj!)) _ _ E (hr.make C us []) (I2.iC.make C us []) (hb _ (y0!) I2.PN hl) r2 hq) λr s' YV=>?_));cases r with | error e=>show hx AB σ _ _ e s' I2 YV | ok fl =>cases fl with | ret u =>have⟨v,H',I3,rv,ev,q3⟩:=I2.after YV;subst ev;show⟨rv,⟨Z3! CK!,H',I3,A!,q3⟩⟩ | next=>show XY! YV | brk=>show XY! YV | cont=>show XY! YV
def Ot{X:E!}(M:Mk Kx C f)(F:Rx!)(hr:JIf)(hg:Gs!)(hm:VJ! Jq!)(hb:Ru!)(hd:R3!)(hx:SA!)(ha:N6!)(cU:D1!:=by decide)(he:L1!:=by rfl)(TY:Rs!:=by rfl) : o6! (ub C sp UA E t):=by show M?;show FU?;show Kh? Fl! M.kp;show Jfr M F hr hb hd hx I1 r q
def Jpf{X:E!}(M:Mk Kx C f)(F:Rx!)(hr:JIf)(hg:Gs!)(hm:VJ! Jq!)(hb:Ru!)(hd:R3!)(hx:SA!)(cU:D1!:=by decide):wF! i5! [] (ub C sp UA E F6):=by show M?;show FU?;show W.callWith_K0 Es! M.kp (Jfr (us:=[]) M F hr hb hd hx I R! h)
open E
open S
open E
structure An(N P:AC)(sc:Scope):B! where
 kind:GZ!:=by rfl
 co:sc.isCoroutine=false:=by rfl
 gen:sc.isGenerator=false:=by rfl
 nd:N.Nodup:=by show BO?
 pre:N.take P.length=P:=by rfl
 par:∀x∈P,Gm!\/oz!:=by show BO?
 lA:∀y∈sc.names,y.2≠Eq!:=by show BO?
def Jb7{kindOf:mR!}{x:Str}:∀{binds:QH!} {m:sw},(∀v,(x,v)∉binds)->ry! bindL binds=m x
 | [],_,_=>rfl
 | (n,v)::r,m,h=>by unfold bindL;rw[Jb7 λw hw=>h w (AH! hw)];split;(·(have:x≠n:=by rintro rfl;show h v ZL);simp[this]);.rfl
def Jb9{kindOf:mR!}{x:Str}:∀{binds:QH!} {m:sw},(∀v,(x,v)∉binds)->ry! bindC binds=m x
 | [],_,_=>rfl
 | (n,v)::r,m,h=>by unfold bindC;rw[Jb9 λw hw=>h w (AH! hw)];split;(.rfl);·(have:x≠n:=by rintro rfl;show h v ZL);simp[this]
def Jb8{kindOf:mR!}{x:Str}{v:Value}:∀{P:AC} {vs:k!} {i:Nat} {m:sw},P.Nodup->P[i]?=D! x->JDm->hl! kindOf -> ry! bindL (P.zip vs)=D! v
 | [],_,_,_,_,h,_,_=>C0!
 | _::_,[],_,_,_,_,h,_=>C0!
 | p::P,w::vs,0,m,nd,h1,h2,hk=>by show Bl?;subst h1;subst h2;show FZ? bindL p;unfold bindL;rw[Jb7 λv hv=>(IW! nd).1 (LQ hv).1,AE hk];simp
 | p::P,w::vs,i+1,m,nd,h1,h2,hk=>by show FZ? bindL x;unfold bindL;show Jb8 (i:=i) (IW! nd).2 (by simpa using h1) (by simpa using h2) hk
def Jca{kindOf:mR!}{x:Str}{v:Value}:∀{P:AC} {vs:k!} {i:Nat} {m:sw},P.Nodup->P[i]?=D! x->JDm->kindOf x≠Ix .local -> ry! bindC (P.zip vs)=D! v
 | [],_,_,_,_,h,_,_=>C0!
 | _::_,[],_,_,_,_,h,_=>C0!
 | p::P,w::vs,0,m,nd,h1,h2,hk=>by show Bl?;subst h1;subst h2;show FZ? bindC p;unfold bindC;rw[Jb9 λv hv=>(IW! nd).1 (LQ hv).1,AD hk];simp
 | p::P,w::vs,i+1,m,nd,h1,h2,hk=>by show FZ? bindC x;unfold bindC;show Jca (i:=i) (IW! nd).2 (by simpa using h1) (by simpa using h2) hk
abbrev start(N:AC)(vs:C!):St:=Sb! D!++f3! (N.length-vs.length) KM
abbrev Ke(CX:bV)(P:Program)(w:World)(K:W.Frag)(mg:sw)(base:Heap)(N:AC)(qual:Str)(scope:Scope)(f:Addr)(cd:Value)(A:Around)(outer:Ca!)(s:Shared)(H:Hp)(E:XK):Cx K where
 prog:=P
 w:=w
 mg:=mg
 base:=base
 A:=A.deeper (fg!)
 N:=N
 JK:=s
 UT:=H
 env:=fg!
 outer:=outer
 stack:=fg!::outer
 ex:=[]
 calm:=true
 fn:=λ_=>true
 pn:=[]
 xe:=λe s'=>F9! jN! (A.deeper (x6! cd)) (leaving (fg!) e) (λ_ wG=>JKQ e wG) (λe' wG=>JKQ e' wG) s'
def Jht{sc:Scope}{n:Nat}{x:Str}(h:oz!):∃c,Tg! (f4! n sc.names []).lookup:=by have q:=tr! sc.names n [] Jc!;show LN.mp q
def Jbl{CX:bV}{P:Program}{w:World}{K:W.Frag}{mg:sw}{base:Heap}{N ps:AC}{qual:Str}{scope:Scope}{f:Addr}{cd:Value}{A:Around}{outer:Ca!}{s s1:Shared}{H:Hp}{E:XK}{us:k!}{vs:C!}(S:JQA)(hd:KK!)(e0:qO!)(hl:f2!)(r:Nw!)(x:InCallC s Uf (bindL (envOfC qual scope s.heap.objs.size f cd).kindOf (Xm! us) Oh!) (f4! Qh! ts! []) (bindC (envOfC qual scope s.heap.objs.size f cd).kindOf (Xm! us) Oh!) s1) : JN9 (wy! CX cd):=by
 have TY:ps.length<=N.length:=by show AP? S.pre;show N? CM;show this▸AC! NX
 have⟨h1,tk,rfl,hk⟩:=x.done;have oF:∀b:F!,b∉(Ke CX P w K mg base N qual scope f cd A outer s H E).ex:=λb z=>mT! (show JKv from z);show⟨⟨e0.mod,S.kind,A!,A!,Ao!,λy z c h1 h2=>?_,LR!,λy c _ h=>?_,λ_=>hd,Around.frames_deeper e0.frames,o! Bj!,λb z=>b6! z oF b,e0.bs,e0.ag,λb _ _=>oF b,λb z=>b6! z oF b,e0.OY,e0.cE⟩,A!,e0.bare,Un.kept hk,BM! x.toInCall.ns (λi y v h1 h2 h3=>?_),λy c h=>Bq! (x.cell y c h),Tm! e0.EI.fresh,λy c h=>?_,λp hp=>mT! (show p∈([]:x!) from hp),e0.EI.kept hk,?_⟩;.show name_of_addr x.apart (LD h1) (LD h2)
 .have hy:Qf! Ok! Ok!:=hy;rcases hy with hy|hy;(.show Jht hy);.show I? A! (S.lA _ (LD hy))
 .show A_ (x.above y c (LD h))
 ·(have hi:tt!:=by unfold start at h2;by_cases hi:tt!;(.show hi);.rw[KI (by simpa using hi)] at h2;rw[List.getElem?_replicate] at h2;split at h2<;>cases h2);(have ha:JDm:=by unfold start at h2;rw[LA (by simpa using hi),ZH] at h2;cases e:vs[i]? with | none=>rw[e] at h2;cases h2 | some a=>rw[e] at h2;cases h2;rfl);have⟨u,hu,rv⟩:=r.get ha;(have hp:ps[i]?=D! y:=by rw[<-S.pre,List.getElem?_take_of_lt (Xn!)];show h1);(have ndP:ps.Nodup:=JB0 S.pre S.nd.sublist (AC! List.take_sublist));show S? u rv;rcases DQ! S.par y hp with k|k;(.show E? ⟨k,Jb8 ndP hp hu k⟩);.have⟨c,e⟩:=Jht (n:=Pe!) k;show d! ⟨GE k,c,e,?_⟩;have q:=x.cell y c e;rw[Jca ndP hp hu (by change Ok! y≠_;rw[k];decide)] at q;show q
 .show e0.EI.fresh (A_ (x.above y c (LD h)))
 .unfold start;change _=N.length;rw[ZE,ZA,JW];lia
def Juy{CX:bV}{P:Program}{w:World}{K:W.Frag}{mg:sw}{base:Heap}{k:Nat}{f:Addr}{name qual:Str}{params:Arguments}{body:bw!}{scope:Scope}{dV kV doc pm EO ct oc:Value}{an od:Nj!}{eC:JOh}{N ps:AC}{sp:Sp}(lk:JPi (.func (s6!)))(TH:JPa)(S:JQA)(len:pM!)(UW:∀(A:Around) (outer:Ca!) (s:Shared) (H:Hp) (vs:C!) (Q:VK) (E:XK),JKM (x6! EO) (SW (JEr CX scope) body t)) : FR P w K mg AW! CX (k+1) f (s6!) ps sp:=by
 show⟨len,λA outer s H args us vs Q E hr e0 hb r bM=>?_⟩;have hl:=aw! len bM;have KX:Jx!:=qT! e0.mod.YR.keeps;have lim:s.heap.NoLimit:=qT! e0.mod.nolimit.keeps;have H_:∀y∈Xm! us,hg! Ok! AK!\/(lC! Ok! AK!/\JFI (f4! Qh! ts! []).lookup AK!):=λ⟨n,v⟩ hy=>by show BB? (S.par n (LQ hy).1);(.show E? q);.show AD? q (FS tr! _ (Am! q))
 show codeAny_call_function hr.depth (NE KX lk) A! S.co S.gen A! (W.codeRec_of KX TH) (hb _ _ _ _ ?_);show wpAny_newFunctionEnv_cells S.kind H_ λenv he s1 x=>?_;subst he;show⟨lim.keeps x.toInCall.keep,codeAny_func ?_⟩;have⟨t,ht,hq⟩:=UW A BV! s H vs Q E (hr.deeper _) bM;have I:JN9 (wy! CX EO):=Jbl S hr.hd e0 hl r x;show FH (ht [] s1 (start N vs) H _ I hq) (λfl s' hs=>?_) λe s' hs=>hs;have fin:∀{GA:St} {H':Hp} {v:V} {u:Value},JIi (wy! CX EO)->C3!->Jt!->JP8 :=λ{GA H' v u} J rv q=>⟨v,H',J.os,J.bare,J.base,J.EI,rv,q⟩;cases fl with | ret u =>have⟨v,GA,H',J,rv,q⟩:=hs;show wn J rv q | next =>have⟨GA,H',J,q⟩:=hs;show wn (v:=V.GB) (u:=KL!) J A! q | brk =>show FB? | cont =>show FB?
open S
variable {X:Cx Kx}{x:Str}{p pos:Pos}{e:Expr}{es:List Expr}{t:TA}{id T:String}{r:List V->Hp->VK->Prop}
abbrev vy(r:C!->ZG!)(t:TA):TE:=nq! (r vs H1 Q)
def A7(hc:aQ! id r)(hg:Gs!)(hm:ox!)(hv:JBj x G2! id)(ha:N6!)(hn:Ul!:=by decide)(cU:D1!:=by decide)(he:L1!:=by rfl)(TY:Rs!:=by rfl):o6! (vy r t):=by show M?;show KC (JRK ?_ cU);show PyProof.Rows.callWith_builtin1 (JTu (s7! hc vs us)) he TY
def Bl(hc:Re! T r)(hg:Gs!)(hm:ox!)(hv:JBj x BR! T)(ha:N6!)(hn:Ul!:=by decide)(cU:D1!:=by decide)(he:L1!:=by rfl)(TY:Rs!:=by rfl):o6! (vy r t):=by show M?;show KC (JRK ?_ cU);show JZ (JTu (s7! hc vs us)) he TY
open E
open S
variable [DecidableEq κ]
abbrev Ce(kvs:By!)(k:κ):VE!:=ER! kvs.find? Ry! CI!
abbrev putK(kvs:By!)(k:κ)(v:V):By! :=
 if y! (kvs.any Ry!) then Fu! (λkv=>if kv.1=k then(kv.1,v) else kv) else kvs++[(k,v)]
abbrev Dx(kvs:By!)(k:κ):By!:=kvs.filter λkv=>Aa! (kv.1≠k)
def N4{p:κ×V}{r:By!}{k:κ}(e:g!=k):Ce (p::r) k=D! pi:=by simp[Ce,CU,e]
def N5{p:κ×V}{r:By!}{k:κ}(e:¬g!=k):Ce (p::r) k=Ce r k:=by simp[Ce,CU,e]
def N6(k:κ):∀kvs:By!,(kvs.any Ry!)=(Ce kvs k).isSome
 | []=>rfl
 | p::r=>by rw[RI];show Av?;(.simp only[N4 e,AR e,Bool.true_or,Option.isSome_some]);.rw[N5 e,AL e,Bool.false_or];show N6 k r
def Gr(kvs:By!)(k:κ)(v:V):(putK kvs k v).length<=kvs.length+1:=by
 unfold putK;split;.rw[ZA];show Nn!
 .rw[ZE,BJ,BR];show Ao!
def Ib{kvs:By!}{k:κ}(v:V)(h:Ce Db k=none):EA! Db k v=kvs++[(k,v)]:=by unfold putK;rw[N6,h];show aM!
def TN.NU(r:TN o u):o.isSome=u.isSome:=by cases o with | none=>(cases u with | none=>rfl | some _=>show Bd?) | some _=>cases u with | none=>show Bd? | some _=>rfl
def TN.getD(r:TN o u)(rd:FB! d d'):RelV (Xo! d) (u.getD d'):=by cases o with | none=>(cases u with | none=>show rd | some _=>show Bd?) | some _=>cases u with | none=>show Bd? | some _=>show r
def KV.val(r:FU!)(k:κ):TN js! (Sc! vs k):=by unfold KV at r;induction r with | nil=>show Xi! | @cons p q ps qs h t ih =>show C0?;show Av?;(.have e':H!=k:=JBo;(have b:Sc! (q::qs) k=D! PP:=by simp[valueAt,CU,e']);rw[N4 e,b];show h2);.have e':¬H!=k:=dZ!;(have b:Sc! (q::qs) k=Sc! qs k:=by simp[valueAt,CU,e']);rw[N5 e,b];show ih
def KV.any(r:FU!)(k:κ):(kvs.any Ry!)=vs.any Ry!:=by unfold KV at r;induction r with | nil=>rfl | cons h t ih=>rw[RI,RI,ih,v6]
def KV.kN(r:FU!)(k:κ)(ry:CG!) : KV (Fu! (JJ7 y)) (Sb! (JJ7 u)):=by unfold KV at r ⊢;induction r with | nil=>show R! | @cons p q ps qs h t ih =>rw[AI,AI];show SC ?_ ih;show C0?;show Av?;(.rw[AE e,AE (h1.symm.trans e)];show⟨h1,ry⟩);.rw[AD e,AD (dZ!)];show⟨h1,h2⟩
def KV.put{kvs:By!}{vs:lN!}(r:FU!)(k:κ){y:V}{u:Value}(ry:CG!):KV (ez! k y) (stored vs k u):=by
 unfold putK stored;rw[r.any k];by_cases e:y! (vs.any Ry!);.rw[AE e,AE e];show r.kN k ry
 .rw[AD e,AD e];show Paired.snoc r (A8! ry)
def KV.drop{kvs:By!}{vs:lN!}(r:FU!)(k:κ):KV bD! (without vs k):=by unfold KV at r ⊢;unfold Dx without;induction r with | nil=>show R! | @cons p q ps qs h t ih =>show C0?;rw[FF,FF];show Av?;(·(have a:¬oq! g!:=z6!);(have b:¬oq! H!:=by simp[JBo]);rw[AD a,AD b];show ih);.have e':¬H!=k:=dZ!;(have a:oq! g!:=z6!);(have b:oq! H!:=by simp[e']);rw[AE a,AE b];show BM? ⟨h1,h2⟩
def KV.length(r:FU!):Xg!:=JCT
def Jq1(kvs:By!)(k:κ):(Dx kvs k).length<=kvs.length:=RC!
open E
def O3(r:RelV (kV k) u):CA! yQ! k u:=by cases k with | inl i=>have⟨t,e⟩:=(show R5! from r);subst e;show Jgz P w i t | inr x=>have⟨t,e⟩:=(show p9! from r);subst e;show Q6 P w x t
def Jbj:∀{ks:Ko!} {us:k!},eM! KM! kV->ItemsAre Zq! ks us
 | [],_,r=>by rw[GN] at r;cases r;show R!
 | k::ks,_,r=>by rw[AI] at r;cases r with | cons h t=>show SC (O3 h) (Jbj t)
@[reducible]abbrev KT(H:Hp):AP! BI! Lx!:=Qg! (λp q=>g!=H!/\BE! Tk JEV/\lx! BF!)
def KT.val(r:J6!)(k:Ko!):TN js! ((IX! xs k).map CI!):=by induction r with | nil=>show Xi! | @cons p q ps qs h t ih =>have⟨h1,_,h2⟩:=h;show Av?;(.have e':H!=k:=JBo;(have b:IX! (q::qs) k=D! PP:=by simp[atKey,CU,e']);rw[N4 e,b];show h2);.have e':¬H!=k:=dZ!;(have b:IX! (q::qs) k=IX! qs k:=by simp[atKey,CU,e']);rw[N5 e,b];show ih
def KT.kN(r:J6!)(k:Ko!)(ry:CG!) : KT H (Fu! (JJ7 y)) (D5! (putAt k u)):=by induction r with | nil=>show R! | @cons p q ps qs h t ih =>rw[AI,AI];show SC ?_ ih;have⟨h1,h2,h3⟩:=h;unfold putAt;show Av?;(.rw[AE e,AE (h1.symm.trans e)];show⟨h1,h2,ry⟩);.rw[AD e,AD (dZ!)];show⟨h1,h2,h3⟩
def KT.put{H:Hp}{kvs:BI!}{xs:Lx!}(r:J6!)(k:Ko!){b:Addr}{y:V}{u:Value}(hb:VD!)(ry:CG!) : KT H (ez! k y) (storedH xs k b u):=by
 have e:(kvs.any Ry!)=(IX! xs k).isSome:=by rw[N6,(r.val k).NU,tu!]
 unfold putK storedH;rw[e];by_cases q:y! (IX! xs k).isSome;.rw[AE q,AE q];show r.kN k ry
 .rw[AD q,AD q];show Paired.snoc r (JS! hb ry)
def KT.keeps(r:J6!)(ht:∀b ys,Ml! b ys->Ku! (FB ys)):KT H' Db xs :=Qa8 r (Od! ⟨z.1,L! ht z.2.1,z.2.2⟩)
open S
def Juq(ok:El!)(e:Rd H a u):wX! u:=e.ok ok
def Pe(ok:El!)(e:o9!):JJr :=Fr! (wX! d4!) (Juq ok e)
def uZ(ok:El!)(e:Ri!):JJr:=Pe ok (S! e)
def Kz(ok:El!)(e:GR! (FB (KM! kV))):(tupleKind (Bp P w)).is h ks a:=by have⟨_,its,r,o,h1,h2,n,h3⟩:=JDN (FB (KM! kV)) (ok a _ e);show⟨o,CH!,n,h1,h2,h3,ZS! (Jbj r)⟩
def Pd(ok:El!)(e:JGp):tR!/\US! /\ ∃xs,J6!/\h.DictOfH x0! a xs:=by
 have⟨z,y,xs,r,o,es,ep,h1,h2,h3,h4,h5⟩:=JDN oQ! (Juq ok e);show⟨z,y,xs,r,o,es,ep,h1,h2,h3,h4,H9!,h5⟩;have all:∀{l:BI!} {m:Lx!},KT H l m->∀x∈m,(tupleKind (Bp P w)).is h Ag! LE!:=by intro l m q;induction q with | nil=>intro x hx;show nomatch hx | @cons p q ps qs hq t ih =>intro x hx;rcases ZM hx with e|hx;(.subst e;show Kz ok (A0! hq.1 hq.2.1));.show ih x hx
 show all r x hx
def ml(ok:El!)(e:WH!):tR!/\US! /\ ∃xs,J6!/\h.DictOfH x0! a xs:=Pd ok (S! e)
open E
abbrev GJ(H:Hp)(a:Addr)(y:V)(r:VE!):B! :=
 (HK λkvs k=>o9!/\y=kV k/\r=Ce Db k)\/NM λkvs k b=>JGp/\Uo!/\VD!/\r=Ce Db k
abbrev JH(H:Hp)(a:Addr)(y v:V)(H':Hp):B! :=
 (HK λkvs k=>Ri!/\y=kV k/\f5!/\H'=Ti! a Af! jo!) \/
 NM λkvs k b=>WH!/\Uo!/\VD!/\f5!/\H'=Ti! a wv jo!
def GJ.k{H:Hp}{a:Addr}{kvs:Bz!}{k:Key}(e:Ri!):GJ H a (kV k) js!:=GE ⟨Db,k,GE e,A!,A!⟩
def GJ.t{H:Hp}{a b:Addr}{kvs:BI!}{k:Ko!}(e:WH!)(eb:VD!):GJ H a T3! js!:=o! ⟨Db,k,b,GE e,A!,eb,A!⟩
def JH.k{H:Hp}{a:Addr}{kvs:Bz!}{k:Key}{v:V}(e:Ri!)(hl:f5!):JH H a (kV k) v (PO! a Af! jo!):=GE ⟨Db,k,e,A!,hl,A!⟩
def JH.t{H:Hp}{a b:Addr}{kvs:BI!}{k:Ko!}{v:V}(e:WH!)(eb:VD!)(hl:f5!) : JH H a T3! v (jM! a jo!):=o! ⟨Db,k,b,e,A!,eb,hl,A!⟩
open S
def Inv.big(I:I!):sysModules<s.heap.objs.size:=by have h:mainGlobals<s.heap.objs.size:=(te! I.bk).lt;show TQ TD h
def Jb4(hu:N8!)(I:I!)(g:GJ H a y Vy!)(ry:CG!)(h:JIb (FB! v w')) : Zg! (getItem Bf! u):=by
 show Cc?;.subst ey;show Bb?;show Gs? (Sc! vs k) (KE l (rel.val k));show wpAny_getItem_of OE! Xp! hw (h w' _ (I.tok _) TX)
 .subst ey;show Bj?;show CY?;show Gs? ((IX! xs k).map CI!) (KE l (rel.val k));have⟨p,hp,JG⟩:=G5! hw;show KJ? wpAny_getItem_heap dd hp;rw[JG];show h w' _ (I.tok _) TX
def J14(hu:N8!)(I:I!)(g:ej!)(ry:CG!)(h:∀s',jL!->Q (Cg! o.isSome) s') : JEd SO! .In Bf!:=by
 show Cc?;.subst ey;show Bb?;show wpAny_in_of OE! hd Xp! ?_;rw[<-kL!,<-l];show n9!
 .subst ey;show Bj?;show CY?;show KJ? wpAny_in_heap hd dd;have q:=kL!;rw[tu!] at q;rw[<-q,<-l];show n9!
def Jt3(hu:N8!)(I:I!)(g:ej!)(ry:CG!)(h:∀s',jL!->Q (Cg! (!o.isSome)) s') : JEd SO! .NotIn Bf!:=by
 show Cc?;.subst ey;show Bb?;show wpAny_notIn_of OE! hd Xp! ?_;rw[<-kL!,<-l];show n9!
 .subst ey;show Bj?;show CY?;show KJ? wpAny_notIn_heap hd dd;have q:=kL!;rw[tu!] at q;rw[<-q,<-l];show n9!
def Ph(I:I!)(mu:pI (H a))(hs:v8! a)(he:JK2)(new:c4! (Km! a ob) a ob) : wn! a ob fs! :=I.write (x:=a) (e:=a) mu Ht! (λb q hb z=>(IR! b hb).trans z) he new
def Jq2(z:tR!)(hd:US!)(rel:FU!)(dd:h'.DictOf Zq! a vs) : EX P w H' h' a d4!:=⟨z,hd,vs,rel,dd⟩
def Jb3{H':Hp}{Q:Fb!}(hu:N8!)(I:I!)(g:JH H a y v H')(ry:CG!)(rv:FB! v r)(h:os! QE!) : JEd setItem Bf! r:=by
 rcases g with⟨kvs,k,e,ey,l,eH⟩|⟨kvs,k,b,e,ey,eb,l,eH⟩;.subst ey eH;show Kp? uZ;(have hz:vs.length<=sizeLine:=Q9! Xq!);(have hl:B5! (putK kvs k v).length:=by have:=Gr Db k v;lia);show wpAny_setItem_pairs (hsz:=hz) OE! dd λh' cH hs=>h _ ?_;have he:JK2:=let⟨q,_,_,hq,_⟩:=cH;JLX;show JKF he (Jq2 hl hd (rel.put k rv) cH)
 .subst ey eH;show Bj?;show Ks? ml;(have hz:Fj!:=Q9! RD!);(have hl:B5! (putK kvs k v).length:=by have:=Gr Db k v;lia);show wpAny_setItem_heap (hsz:=hz) (HI hu) (Kz Au! eb) dd λh' cH hs=>h _ ?_;have⟨q,es,ep,hq,h2,h3,h4,_,h5⟩:=cH;show JKF JLX ⟨hl,hd,_,(rel.put k eb rv).keeps y2!,q,es,ep,hq,h2,h3,h4,h5⟩;rw[Ad (JNv e)];show ec
open E
open S
def Jzo(I:I!)(e:Ri!)(ry:RelV (kV k) u)(l:c6!)(hm:more=[]\/∃x,more=[x])(h:∀w' s',HS! (PO! a Af! bD!) s'->FB! v w'->Q w' s'):WB! tv! (Br!::u::more):=by
 show Kp? uZ;show Gs? (Sc! vs k) (CZ! l (rel.val k));have hp:JFI keyPart u:=by cases k with | inl i=>have⟨t,q⟩:=j1! R5!;subst q;rfl | inr x=>have⟨t,q⟩:=j1! p9!;subst q;rfl
 have ha:argsOk tv! (Hl! (Br!::u::more)):=by rcases hm with q|⟨x,q⟩;(.subst q;show PySem.F.args_dict_pop_2 _ _);.subst q;show L! PySem.F.args_dict_pop_3 _
 show RG ND Fv! PySem.F.entry_dict_pop ha (meets_dict_pop_there Lt! a OE! Bo! hm hp) ⟨vs,w',dd,Q9! Xq!,hw,λh' cH hs=>h w' _ ?_ TX⟩;have he:JK2:=let⟨q,_,_,hq,_⟩:=cH;JLX;show JKF he (Jq2 (AA (Jq1 Db k) z) hd (rel.drop k) cH)
def Jzp(I:I!)(e:o9!)(h:∀t s',jL!->Q (V! MB! t) s'):WB! "len" JT!:=by show Bb?;show call_len_dict hd dd (by rw[<-Xq!];rw[CV] at z;show e7! z) ?_;rw[<-Xq!];show h _ _ (I.tok _)
open E
abbrev Jzt(i:Expr):B!:=∀ov iv,f6! i am ov iv=JLq [ov,iv] ov iv
def Jry{prog:Program}{w:World}{A:Around}{E:Os}{s:Shared}{env:Env}{value slice:Expr}{pos:Pos}{T id:String}{Q:Os}(hl:tw! (BR! T) tx!=BU! (hi! id))(hs:Jzt MD!)(h:xx! (OF! Ft!) (λo EZ=>it! (OF! MD!) (λi NN=>NN.TypeIs o T/\d6! (getItem o i) NN) EZ)) : A9! (OF! (f7! Ft! MD! AS!)):=by
 show ty! (FH h (λo EZ h₁=>FH h₁ (λi NN aE=>?_) fu!) fu!);have⟨hT,aE⟩:=aE;unfold subscriptTail;show ZR ?_;rw[getitemInPython_of_ne hT.not_modules];show ZR (tz! hT hl ?_);have fin:it! (f6! MD! am o i) (λr TL=>d6! (letTemporaryGo Ft! o r >>= λ_=>BU! r) TL) NN:=U! (hs o i) (wpAny_operating (FH aE (λr TL hV=>ZR (wpAny_letTemporaryGo (ZS hV))) fu!))
 first | show ZS (ZR wn) | show ZR (ZS (ZR wn)) | show ZR wn
def Jhr(I:I!)(g:ej!):f8! Bf! DZ!:=by
 rcases g with⟨kvs,k,e,_,_⟩|⟨kvs,k,b,e,_,_,_⟩;.have⟨_,_,vs,_,dd⟩:=Pg! Pe;show Fv!
 .have⟨_,_,xs,_,dd⟩:=Pg! Pd;show Fv!
inductive Jxp  (x:V) (y:V) (H2:Hp) (Q:VK):B!
 | mk (a v) (e0:Bg!) (e1:GJ H2 a y Vy!) (e2:Q v H2)
abbrev mn(td ty:TE):TE:=JTc (xe! (Jxp  x y H2 Q))
inductive Jz0  (x:V) (y:V) (H2:Hp) (Q:VK):B!
 | mk (a o) (e0:Bg!) (e1:JIY) (e2:Q (bv o.isSome) H2)
abbrev J0f(ty td:TE):TE:=JCx (yz! td (Jz0  x y H2 Q))
inductive Jrn  (x:V) (y:V) (H2:Hp) (Q:VK):B!
 | mk (a o) (e0:Bg!) (e1:JIY) (e2:Q (bv (!o.isSome)) H2)
abbrev Jrx(ty td:TE):TE:=JCx (yz! td (Jrn  x y H2 Q))
inductive Jxq  (x:V) (y:V) (v:V) (H3:Hp) (σ:St) (D:Ends):B!
 | mk (a H4) (e0:Bg!) (e1:JH H3 a y v H4) (e2:Pm! H4)
abbrev Jyf(td ty tv:TE):TS:=Up! tv (λv H1=>FK! td (λx H2=>ty σ H2 λy H3=>Jxq  x y v H3 σ D))
abbrev Jyg(td ty tv:TE)(rd:de!):TS:=L9! (Tv! td (xe! (HK λa v=>Bg!/\GJ H2 a y Vy! /\
 tv σ H2 λy2 H3=>rd v y2 H3 λz H4=>∃H5,JH H4 a y z H5/\Pm! H5)))
open S
def C1(hu:Jy!)(ho:Ls!)(hi:e1!)(hs:Jzt i:=by show λ_ _=>rfl):JFO o i (mn td ty):=by show M?;show Jry PySem.F.slot_dict_getitem.lookup hs (TW! ho (λu s1 ⟨x,H1,I1,rx,q1⟩=>xV! hi (λiv s2 ⟨y,H2,I2,ry,a,v,ex,g,q2⟩=>?_)));subst ex;show s?;show⟨Jhr I2 g,Jb4 hu I2 g ry (JQD H2)⟩
def P1(hu:Jy!)(hi:e1!)(ho:Ls!):PC X .In i o (J0f ty td):=by show M?;show FO (hi AB s σ H _ I h) λiv s1 ⟨y,H1,I1,ry,q1⟩=>JHQ ?_;rintro u s2 ⟨x,H2,I2,rx,a,ov,ex,g,q2⟩;subst ex;show s?;show J14 hu I2 g ry λs3 I3=>⟨bv ov.isSome,H2,I3,A!,q2⟩
def Eo(hu:Jy!)(hi:e1!)(ho:Ls!):PC X .NotIn i o (Jrx ty td):=by show M?;show FO (hi AB s σ H _ I h) λiv s1 ⟨y,H1,I1,ry,q1⟩=>JHQ ?_;rintro u s2 ⟨x,H2,I2,rx,a,ov,ex,g,q2⟩;subst ex;show s?;show Jt3 hu I2 g ry λs3 I3=>⟨bv (!ov.isSome),H2,I3,A!,q2⟩
def Cm(hu:Jy!)(ho:Ls!)(hi:e1!)(hv:qz!)(hs:ru! Ft! (D! (f7! o i pos'))) : JN8 (f7! o i pos') Ft! (Jyf td ty tv):=by show i?;show wpAny_Assign_Subscript (TW! hv (λr s1 ⟨v,H1,I1,rv,q1⟩=>JHQ (λu s2 ⟨x,H2,I2,rx,q2⟩=>JET hi s2 I2 (λiv s3 ⟨y,H3,I3,ry,a,H4,ex,g,q3⟩=>?_)))) hs;subst ex;show s?;show Jb3 hu I3 g ry rv λs4 I4=>Nh! H4 I4 q3
def Ol(hu:Jy!)(ho:Ls!)(hi:e1!)(hv:qz!)(xJ:uH X op rd)(ha:∀ov iv new,augStore i ov iv new=(do holding [new,ov,iv] (setItem ov iv new);release [new,ov,iv] [];BU! .next)):PS X (.AugAssign (f7! o i JAQ) op Ft! AS!) (Jyg td ty tv rd):=by
 show i?
 show wpAny_AugAssign_SubscriptAny (TW! ho (λu s1 ⟨x,H1,I1,rx,q1⟩=>xV! hi (λiv s2 ⟨y,H2,I2,ry,a,v,ex,g,q2⟩=>?_))) ha
 subst ex
 show s?
 show Jb4 hu I2 g ry λw' s3 I3 TX=>JET hv s3 I3 (λw2 s4 ⟨y2,H3,I4,ry2,q3⟩=>FO (xJ AB s4 σ H3 v y2 w' w2 _ I4 TX ry2 q3) ?_)
 rintro w3 s5 ⟨z,H4,I5,rz,H5,g5,q4⟩
 show Jb3 hu I5 g5 ry rz λs6 I6=>Nh! H5 I6 q4
open E
def Jq3(h:Heap)(hb:sysModules<h.objs.size):EX P w H (h.push (hX! DZ! .dict (#[]))) SI! (Af! []) :=⟨Bu!,hU! IV! (BN hb),[],R!,Heap.DictOf.new h⟩
def Jhn(h:Heap)(hb:sysModules<h.objs.size):EX P w H (h.push (hX! DZ! .dict (#[]))) SI! (wv []) :=⟨Bu!,hU! IV! (BN hb),[],R!,_,#[],0,Cu!,JGD,A!,A!,EG⟩
abbrev Jvg:TE:=λ_ H Q=>Qe! (PO! p Af! [])
abbrev Jvf:TE:=λ_ H Q=>Qe! (jM! p [])
open S
def F0:ib! .Dict [] [] Jvg:=λAB s σ H Q I h =>wpAny_Dict_empty ⟨K5!,_,JNl Af! y3! Jq3,A!,h _ WG!⟩
def E2:ib! .Dict [] [] Jvf:=λAB s σ H Q I h =>wpAny_Dict_empty ⟨K5!,_,JNl wv y3! Jhn,A!,h _ WG!⟩
open E
@[reducible]abbrev VV:AP! (EN! (V×V)) (EN! (Value×Value)):=Qg! (λp q=>FB! g! H!/\lx! PP)
structure M1(X:E!)(o:Expr)(m:Str)(apos:Pos)(e:Expr)(IX:Pos):B! where
 base:sp! m
 mE:AU! ((L8! IX (Fn! [e] SL)).all (λx=>! Ag!)&&JNQ
  && Aa! (([e]:IB!).length+wj! w9!+(JOV 1)<30))
 line:mI!
 trees:JKl IX [e]=[(am,hf! e)]
structure M2(X:E!)(o:Expr)(m:Str)(apos:Pos)(e f:Expr)(IX:Pos):B! where
 base:sp! m
 mE:AU! ((L8! IX (Fn! [e,f] SL)).all (λx=>! Ag!)&&JNQ
  && Aa! (([e,f]:IB!).length+wj! w9!+(JOV 1)<30))
 line:mI!
 trees:JKl IX [e,f]=yo! JR3 f
abbrev qA(H:Hp)(a:Addr):B!:=(∃kvs,o9!)\/∃kvs,JGp
def ui(I:I!)(d:qA H a) : f8! Bf! DZ!/\(∀b,D4! a=Ep! b->∃ob,Ni! Fm!/\ob.dict=none)/\US!:=by
 rcases d with⟨kvs,e⟩|⟨kvs,e⟩;.have⟨_,hd,vs,_,dd⟩:=Pg! Pe;show⟨Fv!,λb q=>?_,hd⟩;cases q;have⟨ob,_,_,h1,h2,_⟩:=dd;show⟨ob,h1,h2.2.1⟩
 .have⟨_,hd,xs,_,dd⟩:=Pg! Pd;show⟨Fv!,λb q=>?_,hd⟩;cases q;have⟨ob,_,_,h1,h2,_⟩:=dd;show⟨ob,h1,h2.2.1⟩
open S
def Jxe(hu:N8!)(I:I!)(g:ej!)(ry:CG!)(h:JIb (RelV (Xo! Av!) w')) : WB! "dict.get" [Br!,u]:=by
 show Cc?;.subst ey;show Bb?;show E4? (AC! SN) (meets_dict_get Lt! a OE! hd) (BM! Xp! r4!);rw[l];show bc! A!
 .subst ey;show Bj?;show CY?;show E4? (AC! SN) (meetsH_dict_get (fn! (Bp Bm! X.w)) a b hd) ⟨HI hu,k,xs,Kz Au! eb,dd,r4!⟩;rw[l];show bc! A!
def Jxd(hu:N8!)(I:I!)(g:ej!)(ry:CG!)(rd:FB! d r)(h:JIb (RelV (Xo! d) w')) : WB! "dict.get" [Br!,u,r]:=by
 show Cc?;.subst ey;show Bb?;show E4? (NE PySem.F.args_dict_get_3 _) (meets_dict_get_default Lt! a OE! hd r) (BM! Xp! r4!);rw[l];show bc! rd
 .subst ey;show Bj?;show CY?;show E4? (NE PySem.F.args_dict_get_3 _) (meetsH_dict_get_default (fn! (Bp Bm! X.w)) a b hd r) ⟨HI hu,k,xs,Kz Au! eb,dd,r4!⟩;rw[l];show bc! rd
open E
abbrev Jvj(td ty:TE):TE:=JPx (∃o,JIY/\Q (Xo! Av!) H2)
inductive Juf(ty tx:TE)(x:V)(H1:Hp)(σ:St)(Q:VK):B!
 | mk (a) (e0:Bg!) (e1:qA H1 a) (e2:xe! (tx σ H2 λz H3=>∃o,GJ H3 a y o/\Q (Xo! z) H3))
abbrev Jvi(td ty tx:TE):TE:=JTc (Juf ty tx x H1 σ Q)
abbrev Jve(td ty:TE):TE:=JPx (NM λkvs k v=>b7! a Af! Db/\y=kV k/\c6!/\Q v (NM! a Af! bD!))
open S
def Jph(hu:Jy!)(ho:Ls!)(he:dS!)(m:JRD "get"):JNR "get" Jvj:=by show M?;show Eb? FV VA;show C1?;subst ex;show s?;show E8?;show Es?;rw[Xr!];show E5? (λiv s2 ⟨y,H2,I2,ry,ov,g,q2⟩=>K' ?_);show Jxe hu I2 g ry λw' s3 I3 TX=>⟨_,H2,I3,TX,q2⟩
def Us(hu:Jy!)(ho:Ls!)(he:dS!)(hf:CS! f tx)(m:M2 X o "get" apos e f IX):xq! "get" [e,f] (Jvi td ty tx):=by show M?;show Eb? FV VA;show C1?;subst ex;show s?;show E8?;show Es?;rw[Xr!];show E5? (λiv s2 ⟨y,H2,I2,ry,q2⟩ =>II (FO (hf AB s2 σ H2 _ I2 q2) λfv s3 ⟨z,H3,I3,rz,ov,g,q3⟩=>K' ?_));show Jxd hu I3 g ry rz λw' s4 I4 TX=>⟨_,H3,I4,TX,q3⟩
def Jf6(ho:Ls!)(he:dS!)(m:JRD "pop"):JNR "pop" Jve:=by show M?;show Eb? ND PySem.F.type_dict_pop;show C1?;subst ex;show s?;show E8?;show Es?;rw[Xr!];show E5? (λiv s2 ⟨y,H2,I2,ry,kvs,k,v,ea,ey,l,q2⟩=>K' ?_);subst ey;show Jzo I2 ea ry l Ht! (JQD _)
open E
open S
variable {X:Cx Kx}{AB:List (Addr×Obj)}{σ:St}{H:Hp}{s:Shared}{a:Addr}{kvs:List (Key×V)}{A:Around}{E:Value->Shared->Prop}
open E
open S
variable {X:Cx Kx}{AB:List (Addr×Obj)}{σ:St}{H:Hp}{s:Shared}{a:Addr}{y:V}{u:Value}{A:Around}{E:Value->Shared->Prop}
open E
open E L2
open N HT
open PySem PyProof.Rows
abbrev lexLt:At->At->A3!
 | [],[]=>false
 | [],_::_=>true
 | _::_,[]=>false
 | x::xs,y::ys=>B3! (x=y) (KN! xs ys) JAL
def IS(x y:Int)(xs ys:At):KN! (x::xs) (y::ys)=B3! (x=y) (KN! xs ys) JAL:=A!
def QE:wT (KN! [] []):=A!
def Vd(y:Int)(ys:At):y! (KN! [] (y::ys)):=A!
def Ve(x:Int)(xs:At):wT (KN! (x::xs) []):=A!
def Jqw(A:Around)(s:Shared)(a:Int)(t:Tok)(c:Int)(u:Tok):∃e,t0! A s JGd (V! c u) e/\(e=true↔a=c) :=⟨(a==c),SeqAt.EqAt.int_int a t c u,sK⟩
def Jo1(A:Around)(s:Shared)(a:Int)(t:Tok)(c:Int)(u:Tok)(prog:Program)(w:World)(E:Os)(Q:Os)(h:Q (a2! Cg! (a<c)) s) : A9! (richCompare .Lt JGd (V! c u)) :=(PyProof.Rows.lt_int h:A9! (SO! .Lt JGd (V! c u)))
open S
open PySem.SeqAt
open PySem.AutoSeq1 (wpAny_loadPart')
open PySem.MeetsSeq PySem.MeetsSeq2 PySem.MeetsSeq3
def Yy(l b:Addr)(items OD:BP!)(n n2:Nat)(dd mK:Nj!)(sl cP:JOh)(ns ms:At)(hi:iE! t1!)(hj:ZK! OD.toList ms) : Meets (Builtin.«tuple.__lt__» (Hl! [JU!,B9!])) (λ_ R s=>JE7 { cls:=io!,dict:=dd,data:=.seq Ol! n,slots:=sl }/\Kj! Fm! { cls:=io!,dict:=mK,data:=.seq OD n2,slots:=cP } /\ R (.ok (.ret (Cg! JNt))) s) :=.of_wp λprog w A R s h=>by show Fy?;have⟨hl,hb,h⟩:=h;have f2:=AutoSeq1.sub_tuple_tuple;(have z1:items.size=ns.length:=by rw[<-hi.length];simp);(have z2:OD.size=ms.length:=by rw[<-hj.length];simp);wp_walk using wpAny_loadPart' hl,wpAny_loadPart' hb,VS _ (λrest b s'=>b.1=none/\s'=Wk!/\YL λ(vs:List Value)(ws:List Value)(jb:List Int)(lQ:List Int)=>rest=vs.zip ws /\ ZK! vs jb/\ZK! ws lQ/\jb.length+OD.size=lQ.length+items.size/\R (.ok (.ret (Cg! (KN! jb lQ)))) Wk!) _;(case turn =>rintro⟨y,x⟩ rest b s' ⟨LI,rfl,vs,ws,jb,lQ,hz,xC,tE,hlen,hR⟩;cases xC with | nil=>rw[List.zip_nil_left] at hz;cases hz | cons a t JBE =>cases tE with | nil=>rw[List.zip_nil_right] at hz;cases hz | cons c u JBD =>rw[t2!] at hz;injection hz with hyx rN;injection hyx with hy hx;subst hy hx;rw[IS] at hR;simp only[BJ] at hlen;have⟨e,he,qa⟩:=Jqw A.in1 Wk! a t c u;show ZR (he B2! w _ _ ?_);cases e with | true =>rw[AE (qa.mp A!)] at hR;wp_walk;show⟨A!,A!,_,_,_,_,rN,JBE,JBD,X!,hR⟩ | false =>rw[AD (λq=>GO! qa.mpr q AO)] at hR;have hri:=Jo1 A.in1 Wk! a t c u B2! w;wp_walk using hri;show P? (by simpa using hR));(case fin =>rintro⟨b1,b2⟩ s' ⟨LI,rfl,vs,ws,jb,lQ,hz,xC,tE,hlen,hR⟩;simp only at LI;subst LI;(have hv:Fd! (KN! jb lQ) (items.size<OD.size):=by cases xC with | nil =>(cases tE with | nil =>simp only[BR] at hlen;rw[QE];show JDt AL | cons c u hw =>simp only[BR,BJ] at hlen;rw[Vd];show JDt AR) | cons a t hv =>cases tE with | nil =>simp only[BR,BJ] at hlen;rw[Ve];show JDt AL | cons c u hw =>rw[t2!] at hz;cases hz);rw[hv] at hR;wp_walk;show P? (by simpa [Builtin.Tuple.tupleCompareSizes] using hR));case h =>show⟨A!,A!,t1!,OD.toList,ns,ms,A!,hi,hj,X!,h⟩
open E
open S
variable {prog:Program}{w:World}{A:Around}{E:Value->Shared->Prop}{s:Shared}
def aR(hl:dO! l Ol!)(hb:dO! b OD)(hi:iE! t1!)(hj:ZK! OD.toList ms)(hu:f9!)(h:o0! JNt):A9! (JCC SO! .Lt l):=by have⟨⟨cls,dd,data,sl⟩,ho,hc,n,hd⟩:=id hl;have⟨⟨JBc,mK,data2,cP⟩,eQ,oW,n2,hd2⟩:=id hb;simp only at hc hd oW hd2;subst hc hd oW hd2;show richCompare_meets_room (op:=.Lt) JC9 JDA PySem.F.slot_tuple_lt PySem.F.entry_tuple_lt (AC! PySem.F.args_tuple_lt_2) (Yy l b Ol! OD n n2 dd mK sl cP ns ms hi hj) ⟨ho,eQ,Om! (KD! (KN! ns ms)≠Value.notImplemented/\o0! JNt) ⟨(λx=>nomatch x),h⟩⟩ hu
def iO(ht:dO! t KO!)(hb:dO! b t3!)(hv:vs≠[])(h1:Tl! (ws=[]) t s)(h2:Tl! (ws≠[]) Uf (kK! IS! (vs++ws).toArray))(hsz:B5! (vs.length+ws.length)):A9! (JCC binaryOp .Add t):=by
 have⟨⟨cls,dd,data,sl⟩,ho,hc,n,hd⟩:=id ht;have⟨⟨JBc,mK,data2,cP⟩,eQ,oW,n2,hd2⟩:=id hb;simp only at hc hd oW hd2;subst hc hd oW hd2;have e:vs.toArray++ws.toArray=(vs++ws).toArray:=sK
 by_cases hw:ws=[];.show concat_meets JC9 JDA noFill_tuple_add seq_tuple_add PySem.F.slot_tuple_add PySem.F.entry_tuple_add (AC! PySem.F.args_tuple_add_2) (tuple_addW1 t b KO! t3! n n2 dd mK sl cP (by simpa using hv) (by simp[hw])) ⟨ho,eQ,h1 hw⟩
 .show concat_meets JC9 JDA noFill_tuple_add seq_tuple_add PySem.F.slot_tuple_add PySem.F.entry_tuple_add (AC! PySem.F.args_tuple_add_2) (tuple_addW2 t b KO! t3! n n2 dd mK sl cP (by simpa using hv) JAB (P9! BG BG hsz)) (Hy! ho eQ);rw[e];show h2 hw
abbrev JP(n d:Nat):Cz!->No
 | none=>d
 | some v=>JOY
def dj(n d:Nat):JP n d KM=d:=A!
def WY(n d k:Nat):JP n d (D! EX!)=min k n:=by change bJ! (EX!<0) (EX!+DN!).toNat (min (k:Int).toNat n)=min k n;rw[AD (IY! Ng!),CZ]
def Jvy(n d:Nat)(hd:d<=n)(o:Cz!):JP n d o<=n:=by cases o with | none=>show hd | some v =>change(JOY)<=n;by_cases hv:v<0;(.rw[AE hv];lia);.rw[AD hv];show NX _ _
def Jle(v:Int)(n d:Nat):bQ! (H4! (v<0) (max (v+DN!) 0) (min v DN!)) (JP n d (D! v)):=by
 change H4! (v<0) (max (v+DN!) 0) (min v DN!)=Bb! (JOY);by_cases hv:v<0;.simp only[AE hv];lia
 .simp only[AD hv];lia
def Jjp(lo hi:Cz!)(n:Nat):Builtin.Slice.sliceAdjust lo hi 1 DN!=(l7!,Bb! (JP n n hi)):=by
 have h1:¬(H5!<0):=X!
 unfold Builtin.Slice.sliceAdjust;simp only[h1,FZ];show On! ?_ ?_;.cases lo with | none=>rfl | some v=>show Jle v n 0
 .cases hi with | none=>rfl | some v=>show Jle v n n
def Jin(i j:Nat):t4! sB Cx! 1=j-i:=by
 unfold Builtin.Slice.slicePlaces;have h1:JK3:=X!
 simp only[h1,HW,Int.ediv_one];split<;>lia
def Tw(p:IsPart v o)(h:Q o s):A9! (Builtin.Slice.slicePartIndex v):=by cases p with | none=>show slicePart_none h | int i t=>show slicePart_int h
def Pt{sl:Addr}{vl vu:Value}{lo hi:Cz!}{n:Nat}{Q:E9! (Int×Int×Nat)}(hs:JQ0)(pl:JNH)(pu:JNI)(h:Q (l7!,1,JP n n hi-JP n 0 lo) s):A9! (Builtin.Slice.sliceApplied (IN sl) (BU! DN!)):=by have⟨os,jk,hcs,tH⟩:=id hs;unfold Builtin.Slice.sliceApplied Builtin.Slice.sliceFields;show O? ZR (JMT vl (ZR (JMT vu (ZR (JMT IR dL!)))));show O? slicePart_none ?_;show Dw? (AU! (H5!==0));show Da?;show ZR (Tw pl (ZR (Tw pu (eL! ZS))));show BG? (match Builtin.Slice.sliceAdjust lo hi 1 DN! with|(lo,hi)=>BU! (lo,H5!,t4! lo hi 1));rw[Jjp lo hi n];show BG? (BU! (l7!,H5!,t4! l7! (Bb! (JP n n hi)) 1));rw[Jin];show ZS h
def Jpa(xs:BP!)(i k:Nat):K2! (At! k).filterMap (λ(m:Nat)=>xs[JNX]?)=((xs.toList.drop i).take k).toArray:=by
 have e:(λ(m:Nat)=>xs[JNX]?)=λm=>xs[i+m]?:=by funext m;have:JNX=i+m:=(Nat.add_assoc _ _ _).symm;rw[this]
 rw[e];have:=pick_run xs i k;show N? List.filterMap_map;have e2:((λx=>xs[x]?) ∘ λx=>i+x)=λm=>xs[i+m]?:=rfl;show N? e2;rw[this]
def RP{t sl:Addr}{items:BP!}{vl vu:Value}{lo hi:Cz!}{Q:Os}(ht:dO! t Ol!)(hs:JQ0)(pl:JNH)(pu:JNI)(hw:¬(il!=0/\JSY=items.size))(h:cN! (kK! IS! ((t6! (JP t5! 0 lo)).take (Wm!)).toArray))(hsz:items.size<=sizeLine):A9! (Kt! getItem t (IN sl)):=by
 have az:sizeOk (.seq ((t6! (JP t5! 0 lo)).take (Wm!)).toArray):=by change B5! ((t6! (JP t5! 0 lo)).take (Wm!)).toArray.size;rw[BG,CM,t7!,DY];lia
 have hj:JSY<=items.size:=FS Jvy CC! hi;have⟨os,jk,hcs,tH⟩:=id hs;have hTs:Vu! sl "slice":=⟨os,jk,hcs⟩;unfold getItem;try with_reducible show EK ?_
 first|show ZR (ZS ?_)|skip
 show ZR (wpAny_sequenceKey gA! TD ?_);show ZR (EA (A4!:=t8! tx!) gA! PyProof.Rows.slot_tuple_getitem (DA PyProof.Rows.slot_tuple_getitem gA! entry_tuple_getitem ?_ (AC! args_tuple_getitem)));show B3? (QW! Builtin.Tuple.tupleItemsOf t);show Ag? tupleItemsOf_ ht;show Ag? gB! hTs;rw[TN! AE];show ZR (Pt hs pl pu ?_);have ie:¬(AU! (Bb! il!==0&&H5!==1&&(Wm!)==items.size)):=by intro q;rw[HD,HD] at q;have q1:Bb! il!=0:=Sd! q.1.1;have q2:Wm!=items.size:=Sd! PP;show hw (LY! X!)
 show Dw? (AU! (Bb! il!==0&&H5!==1&&(Wm!)==items.size));rw[AD ie,Jpa];first | show mi! (CS (ZS l4!) az) | show mi! (CS (ZR (ZS (ZS l4!))) az) | show ZR (mi! (CS (ZS (ZS l4!)) az)) | show ZR (mi! (CS (ZS l4!) az))
open E
open E HT
open N L2
open PySem PySem.Spec PyProof.Rows
@[reducible]abbrev TO:=ps! (PN! Cz!)
abbrev PO(X:E!)(e:HV! Expr)(t:TO):B! :=
 ∀(AB:x!)(s:Shared)(σ:St)(H:Hp)(Q:PN! Cz!),bO! (t σ H Q ->
  ao! (evalPart e SL) (λu s'=>HK λo H'=>QE!/\IsPart u o/\Hg! o))
abbrev Jrw:TO:=vm! KM
abbrev Jx4(t:TE):TO:=ZO! t (∃i,Qm!/\Q (D! i) H1)
def intsAre_of{ns:At}:∀{us:k!},eM! CL! wp->iE! us:=by induction ns with | nil=>intro us r;rw[GN] at r;cases r;show R! | cons n ns ih =>intro us r;rw[AI] at r;cases r with | cons r1 r2 =>have⟨t,e⟩:=r1;subst e;show SC n t (ih r2)
open S
variable {X:Cx Kx}{e:Expr}{te:TE}{lo hi:Option Expr}{tl th:TO}{pos p2:Pos}
def Ma:PO X KM Jrw:=by show M?;rw[evalPart_none];show ZS ⟨KM,H,I,IR,h⟩
def L9(h:V4!):PO X (D! e) (Jx4 te):=by show Fr?;rw[evalPart_some];show FO (q7!) ?_;rintro u s1 ⟨x,H1,I1,r1,q1⟩;have⟨i,rfl,q⟩:=q1;have⟨t,rfl⟩:=r1;show⟨Ix i,H1,I1,V! i t,q⟩
abbrev yW(X:E!)(r:JPv):B! :=
 ∀(AB:x!)(s:Shared)(σ:St)(H:Hp)(x:V)(v vl vu:Value)(lo hi:Cz!)(sl:Addr)(Q:VK),I!->LC!->JQ0->JNH->JNI->r x lo hi H Q ->
  HK λT id=>tw! (BR! T) tx!=BU! (hi! id)/\f8! v T/\Gp! (getItem v (IN sl))
abbrev tSl(r:JPv)(te:TE)(tl th:TO):TE:=ZO! te (FK! tl (λl H2=>th σ H2 λu H3=>r x l u H3 Q))
def Ii{r:JPv}(hr:yW X r)(he:V4!)(hl:PO X lo tl)(hu:PO X hi th):JFO e (.Slice lo hi KM p2) (tSl r te tl th):=by show M?;show Ay? ty! he;show Ao?;show wpAny_Slice (FO (v2! hl) λvl s2 ⟨l,H2,I2,pl,q2⟩=>JET hu s2 I2 (λvu s3 ⟨u,H3,I3,pu,q3⟩=>?_));rw[evalPart_none];show ZS ?_;have I4:HS! H3 JQE:=I3.kept (t':=s3.toks) λb ob q=>ZT _ q;have⟨T,id,hT,ht,hg⟩:=hr AB JQE σ H3 x v vl vu l u Oo! Q I4 r1 (Heap.IsSliceOf.new ..) pl pu q3;change h5! (subscriptTail e (.Slice lo hi KM p2) v (IN Oo!)) (EP X AB σ Q) JQE;show tail_any (ops:=[h! Oo!,v]) ht hT hg (by with_unfolding_all rfl)
abbrev Pi(xs:C!)(lo hi:Cz!):C!:=JQM xs.drop
def Rk(xs:C!)(lo hi:Cz!):(Pi xs lo hi).length<=xs.length:=by unfold Pi;rw[CM,t7!];lia
inductive J06(K:W.Frag)(x:V)(lo:Cz!)(hi:Cz!)(H:Hp)(Q:VK):B!
 | mk a xs (_:Bg!) (_:Dz!) (_:¬(ME! Eu! 0 lo=0/\ME! Eu! Eu! hi=xs.length)) (_:JFc (Pi xs lo hi))
def Tz{X:E!}:yW X (J06 Kx):=by
 intro AB s σ H x v vl vu lo hi sl Q I rx hs pl pu h;have⟨a,xs,rfl,hx,hw,q⟩:=h;show H?;have⟨its,r,ht,hz⟩:=Et! hx;have hlen:its.toArray.size=xs.length:=U! BG r.length.symm
 show⟨Er!,_,PyProof.Rows.slot_tuple_getitem.lookup,gA!,?_⟩;show HT.RP ht hs pl pu (ld! hw) ?_ (ld! hz);rw[C8!];show K1? (JRS (FB (Pi xs lo hi))) WG!;show⟨AA (Rk xs lo hi) hz,_,JQM r.drop,l8!⟩
inductive Jur(K:W.Frag)(x:V)(y:V)(H:Hp)(Q:VK):B!
 | mk a b xs ys (_:Bg!) (_:Uo!) (_:Dz!) (_:Dp! b ys) (_:xs≠[]) (_:B5! (xs.length+ys.length)) (_:(Tl! (ys=[]) a H)) (_:(ys≠[]->JFc (xs++ys)))
def Vals.W_(r:Ek!):us=[]↔xs=[]:=by cases r with | nil=>simp | cons _ _=>simp
def zv{X:E!}:JFy .Add Jur Kx:=by show p?;have⟨a,b,xs,ys,rfl,rfl,ha,hb,hx,hz,q1,q2⟩:=h;show H?;cases ry;have⟨its,r1,p1,_⟩:=Et! ha;have⟨R_,r2,p2,_⟩:=Et! hb;show HT.iO p1 p2 (λz=>hx (r1.W_.mp z)) (λz=>⟨Br!,H,I,A!,q1 (r2.W_.mp z)⟩) VT! (by rw[<-r1.length,<-r2.length];show hz);show⟨K5!,_,JRS (FB (xs++ys)),A!,q2 (λw=>z (r2.W_.mpr w)) _ WG!⟩;show⟨U! ZE hz,_,r1.append r2,l8!⟩
open E
abbrev iZ(n:Nat)(i:Int):HV! No:=if 0<=i then(Tn! (i<n) i.toNat) else Tn! yp! (JX! (i+n))
abbrev UK{α:UF}(xs:Q!)(i:Int):HV! α:=(iZ Eu! i).bind λj=>MF!
def Jtm(h:iZ n i=D! j):seqIndex? i n=D! j/\j<n/\yp!/\i<n:=by
 unfold iZ at h;by_cases h0:0<=i;.rw[AE h0] at h;by_cases h1:i<n;(.rw[AE h1] at h;have e:i.toNat=j:=ZO h;show⟨jp (seqIndex_of h0 h1) e,X!,X!,h1⟩);.show Az? (AD h1)
 .rw[AD h0] at h;by_cases h1:yp!;(.rw[AE h1] at h;have e:JX! (i+n)=j:=ZO h;show⟨jp (seqIndex_neg ((t9! h0)) h1) e,X!,h1,X!⟩);.show Az? (AD h1)
def za(h:fA!):∃j,seqIndex? i Eu!=D! j/\MF!=D! v/\Se!/\-AF! Eu!<=i/\i<xs.length:=by unfold UK at h;cases e:iZ Eu! i with | none=>show Ah? | some j =>show AC?;have⟨h1,h2,h3,h4⟩:=Jtm e;show⟨j,h1,h,h2,h3,h4⟩
def Jt6{α:UF}{xs:Q!}{j:Nat}{v:α}(h:MF!=D! v):UK xs Cx!=D! v:=by
 have hj:Se!:=ES! h;have e:iZ Eu! Cx!=D! j:=by unfold iZ;rw[AE (AN _),AE (G6! hj)];simp
 unfold UK;rw[e];show h
abbrev Juc(b:Expr):B!:=∀o i,f6! b am o i=JLq [o,i] o i
abbrev p9(X:E!)(r:R2):B! :=
 ∀(value slice:Expr)(AB:x!)(s:Shared)(σ:St)(H:Hp)(x y:V)(v u:Value)(Q:VK),od! CG! (r x y H Q ->
  f6! MD! am v u=JLq [v,u] v u->Gp! (subscriptTail Ft! MD! v u))
abbrev uD(X:E!)(id:String)(r:Rp!):B! :=
 ∀(AB:x!)(s:Shared)(σ:St)(H:Hp)(x:V)(xs:C!)(v:Value)(us:k!)(Q:VK),od! Ek! (r x xs H Q ->
  Gp! (ii! id (v::us)))
open S
variable {X:Cx Kx}{a b:Expr}{ta tb:TE}{pos:Pos}
def Ao{r:R2}(hr:p9 X r)(ha:Gn!)(hb:Ly!)(hs:Juc b:=by show λ_ _=>rfl):JFO a b rB!:=JAA (ty! (JRJ (tI! hr a b s2 H2 I2 q (AC! hs))))
inductive Jz4(K:W.Frag)(x:V)(y:V)(H:Hp)(Q:VK):B!
 | mk (p xs i v) (e0:kC!) (e1:kE!) (e2:dI!) (e3:fA!) (e4:Q v H)
abbrev J1c(K:W.Frag):R2:=sr! Jz4
inductive Jz3(K:W.Frag)(x:V)(y:V)(H:Hp)(Q:VK):B!
 | mk (p xs i v) (e0:kC!) (e1:kE!) (e2:m0!) (e3:fA!) (e4:Q v H)
abbrev gq(K:W.Frag):R2:=sr! Jz3
inductive J1a(x:V)(y:V)(H:Hp)(Q:VK):B!
 | mk z i c (_:kD!) (_:kE!) (_:z.length<=sizeLine) (_:UK KP! i=D! c) (_:mn! or!)
def A8{X:E!}:p9 X (J1c Kx):=by
 show C2?;have⟨p,xs,i,z,rfl,rfl,hq,he,q⟩:=h;show H?;have⟨t,rfl⟩:=ry;show A9? (Fp! hq);show Il?;have⟨w,ew,TX⟩:=r.get h2;have hl:=r.length;have hn:=Qa;show Go? w (ie! z TX);by_cases h0:0<=i;·(have hj:i.toNat=j:=by rw[seqIndex_of h0 h5] at h1;show ZO h1);show item_listR KI! h0 i! (by rw[hj];simpa using ew) wn hs
 ·(have hj:JX! (i+AF! its.toArray.size)=j:=by rw[seqIndex_neg ((t9! h0)) h4] at h1;rw[BG,<-hl];show ZO h1);show subscriptTail_builtinR (x:=w) pl.isList.typeIs slot_list_getitem.lookup (wpAny_getItem_list_neg (Q:=λr s'=>r=w/\JGT r) KI! ((t9! h0)) (by rw[BG]<;>show hl▸h4) i! (by rw[hj];simpa using ew) (A8! wn)) hs
def Aw{X:E!}:p9 X (gq Kx):=by show C2?;have⟨p,xs,i,z,rfl,rfl,hq,he,q⟩:=h;show H?;have⟨t,rfl⟩:=ry;show A9? ci!;show Il?;have⟨w,ew,TX⟩:=r.get h2;have hl:=r.length;have hn:=Qa;show Go? w (ie! z TX);show subscriptTail_builtinR (x:=w) pl.typeIs slot_tuple_getitem.lookup (getItem_tuple (j:=j) (Q:=λr s'=>r=w/\JGT r) pl i! i! (by rw[BG,<-hl];show h1) (by simpa using ew) (A8! wn)) hs
def Jwz:p9 X J1a:=by
 show C2?;have⟨z,i,c,rfl,rfl,hz,he,q⟩:=h;show T?;show AQ?;show Il?;have hl:uA!:=z7!
 rw[hl] at h1 h4 h5;have hn:=Qa;show tail_any (typeIs_str s z t) slot_str_getitem.lookup (getItem_str (c:=c) (by have e1:Uk! (i < -AF! (2 ^ 63)):=Kr! AL;have e2:Uk! (i ≥ 2 ^ 63):=Kr! AL;rw[e1,e2,Bool.or_false]) (by rw[h1];simpa using h2) (NU! (UV or!))) hs
def Jcw(lo hi:Cz!)(n:Nat):bQ! (uB! lo hi KM n).1 (ME! n 0 lo)/\bQ! (uB! lo hi KM n).2.1 (ME! n n hi)/\(uB! lo hi KM n).2.2=1:=by
 show⟨?_,?_,A!⟩;.cases lo with | none=>simp[sliceBounds,HT.JP] | some i =>simp only[sliceBounds,HT.JP,Option.getD_none,show JK3 by decide,HW];by_cases h:i<0;(.simp only[h,HW]<;>lia);.simp only[h,FZ]<;>lia
 .cases hi with | none=>simp[sliceBounds,HT.JP] | some i =>simp only[sliceBounds,HT.JP,Option.getD_none,show JK3 by decide,HW];by_cases h:i<0;(.simp only[h,HW]<;>lia);.simp only[h,FZ]<;>lia
def Yz(its:k!)(lo hi:Cz!):slicePick CH! lo hi KM=((its.drop (ME! gC! 0 lo)).take (ME! gC! gC! hi-ME! gC! 0 lo)).toArray:=by have⟨h1,h2,h3⟩:=Jcw lo hi its.toArray.size;unfold slicePick;rw[h1,h2,h3];simp only[sliceRange_one,pick_run,BG]<;>rfl
inductive J07(K:W.Frag)(x:V)(lo:Cz!)(hi:Cz!)(H:Hp)(Q:VK):B!
 | mk a xs (_:Bg!) (_:Fe!) (_:Qe! (hk! (Pi xs lo hi)))
def Jr4{X:E!}:yW X (J07 Kx):=by intro AB s σ H x v vl vu lo hi sl Q I rx hs pl pu h;have⟨a,xs,rfl,hx,q⟩:=h;show H?;have⟨its,r,ht,hz⟩:=Fp! hx;show Fw?;show⟨B4!,_,slot_list_getitem.lookup,ht.isList.typeIs,?_⟩;show wpAny_getItem_list_slice ht.isList hs pl pu IR KB ?_ (by rw[BG]<;>show hlen▸hz);rw[Yz,<-C8!];show K1? (JRS (.BK (Pi xs lo hi))) WG!;show⟨AA (Rk xs lo hi) hz,_,0,JQM r.drop,Cu!⟩
abbrev Rg:V->A3!
 | .GB=>true
 | .bl _=>true
 | .int _=>true
 | .str _=>true
 | _=>false
abbrev iy:V->V->A3!
 | .GB,.GB=>true
 | .bl a,.bl b=>a==b
 | .bl a,.int b=>(if a then 1 else 0)==b
 | .int a,.bl b=>a==(if b then 1 else 0)
 | .int a,.int b=>a==b
 | .str a,.str b=>a==b
 | _,_=>false
def Jw8(ry:CG!)(rx:LC!)(fy:Cw! Rg y)(fx:Cw! Rg x):t0! A s u v (iy y x):=by cases y with | GB =>cases ry;(cases x with | GB=>show H?;show SeqAt.EqAt.same _ | bl b=>show H?;show SeqAt.EqAt.none_bool b | int b=>show DP? (SeqAt.EqAt.none_int b t) | str b=>show DP? (SeqAt.EqAt.none_str b t) | _=>show Dz?) | bl a =>cases ry;(cases x with | GB=>show H?;show SeqAt.EqAt.bool_none a | bl b=>show H?;show SeqAt.EqAt.bool_bool a b | int b=>show DP? (SeqAt.EqAt.bool_int a b t) | str b=>show DP? (SeqAt.EqAt.bool_str a b t) | _=>show Dz?) | int a =>show AQ?;(cases x with | GB=>show H?;show SeqAt.EqAt.int_none a t' | bl b=>show H?;show SeqAt.EqAt.int_bool a t' b | int b=>show FJ? SeqAt.EqAt.int_int | str b=>show FJ? SeqAt.EqAt.int_str | _=>show Dz?) | str a =>show AQ?;(cases x with | GB=>show H?;show SeqAt.EqAt.str_none a t' | bl b=>show H?;show SeqAt.EqAt.str_bool a t' b | int b=>show FJ? SeqAt.EqAt.str_int | str b=>show FJ? SeqAt.EqAt.str_str | _=>show Dz?) | _=>show Ct! (show fx! from fy) AO
abbrev gV(x:V)(u:Value):A3!:=match u with
 | .none=>iy Av! x
 | .bool b=>iy (bv b) x
 | .int i _=>iy (V! i) x
 | .str z _=>iy (bn z) x
 | _=>false
def Jqv(r:CG!)(f:Cw! Rg y):gV x u=iy y x:=by cases y with | GB=>cases r;rfl | bl b=>cases r;rfl | int i=>show BS? | str z=>show BS? | _=>show Ct! (show fx! from f) AO
def zZ:∀{xs:C!} {us:k!},Ek!->JMA->us.any (gV x)=xs.any λy=>iy y x
 | _,_,.nil,_=>rfl
 | y::xs,u::us,.cons r t,f=>by rw[List.all_cons,HD] at f;rw[RI,RI,Jqv r f.1,zZ t f.2]
def U8(rx:LC!)(fx:Cw! Rg x):∀{xs:C!} {us:k!},Ek!->JMA->∀u∈us,t0! A s u v (gV x u)
 | _,_,.nil,_=>G7! (GG! hu)
 | y::xs,u::us,.cons r t,f=>λu' hu=>by rw[List.all_cons,HD] at f;rcases ZM hu with rfl|hu;(.rw[Jqv r f.1];show Jw8 r rx f.1 fx);.show U8 rx fx t f.2 u' hu
abbrev MJ(x:V)(xs:C!):A3!:=xs.any λy=>iy y x
inductive rIn(K:W.Frag)(neg:Bool)(x:V)(y:V)(H:Hp)(Q:VK):B!
 | mk p xs (_:y=DF!) (_:(dI!\/m0!)) (_:Cw! Rg x) (_:JMA) (_:dt! (if neg then ! MJ x xs else MJ x xs))
def Mc{X:E!}:WE! .In (rIn Kx am):=by
 show p?;have⟨p,xs,rfl,hq,fx,fs,q⟩:=h;cases ry;rcases hq with hq|hq;.show A9? (Fp! hq);show SeqAt.in_listAt (gV x) KI! (λw hw=>U8 rx fx r fs w JAB) ⟨bv _,H,I,A!,?_⟩;rw[Ut! (its.toArray.any (gV x)=its.any (gV x)),zZ r fs];show q
 .show A9? ci!;show SeqAt.in_tupleAt (gV x) pl (λw hw=>U8 rx fx r fs w JAB) ⟨bv _,H,I,A!,?_⟩;rw[Ut! (its.toArray.any (gV x)=its.any (gV x)),zZ r fs];show q
inductive Jan(K:W.Frag)(xs:C!)(H:Hp)(Q:VK):B!
 | mk p ys (_:nK!) (_:(JH3\/Dp! p ys)) (_:QD! Xt!)
def Bm{X:E!}:JIV "len" Jan:=by
 show X?;have⟨p,ys,rfl,hq,q⟩:=h;show Aw?;show H?;have hn:=Qa;rcases hq with hq|hq;.show Gt?;show C3?;show Calls.call_len_list KI! (by simp only[BG]<;>lia) ⟨T! Xt!,H,ZH!,⟨s.toks+1,jp BG C8!⟩,q⟩
 .have⟨its,r',pl,hz⟩:=ci!;show C3?;show len_tuple pl (by simp only[BG]<;>lia) ⟨T! Xt!,H,ZH!,⟨s.toks+1,jp BG C8!⟩,q⟩
inductive Jam(xs:C!)(H:Hp)(Q:VK):B!
 | mk z (_:JD8) (_:z.length<=sizeLine) (_:QD! MG!)
def Jo:aQ! "len" Jam:=by show X?;have⟨z,rfl,hz,q⟩:=h;show CK?;have hn:=Qa;show len_str (Int.not_le.mpr (FD (MC! hz) (G6! hn))) (NU! (T! MG!))
def IE.or(h:IE X f r)(h':IE X f r'):IE X f (λxs H Q=>r xs H Q\/r' xs H Q):=by
 intro AB s σ H xs us Q I rs q;show BB? q;.show h AB s σ H xs us Q I rs q
 .show h' AB s σ H xs us Q I rs q
inductive Yv(K:W.Frag)(xs:C!)(H:Hp)(Q:VK):B!
 | mk p ys (_:nK!) (_:((JH3/\JOa (PO! l FB ys))\/(Dp! p ys/\GC! p H)))
def Ek{X:E!}:IE X (BR! Er!) (Yv Kx):=by
 show X?;have⟨p,ys,rfl,h⟩:=h;show Aw?;show H?;rcases h with⟨hq,q⟩|⟨hq,q⟩;.show Gt?;show C3?;show call_tuple_list KI! (λh' kp=>?_) (by simp only[BG]<;>show hlen▸hz);show JB? kp;have I2:HS! (PO! gD! FB ys) (kK! h'.push CH!) :=rs! C7! NG! (Om! (EX Bm! X.w _ _ _ (FB ys)) ⟨hz,As!,r',l8!⟩);show⟨h! gD!,_,I2,A!,q _ xY!⟩
 .have⟨its,r',pl,hz⟩:=ci!;show call_tuple_same pl (WS! DF!)
abbrev vj(K:W.Frag)(T:String)(x:V)(H:Hp):B!:=match x with
 | .str _=>T=IU!
 | .int _=>T=G3!
 | .ref p=>(T=B4!/\∃xs,dI!)\/(T=Er!/\∃o,md! Ob!/\bX!/\tf!) \/
  (T=DZ!/\((∃kvs,JEO)\/∃kvs,PM! p wv Db))\/(T="set"/\HK λS n=>Pn! (.set S n))
 | _=>False
def Jns{X:E!}(I:I!)(r:LC!)(ty:vj Kx T x H) : f8! v T/\∀a,Qi!->∃ob,cZ! ob/\ob.dict=none:=by cases x with | str z =>show Cv?;cases (show T=IU! from ty);show⟨typeIs_str s z t,λ_ e=>XM!⟩ | int i =>show Cv?;cases (show T=G3! from ty);show⟨typeIs_int s i t,λ_ e=>XM!⟩ | ref p =>cases r;rcases ty with⟨rfl,xs,hq⟩|⟨rfl,o,hk,hc,hd⟩|⟨rfl,hk⟩|⟨rfl,S,n,hk⟩;(.have⟨its,_,pl,_⟩:=Fp! hq;show⟨pl.isList.typeIs,λa e=>?_⟩;cases e;have⟨o,n,e,c,hd,_⟩:=pl;show⟨o,e,hd⟩);(.show⟨Ea! (Es! p o hk) hc,λa e=>?_⟩;cases e;show⟨o,Es! _ o hk,hd⟩);(·(have z:∃o,md! Fm!/\o.ExactDict:=by rcases hk with⟨kvs,hk⟩|⟨kvs,hk⟩;(.have⟨_,_,_,_,o,_,_,e,ex,_⟩:=JJT;show⟨o,e,ex⟩);.have⟨_,_,_,_,o,_,_,e,ex,_⟩:=JJT;show⟨o,e,ex⟩);have⟨o,e,ex⟩:=z;show⟨m3! ex.1,λa e2=>?_⟩;cases e2;show IM?);.have⟨o,_,_,_,e,ex,_⟩:=JJT;show⟨m3! ex.1,λa e2=>?_⟩;cases e2;show IM? | _=>show XY! ty
inductive Jz1(K:W.Frag)(T:String)(r:Rp!)(x:V)(H1:Hp)(Q:VK):B!
 | mk  (e0:vj K T x H1) (e1:r x [] H1 Q)
abbrev J0g(K:W.Frag)(T:String)(r:Rp!)(to:TE):TE:=ZO! to (Jz1 K T r x H1 Q)
inductive J19(K:W.Frag)(T:String)(r:Rp!)(t:TA)(σ:St)(x:V)(H1:Hp)(Q:VK):B!
 | mk  (e0:vj K T x H1) (e1:FK! t (λxs H2=>r x xs H2 Q))
abbrev tBM(K:W.Frag)(T:String)(r:Rp!)(to:TE)(t:TA):TE:=ZO! to (J19 K T r t σ x H1 Q)
variable {o e:Expr}{es:List Expr}{to:TE}{t:TA}{name:Str}{apos IX:Pos}{T id:String}{r:V->List V->Hp->VK->Prop}
def P0{X:E!}(pa:PlainAttrs T)(slot:Slot T A4! id)(eO:typeOf (G2! id)=BU! (BR! "method_descriptor"))(hm:uD X id r)(ho:CS! o to)(dY:sp! A4!:=by rfl)(dX:mI!:=by rfl):xq! A4! [] (J0g Kx T r to):=by show M?;show wpAny_Call_method0_late dY dX JSt;rintro v s1 ⟨x,H1,I1,r1,ty,q1⟩;show U? (Jns I1 r1 ty);show⟨T,id,pa,slot,eO,h1,h2,HC A! (PySem.evalArgs_none (hm AB s1 σ H1 x [] v [] Q I1 r1 R! q1))⟩
def F4{X:E!}(pa:PlainAttrs T)(slot:Slot T A4! id)(eO:typeOf (G2! id)=BU! (BR! "method_descriptor"))(hm:uD X id r)(ho:CS! o to)(ha:N6!)(dY:sp! A4!:=by rfl)(JBK:AU! ((L8! IX (Fn! (e::es) SL)).all (λx=>! Ag!)&&JNQ && Aa! ((e::es).length+wj! w9!+(JOV 1)<30)):=by rfl)(dX:mI!:=by rfl)(hs:L1!:=by rfl)(aP:wT (ci (L8! IX (Fn! es SL)).any):=by rfl) : xq! A4! ZD! (tBM Kx T r to t):=by show M?;show wpAny_Call_method_late dY JBK dX A! JSt;rintro v s1 ⟨x,H1,I1,r1,ty,q1⟩;show U? (Jns I1 r1 ty);show⟨T,id,pa,slot,eO,h1,h2,?_⟩;have hA:=ha IX AB s1 σ H1 _ I1 q1;rw[hs] at hA ⊢;show HC (by change Ad! (false || ci (L8! IX (Fn! es SL)).any);rw[aP]<;>rfl) (HU ?_);show FO hA λus s2 ⟨vs,H2,I2,r2,q2⟩=>hm AB s2 σ H2 x vs v us Q I2 r1 r2 q2
open E
abbrev jB(X:E!)(id:String)(r:Rp!):B! :=
 ∀(AB:x!)(s:Shared)(σ:St)(H:Hp)(x:V)(xs:C!)(v:Value)(us:k!)(Q:VK),od! Ek! (r x xs H Q ->
  Gp! (ii! id (v::us)))
def Vals.one{x:V}{us:k!}(h:TY! [x]):∃u,us=[u]/\Jg!:=by cases h with|cons r t=>show DX? t r
def Vals.two{x y:V}{us:k!}(h:TY! [x,y]):HK λu v=>us=[u,v]/\Jg!/\FB! y v:=by cases h with | cons r t=>cases t with | cons q t=>show Hf? t r q
def Vals.zero:∀{us:k!},TY! []->us=[]
 | _,.nil=>rfl
def Vals.dropLast(h:Ek!):Gw! xs.dropLast us.dropLast:=by induction h with | nil=>show R! | cons r t ih =>cases t with | nil=>show R! | cons q t'=>show BM? r
def Jjc(l:Q!):l.eraseIdx (l.length-1)=l.dropLast:=Qy!
open S
variable {X:Cx Kx}{AB:List (Addr×Obj)}{σ:St}{H:Hp}{s:Shared}{l b:Addr}{xs ys zs:List V}
def Inv.hG{its its':k!}{n:Nat}{f:BP!->BP!}{t':Nat}(I:I!)(hH:Rn!)(e:JE7 JKu)(hf:f CH!=its'.toArray)(hv:Gw! ys its')(hz:ys.length<=sizeLine) : HS! (PT! l ys) { s with heap:=Op! l (Xu! f),toks:=t' }:=by have q:=PySem.IsL.update e f;rw[hf] at q;show I.write (x:=l) (e:=l) (KE hH CM!) Ht! (λb' u hb hu=>(CG Go (Xu! f) i3!).trans hu) (Bq! q) ?_;show⟨hz,its',_,hv,q⟩
def Inv.hJ(I:I!)(hv:Gw! ys As!)(hz:ys.length<=sizeLine) : HS! (PT! Uf ys) { s with heap:=JMp CH!,toks:=t' } :=I.laid (y3!) CC! ⟨hz,As!,0,hv,Cu!⟩
def Inv.fresh(I:I!):A7! Uf:=Tm! XX!
def Inv.XZ(I:I!)(hH:Rn!):Fj!/\HK λ(its:List Value)(n:Nat)=>Wa!/\xs.length=its.length/\JE7 JKu:=by have⟨z,its,n,r,e⟩:=Au! l _ hH;show⟨z,As!,n,r,Xl!,e⟩
def Jgp(h:n<=sizeLine):wT (uC! n):=by unfold Builtin.List.listTooLong;show AL (CQ.mpr h)
open E
open S
variable {X:Cx Kx}
inductive Jro  (x:V) (vs:C!) (H:Hp) (Q:VK):B!
 | mk (l xs y) (e0:Un!) (e1:vs=[y]) (e2:Rn!) (e3:xs.length<sizeLine) (e4:JJE (xs++[y]))
abbrev Jsn:Rp!:=λx vs H Q=>Jro  x vs H Q
def Fm:jB X "list.append" Jsn:=by show Ab?;have⟨l,xs,y,rfl,rfl,hH,hz,q⟩:=h;show H?;show Bm?;show CM?;show IT? F.slot_list_append F.entry_list_append F.args_list_append_2 (PySem.list_append l CH! n u (cA! (hl▸(A_ hz)))) (Bv! e);show⟨Av!,_,JKZ (its++[u]) (r.append (SC ru R!)),A!,q⟩;rw[ZE,FY];lia
inductive Jsm(x:V)(vs:C!)(H:Hp)(Q:VK):B!
 | mk l b xs zs (_:Un!) (_:vs=[B9!]) (_:Rn!) (_:PY! b zs) (_:yr!) (_:JJE (xs++zs))
def Jbb:jB X "list.extend" Jsm:=by
 show Ab?;show Fz?;show H?;show Bm?;cases ru;show CM?;have⟨z2,R_,n2,r2,eT,e2⟩:=I.XZ hB;have hsz:B5! gE!:=by rw[BG,BG];lia
 have dW:¬AU! (tn!&&uC! (gE!)):=Dq! (Jgp hsz) uD! AO
 show IT? F.slot_list_extend F.entry_list_extend F.args_list_extend_2 (AutoSeq1.list_extend_list_list_0 l CH! n b R_.toArray n2 dW (cA! (AA EU! (hl▸hz))) (Td! hsz)) (Hy! e e2);show⟨Av!,_,JKZ (its++R_) JLR,A!,q⟩;rw[ZE];show hz
inductive J08(x:V)(vs:C!)(H:Hp)(Q:VK):B!
 | mk l xs y (_:Un!) (_:vs=[]) (_:Rn!) (_:xs[xs.length-1]?=D! y) (_:Q y (PT! l xs.dropLast))
def Jp3:jB X "list.pop" J08:=by
 show Ab?;have⟨l,xs,y,rfl,rfl,hH,hy,q⟩:=h;show H?;have tF:=rv.zero;subst tF;show CM?;have⟨u,hu,ru⟩:=r.get hy;have lg:its.toArray[its.toArray.size-1]?=D! u:=by change its.toArray[its.length-1]?=D! u;rw[<-Array.getElem?_toList,<-hl];show hu
 show SK F.slot_list_pop xM! F.entry_list_pop (F.args_list_pop_1 _) (MeetsSeq.list_pop_last l CH! n u lg (cA! (hl▸z))) (Bv! e);show⟨y,_,I.hG (its':=its.dropLast) hH e ?_ r.dropLast ?_,ru,q⟩;.change its.toArray.eraseIdxIfInBounds (its.toArray.size-1)=its.dropLast.toArray;rw[BG,List.eraseIdxIfInBounds_toArray,Jjc]
 .rw[List.length_dropLast];show AA (AC! Nat.sub_le) z
inductive J1g(x:V)(y:V)(H:Hp)(Q:VK):B!
 | mk l b xs zs (_:Un!) (_:Uo!) (_:Rn!) (_:PY! b zs) (_:yr!) (_:Qe! (hk! (xs++zs)))
def Jpm:WF! .Add J1g:=by
 show p?;show Fz?;show H?;cases ry;show CM?;have⟨z2,R_,n2,r2,eT,e2⟩:=I.XZ hB;show PySem.P.add_list e e2 ?_ (P9! BG BG (AA (MM (BM hl.symm) (BM eT.symm)) hz));have ea:its.toArray++R_.toArray=(its++R_).toArray:=sK
 rw[ea];show⟨h! _,_,I.hJ (t':=C7!) JLR (KE ZE hz),A!,q _ I.fresh⟩
open E
open S
open E
open S
variable {X:Cx Kx}
open E
open E L2
open N Att
open PySem PySem.W PySem.Calls PyProof.Rows
def Rt:∀(ns:At)(vs:k!),WellAll P h vs (CL! WData.int)->WD!:=by intro ns;induction ns with | nil =>intro vs w;rw[GN] at w;cases w;show R! | cons n ns ih =>intro vs w;rw[AI] at w;cases w with | cons a b =>cases a;show L! SC (ih _ b)
def Jl0{l:OpenLaw}{n:Nat}(hn:JI4){P:Params}{h:Heap}{args:Gv! WData}{vals:k!}(hZ:Cw! l.row.toRowW.claim.pre D9!)(xA:WellAll P h vals D9!) : NM λa vs ns=>vals=[ZE!]/\args=[WData.list (CL! WData.int)]/\JV! fK!/\WD!/\gF!:=by
 have hsh:y! (WShape.hasAll [] D9! [IZ! V!]):=(pre_splitW hZ).1;have hc:CA! l.pre.holds [] { args:=args }:=(pre_splitW hZ).2;have⟨d,r,rfl,h1,h2⟩:=hasAllW_cons hsh;obtain rfl:=hasAllW_nil h2;have⟨xs,rfl,h3⟩:=hasW_list h1;have⟨ns,rfl⟩:=items_int h3;have hlen:gF!:=by unfold OpenLaw.pre at hc;(have h4:CA! (WTm.not (.lt (.lit (V! DN!)) (.len (.arg 0)))).holds [] { args:=[IZ! (CL! V!)] }:=by have h4:=(holds_andW hc).1;rw[hn] at h4;show h4);have h5:=condW_of h4 (w_not (w_lt w_lit (w_len_list (w_arg A!))));rw[ZA] at h5;show Nat.le_of_not_lt λq=>?_;(have q':DN!<Bb! ns.length:=X!);first | (rw[AR q'] at h5;show JCU h5) | (simp at h5;lia)
 cases xA with | cons w1 w2 =>cases w2;cases w1 with | list ho JBT=>show⟨_,_,ns,A!,A!,ho,Rt ns _ JBT,C8!⟩
def Jl7(l:OpenLaw)(args:Gv! WData):y! (l.row.toRowW.claim.post D9! JG2 D9!) :=postW_of (r:=l.row.toRowW) (X:=(true==true)) (show y! (WShape.has [] JG2 Cg!) by first|rfl|decide|simp[WShape.has,WShape.arms,WShape.armsAll]) (show(WTm.eq .res (.lit (Cg! q!))).value [] { args:=args,res:=HU! Cg! q!,after:=args }=D! (Cg! (true==true)) from w_eq_bool (w_res A!) w_lit) A!
def YF{l:OpenLaw}{n:Nat}{q:Program}{loose:AC}{XP:JFK}{YP:JFJ}{d:DefRec}(hn:JI4)(oV:y8!)(call:∀(w:World) (JK EZ:Shared) (mg mb:sw) (fa:Addr) (o:Obj) (pm cd doc:Value) (a:Addr) (vs:k!) (ns:At),Ground q loose [] XP w JK mg mb KQ!->YP w KQ! -> TX! Xv! fa->o.data=.func (docDef d.name d.params d.body d.scope pm cd doc)->EZ.heap.CodeRec cd d.name->JKj (Ha! Xv! fK!->WD!->gF!->EZ.gens=#[] -> Og! (model l.prog w) Oq! JN3 (tK!) EZ)) : JRb WalkO:=by intro w JK EZ mg mb G Y fa o pm cd doc dV kV ho hd TH hD hmg hg args vals as hZ JVy hrd xA hlo;obtain rfl:dV=IR:=Dflts.none hD oV;obtain rfl:kV=IR:=Dflts.noKw hD;have⟨a,vs,ns,rfl,rfl,kU,hints,hlen⟩:=Jl0 hn hZ xA;show enter_call (p0! (call w JK EZ mg mb fa o pm cd doc a vs ns G Y ho (fd_plain hd) TH hmg kU hints C8! hg));have⟨rfl,h2,h3,h4⟩:=hq;show⟨GE ⟨mP!,mP!,[],A!,G4!,mP!,Jl7 l _,λ_=>⟨List.Pairwise.nil,λ_ hm=>(nomatch hm)⟩⟩,h2,h3,h4⟩
open S
variable {prog:Program}{w:World}{A:Around}{E:Value->Shared->Prop}{s:Shared}{K:Frag}
abbrev ledger(h:Heap)(L d:Addr):x!:=(At! SI!).filterMap λa=>if a=L\/a=d then none else JLu a (a,o)
open E
open E Att
open N L2
open PySem PySem.Spec PyProof.Rows
def Jar{vs:k!}{ns:At}(p:WD!):Gw! (CL! wp) vs:=by induction p with | nil=>show R! | cons n t _ ih=>show BM? dQ!
abbrev uI(H:Hp):B!:=∀b,An!\/HK λo xs=>Yy! JMP
def Jqa{P:Program}{w:World}{K:W.Frag}{mg mb:sw}{CX:bV}{k:Nat}{fa a:Addr}{fd:FuncData}{x:Str}{sp:Sp}{EZ:Shared}{vs:k!}{ns:At}(KX:K.In KQ!)(hns:QP! uE!)(hb:uE! builtinsNs mb)(hbb:∀x:Str,Ul!->mb x=fo! x)(JBJ:EZ.heap.NoLimit)(hg:EZ.gens=#[])(ha:Ha! Xv! fK!)(hi:WD!)(hl:ns.length<=sizeLine)(hr:DW k Oq!)(F:s1! (K.In AW!) P K CX k [x] sp)(rQ:JK4 [(x,u)])(bM:∀H:Hp,uI H->JHh->sp JT! H (λv _=>yM!) SP!)(xi:∀H e s',CX [] H EZ (SP!) e s'->Or!) : JGB Oq! JN3 tK! EZ:=by
 have rv:=Jar hi;have JA4:=hi.length;have core:∀H:Hp,uI H->JHh->PQ P w H KQ!->(∀b,H b≠none->b=a)->(H a≠none->Ab! Ob! a) -> Og! jN! Oq! JN3 (tK!) EZ:=by intro H hO hS EI hA hK;have bC:∀{b:Addr} {o:Obj},GA! Xv!->An!->GA! (gp KQ! H).get?:=λe n=>Jqi e n;(have oF:∀{b:Addr} {o:Obj} {es:Fc!} {ep:Nat},GA! Xv!->NY!->An!:=λ{b o es ep} e d=>by cases q:H b with | none=>rfl | some u =>have e':b=a:=hA b (Vp! q);subst e';rw[ha] at e;cases e;have d':Data.seq KO! _=Data.dict es ep:=d;cases d');have sS:∀{b:Addr} {m:sw},uE! b m->(gp KQ! H).Ns b m:=λ{b m} ⟨o,es,ep,e,d,r⟩=>⟨o,es,ep,bC e (oF e d),d,r⟩;have hKb:K.In (gp KQ! H):=Cf! (bC (JK! KX) (by cases q:H b with | none=>rfl | some u =>have e':b=a:=hA b (Vp! q);subst e';rw[JDq hK q] at e;cases e));have hM:Mod K mg (gp KQ! H):=⟨hKb,sS hns,⟨mb,sS hb,hbb⟩,let⟨mc,h1,h2⟩:=JBJ;⟨mc,sS h1,h2⟩⟩;have e0:YA P w K mg (gp KQ! H) Oq! [] EZ H:=⟨A!,hM,Cf! (Js8 e),BM (AC! Jmz),CM!,ut (mT! (show JKv from hb)),EI,.of_eq hg⟩;show I_ ((F _ hKb (sS hns)).run Oq! [] EZ H (Hl! JT!) JT! JT! _ _ hr e0 (rQ EZ Bf!) (LJ! A!) (bM H hO hS)) λr s' h=>?_;cases r with | error e=>show(xi H e s' h).elim | ok fl =>cases fl with | next=>show Dy? | brk=>show Dy? | cont=>show Dy? | ret u =>have⟨v,H',os,bare,un,JBG,r',q⟩:=h;have q':yM!:=q;subst q';obtain rfl:u=KD! q!:=r';show⟨A!,OldK.of_keep LP!,os,bare⟩;cases q:H b with | none=>show un.keep b o e q (by intro z;show mT! (show JKv from z)) KB | some u =>rcases hO b with z|⟨ob,xs,z⟩;(.rw[q] at z;cases z);.have z2:=un.PV b ob _ z;have⟨e1,_⟩:=EI b _ z;have⟨e2,_⟩:=JBG b _ z2;rw[e] at e1;cases e1;show e2
 cases hk:Ob! a with | some o =>have e:=KX a o hk;rw[ha] at e;cases e;show core (Oh!) (λ_=>Q6!) (Bc! ⟨_,KO!,_,hk,A!,A!,A!,Dq! BG JA4 hl,by simpa using rv⟩) (λb u z=>by have z':(KM:HV! HO)=D! u:=z;cases z') (λb z=>AJ! A! z) λz=>AJ! A! z | none =>show core (λb=>Tn! (b=a) (.IQ fK! (EO! CL! wp))) (λb=>?_) (S! (d! ⟨fK!,BG!⟩)) (λb u z=>?_) (λb z=>?_) λ_=>hk;(.show CH?;(.show L? (BM! _ (AE hb)));.show S! (AD hb));(.show CH?;(.have z':=(AE hb).symm.trans z;cases z';subst hb;show⟨ha,CY! hl,vs,_,rv,ha⟩);.have z':=(AD hb).symm.trans z;cases z');.show CH?;(.show hb);.show GO! AD hb z
@[reducible]abbrev KOf{K:W.Frag}{h:Heap}(_:b2!):W.Frag:=K
def iK{l:W.OpenLaw}{n k:Nat}{q:Program}{loose:AC}{XP:JFK}{YP:JFJ}{d:DefRec}{K:Params->W.Frag}{CX:World->bV}{sp:World->Sp}{x:Str}(hn:JI4)(ij:n<=sizeLine)(oV:y8!)(hr:DW k Oq!)(hY:∀(w:World) (h:Heap),YP w h->lT!)(F:∀(w:World) (mg:sw) (fa:Addr) (h:Heap),lT!->QP! h.Ns->JKj (uF! ((JK4 [(x,u)]) /\ s1! ((K w.params).In AW!) l.prog wU! (CX w) k [x] (sp w))))(bM:∀(w:World) (H:Hp) (a:Addr) (ns:At),gF!->uI H->DZ wU! H a (CL! wp)->sp w JT! H (λv _=>yM!) SP!)(xi:∀(w:World) (H:Hp) (s:Shared) (e:Value) (s':Shared),CX w [] H s (SP!) e s'->Or!) : JRb W.WalkO:=by show Att.YF hn oV λw JK EZ mg mb fa o pm cd doc a vs ns G Y ho hd TH hmg kU hints hlen hg=>?_;have KX:=hY w _ Y;have⟨fd,hb,hF⟩:=F w mg fa _ KX G.T.g hmg;show Jqa KX G.T.g G.T.b G.T.builtins G.T.nolimit hg kU hints (AA C8! ij) hr hF hb (λH hO hS=>bM w H a ns C8! hO hS) λH e s'=>xi w H EZ e s'
abbrev inClass(s:Stmt)(j:Nat):J!:=match s with
 | .ClassDef _ _ _ body _ _ _ _ _ _ _=>body.getD j (.Pass JOx)
 | _=>.Pass JOx
abbrev Pf(s:Stmt):Arguments:=match s with
 | .FunctionDef _ a _ _ _ _ _ _ _ _=>a
 | _=>{ posonlyargs:=[],args:=[],vararg:=none,kwonlyargs:=[],kw_defaults:=[],kwarg:=none,defaults:=[] }
abbrev G8(s:Stmt):bw!:=match s with
 | .FunctionDef _ _ b _ _ _ _ _ _ _=>b
 | _=>[]
abbrev Am(s:Stmt):Scope:=match s with
 | .FunctionDef _ _ _ _ _ _ sc _ _ _=>sc
 | _=>{ kind:=.function,names:=[],isGenerator:=false,isCoroutine:=false }
@[reducible]abbrev XM:bV:=λ_ _ _ _ _ _=>False
@[reducible]abbrev E0:XK:=SP!
def A9:Jp XM X E0:=λ_ _ _ _ _ _ _ h=>h.elim
structure HH(K:W.Frag)(x qual:Str)(st:Stmt)(f:Addr)(fd:FuncData):B! where
 ex:qB λ(oc:Value)(od:Option Addr)(kV:Value)(doc:Value)(pm:Value)(an:Option Addr)(EO:Value)=>HK λ(ct:Value)(eC:Array (Option Value)) =>
  fd=JS5 x (Pf st) RT! NT! IR/\JPi (.func fd)/\JPa
 kp:CA! SX! K NL!
open S
variable {P:Program}{w:World}{K:W.Frag}{mg:Str->Option Value}{base:Heap}
def HH.ok{x qual:Str}{st:Stmt}{f:Addr}{fd:FuncData}{N ps:AC}{k:Nat}{sp:Sp}(F:WX!)(S:sL!)(len:pM!)(UW:∀(EO:Value) (A:Around) (outer:Ca!) (s:Shared) (H:Hp) (vs:C!) (Q:VK) (E:XK),JKM JM4 (SW (v1! XM NT! EO).oE RT! t)):qQ! XM:=by show C4?;show Juy lk TH S len λA outer s H vs Q E hr bM=>?_;have⟨t,h,q⟩:=UW EO A BV! s H vs Q E hr bM;show⟨t,h.oE,q⟩
abbrev Bd(P:Program)(w:World)(K:W.Frag)(mg:sw)(base:Heap)(CX:bV)(b:Bool)(N ps:AC)(qual:Str)(st:Stmt)(f:Addr)(k:Nat)(vs:C!)(H:Hp)(Q:VK)(E:XK):B! :=
 f2!/\∀(EO:Value)(A:Around)(outer:Ca!)(s:Shared),xr! JM4 ->
  JUQ (SW (bif b then(v1! CX NT! EO).oE else JEr CX NT!) RT! t)
def HH.KD{x qual:Str}{st:Stmt}{f:Addr}{fd:FuncData}{N ps:AC}{k:Nat}{sp:Sp}(F:WX!)(S:sL!)(h:JSp (Bd P w K mg AW! XM q! N ps qual st f k vs H Q E)):qQ! XM :=F.ok S (λvs H Q E z=>(h vs H Q E z).1) λEO A outer s H vs Q E hr z=>(h vs H Q E z).2 EO A BV! s hr
def HH.binds{x qual:Str}{st:Stmt}{f:Addr}{fd:FuncData}{ps:AC}(F:WX!)(h:∀(kV doc pm:Value) (an:Nj!) (EO ct:Value) (us:k!),yJ! (JN0 (JS5 x (Pf st) RT! NT! IR))):fF!:=by show C4?;show .all (h kV doc pm an EO ct)
open E
def Cp(hr:Rf!):N8!:=AF (IT (wP:1<=64) _) hr.units
def Bz(h:n<=1000):gG!:=nR!
open S
variable {X:Cx Kx}
def pv(i:Nat)(hN:Nt!:=by rfl)(hv:JGl:=by first|show Sf! A!|show Os! (Sf! A!)|show Os! (Os! A!))(hd:D1!:=by decide)(TH:Ad! (x==E7! "__classdict__"):=by decide):og! Bt i:=Jv9 hN hv hd TH
inductive Jju(xs:C!)(H:Hp)(Q:VK):B!
 | mk a kvs (_:xs=[T6!]) (_:Ri!) (_:QD! MB!)
def Qn:aQ! "len" Jju:=by show X?;have⟨a,kvs,rfl,ha,q⟩:=h;have⟨u,rfl,ru⟩:=vals1 r;cases ru;show Jzp I (Am! ha) λt s' I'=>⟨T! MB!,H,I',dQ!,q⟩
open E
def Bn{A B:B!}(h:B):if fx! then A else B:=JAH (AD AO)
def B3{A B:B!}(h:A):if true=true then A else B:=JAH BG!
def Io{c A B:B!}[Decidable c](h1:c->A)(h2:¬c->B):if c then A else B:=by
 by_cases h:c;.rw[Gd!];show h1 h
 .rw[ID!];show h2 h
abbrev BZ(H H':Hp):B!:=Ce! (Hf!->IE!)
def BZ.refl(H:Hp):EP! H:=λ_ _ h=>h
def BZ.seq{K:W.Frag}{H H':Hp}{a:Addr}{xs:C!}(e:XV)(h:Fe!):DZ K H' a xs:=by
 rcases h with(h|⟨o,h⟩)|h;show Ad? (NE e h)
 show Gm? (L! e h)
 show BR?
open S
variable {κ:Type}[DecidableEq κ]
def Gq:∀{l:Gv! κ} {k:κ},l.Nodup->¬k∈l->(l++[k]).Nodup
 | [],k,_,_=>sK
 | a::r,k,h,hk=>by show U? (IW! h);change(a::(r++[k])).Nodup;show MH! ⟨Qn!,Gq h2 λm=>hk (Xh! (Os! m))⟩;show BB? (ZI m);(.show h1 q);.show hk (Xh! (Sf! (Ec! ZK q)))
def Jna{p:κ×V}{r:By!}{k:κ}(e:g!=k):Dx (p::r) k=Dx r k:=by unfold Dx;rw[FF,AD (by simp[e])]
def Jb2{p:κ×V}{r:By!}{k:κ}(e:¬g!=k):Dx (p::r) k=p::Dx r k:=by unfold Dx;rw[FF,AE (by simp[e])]
def Xb:∀{kvs:By!} {k:κ},¬k∈ci Fu!->Dx Db k=kvs
 | [],_,_=>rfl
 | p::r,k,h=>by (have h':¬k∈ci r.map:=λm=>by show C5? Gg!;show np! ⟨q,Xh! (Os! hq),e⟩);rw[Jb2 λe=>np! ⟨p,Xh! (Sf! A!),e⟩,Xb h']
open E
open E L2
set_option maxHeartbeats 4000000
open N FX
open PySem PySem.Spec PyProof.Rows L2
inductive HY(K:W.Frag)(H:Hp):JHA
 | GB:T5! Av! IR
 | bl (b:Bool):am! (bv b) Cg! b
 | int (i:Int):T5! l3! l3!
 | str (x:Str):am! (bn x) bn x
 | BE {a:Addr} {xs:C!} {ds:LW!}:Dz!->xs.length=ds.length->(∀(j:Nat)(x:V)(d:PyData),lA! (ds[j]?=D! d) (T5! x d))->JGF MI! ds
inductive Rep(K:W.Frag)(H:Hp):JHA
 | one {x:V} {d:PyData}:T5! x d->JNb
 | BK {a:Addr} {xs:C!} {ds:LW!}:Fe!->JJs->Rep K H Bf! (IZ! ds)
def A6{xs:Q!}{ys:C1!}(p:J0!):∀(j:Nat)(x:α)(y:β),lA! (ys[j]?=D! y) (R x y):=by induction p with | nil=>intro j x y h;simp at h | cons r _ ih =>intro j x y h h';cases j with | zero=>cases h;cases h';show r | succ j=>show ih j x y h h'
def Ec{xs:Q!}{ys:C1!}(hl:xs.length=ys.length)(h:∀(j:Nat) (x:α) (y:β),lA! (ys[j]?=D! y) (R x y)):J0!:=by induction xs generalizing ys with | nil=>(cases ys with|nil=>show R!|cons=>cases hl) | cons x xs ih=>cases ys with | nil=>cases hl | cons y ys=>show SC (h 0 x y A! A!) (ih (uG! hl) λj=>h (j+1))
def HY.tupP{K:W.Frag}{H:Hp}{a:Addr}{xs:C!}{ds:LW!}(h:Dz!)(r:JJs):JGF MI! ds :=FB h (L4! r) (gH! (A6 r j x d e1 e2))
structure DH(H H':Hp):B! where
 BE:∀a xs,oC!->Pl! a FB xs
 IQ:∀a o u,GR! J5!->Ha! H' J5!
def DH.refl(H:Hp):DH H H:=⟨ta!,tb!⟩
def DH.trans(a:DH H H1)(b:DH H1 H2):DH H H2:=⟨λc xs e=>b.BE c xs (a.BE c xs e),λc o u e=>b.IQ c o u (a.IQ c o u e)⟩
def JX(s:XV):BB!:=⟨Xw! (s a _ e),λa o u e=>s a _ e⟩
def DH.sq{K:W.Frag}{H H':Hp}(k:BB!){a:Addr}{xs:C!}(h:Dz!):V7! H':=by
 show Gl?;show Ad? (k.BE a xs e)
 show Gm? (k.IQ a o _ e)
 .show L? z
def VP(h:∀o',Pn! o'->(∀xs,o'≠FB xs)/\∀b u,o'≠.IQ b u):DH H JEG :=⟨Xw! (by (have:a≠p:=λz=>by subst z;show(h _ e).1 xs A!);rw[Ad this];show e),λa b u e=>by (have:a≠p:=λz=>by subst z;show(h _ e).2 b u A!);rw[Ad this];show e⟩
def HY.keep{K:W.Frag}{H H':Hp}(k:BB!){v:V}{d:PyData}(r:HY K H v d):Jz! HY d:=by induction r with | GB=>show Av! | bl b=>show bv b | int i=>show V! i | str x=>show bn x | BE h hl _ ih=>show FB (k.sq h) hl (gH! (ih j x d e1 e2))
open S
def Q1{xs:C!}{us:k!}{ds:LW!}(p:Ek!)(hl:xs.length=ds.length)(f:∀(j:Nat) (x:V) (d:PyData),lA! (ds[j]?=D! d) (∀u,Jg!->JQF h)):∃as,ReadsAll h us ds as:=by induction p generalizing ds with | nil=>(cases ds with|nil=>show⟨[],R!⟩|cons=>cases hl) | cons r t ih=>cases ds with | nil=>cases hl | cons d ds =>have⟨as,r1⟩:=f 0 _ d A! A! _ r;have⟨bs,r2⟩:=ih (uG! hl) λj=>f (j+1);show⟨as++bs,SC r1 r2⟩
def HY.reads{X:E!}(I:I!)(r:HY Kx H v d):∀u,C3!->JQF Go:=by induction r with | GB=>intro u e;cases e;show⟨_,IR⟩ | bl b=>intro u e;cases e;show⟨_,Cg! b⟩ | int i=>intro u e;have⟨t,rfl⟩:=e;show⟨_,V! i t⟩ | str x=>intro u e;have⟨t,rfl⟩:=e;show⟨_,bn x t⟩ | BE h hl _ ih =>intro u e;cases e;have⟨its,rv,⟨o,ho,hc,n,hd⟩,_⟩:=Et! h;have⟨as,ra⟩:=Q1 rv hl (gH! (ih j x d e1 e2));show⟨as,MI! ho hc hd (by simpa using ra)⟩
def Rep.reads{X:E!}(I:I!)(r:Rep Kx H v d)(e:C3!):JQF Go:=by cases r with | one r=>show r.reads I u e | BK h p =>cases e;have⟨its,rv,pl,_⟩:=Fp! h;have⟨o,ho,hc,n,hd⟩:=pl.isList;have⟨as,ra⟩:=Q1 rv (L4! p) (gH! ((A6 p j x d e1 e2).reads I));show⟨_,IZ! ho hc hd (by simpa using ra)⟩
abbrev ao(d:PyData):B!:=xo! 40
inductive Jz5(K:W.Frag)(x:V)(y:V)(H:Hp)(Q:VK):B!
 | mk (d e) (e0:JNb) (e1:Rep K H y e) (e2:ao d) (e3:ao e) (e4:Z9! (KR! d e))
abbrev J1e(K:W.Frag):R2:=sr! Jz5
inductive Jz2(K:W.Frag)(x:V)(y:V)(H:Hp)(Q:VK):B!
 | mk (d e) (e0:JNb) (e1:Rep K H y e) (e2:ao d) (e3:ao e) (e4:dt! (! KR! d e))
abbrev J09(K:W.Frag):R2:=sr! Jz2
def zH{X:E!}(hu:dP!):JHW .Eq J1e:=by show p?;have⟨d,e,r1,r2,o1,o2,q⟩:=h;have⟨as,g1⟩:=r1.reads I rx;have⟨bs,g2⟩:=r2.reads I ry;show PySem.SeqAt.compareEq_reads g1 g2 o1.1 o2.1 (by have:=o1.2;lia) (WS! (bv _))
def Jpl{X:E!}(hu:dP!):JHW .NotEq J09:=by show p?;have⟨d,e,r1,r2,o1,o2,q⟩:=h;have⟨as,g1⟩:=r1.reads I rx;have⟨bs,g2⟩:=r2.reads I ry;show PySem.SeqAt.compareNe_reads g1 g2 o1.1 o2.1 (by have:=o1.2;lia) (WS! (bv _))
def Jqu(h:ao d):CA! KR! d d:=PySem.SeqAt.eqv_refl d v6
def jE(r:Rf!):Xk! 64<cLine:=r.units
open E
abbrev Js(p d:Addr):HO:=.ext λh=>h.IsValuesView p d
open S
def Jtj{kvs:By!}{vs:lN!}(p:FU!):VY! Fu! CI! Sb! CI!:=py! Jyk r.2
def P8:uD X "dict.values" (λx xs H Q=>HK λd kvs=>x=JO!/\xs=[]/\dT!/\Qe! (Zx! Lu!)):=by intro AB s σ H x xs v us Q I rx rs h;have⟨d,kvs,rfl,rfl,hd,q⟩:=h;show H?;cases rs;have⟨z,lo,vs,rel,dd⟩:=uZ Au! hd;show PySem.call_meetsIn LM Fv! PySem.F.entry_dict_values (PySem.F.args_dict_values_1 _) (meets_dict_values Lt! d lo) (Bv! ⟨vs,dd⟩);show Ci?;show H6? (JUJ (Js Uf d) NG! ?_);have g:AT (IS! (aj! "dict_values" bd!)).get? Uf (aj! "dict_values" bd!):=Cu!;show⟨iJ! g,Bq! g,λh1 h2 ⟨o,e,r⟩ k=>JNA⟩
inductive Pp(xs:C!)(H:Hp)(Q:VK):B!
 | mk p d kvs (_:nK!) (_:Pn! Lu!) (_:dT!) (_:JOa (Km! l (EO! Fu! CI!)))
def Qm(hc:BK!):Re! B4! Pp:=by show X?;have⟨p,d,kvs,rfl,hp,hd,q⟩:=h;show Aw?;show H?;have⟨z,lo,vs,rel,dd⟩:=uZ Au! hd;have⟨ep,da⟩:=dd.dictAt;have hv:s.heap.IsValuesView p d:=pt! p hp;show W.kdl_call (W.kdl_values (knd:=Bp Bm! X.w) (r:=p) (d:=d) (Db:=vs) (ep:=ep)) Lw! ⟨hv,da⟩ (Q9! Xq!) λh' tk kg c' kp e ha=>?_;show Ci?;have e1:kg.toList=Sb! CI!:=W.kdl_vals_eq kg.toList (KE DY ha.1) λj v hj=>ha.2 j v (A0! Array.getElem?_toList hj);show H6? (I.laid (t':=tk) kp CC! (Om! (c4! _ _ (EO! Fu! CI!)) ⟨CY! z,kg.toList,c',?_,bv!⟩));rw[e1];show Jtj rel
open E
open S
open E
def Ai(hp:Kv!):EP! JEG:=OR! (vl! (Ak e hp))
def Ah(a:VG!)(b:ed!):FJ!:=λc o h=>b c o (a c o h)
def C3(e:XV)(h:Ab! H' l):P5!:=by cases q:H l with | none=>rfl | some o=>show Az? (e l o q)
def Jdg{xs:Q!}{ys:C1!}(j:Nat)(p:J0!):Hz! R (tU! j) ys.eraseIdx j:=Jv8 p j
def Ep{α β:UF}{R:Fg!}{x:α}{y:β}(r:R x y){xs:Q!}{ys:C1!}(p:J0!):XO! R (xs++[x]) (ys++[y]):=uL p (LJ! r)
def Ax{α β:UF}{R S:Fg!}(f:pK! (S a b)):∀{xs:Q!} {ys:C1!},J0!->Dm! S xs ys
 | _,_,.nil=>R!
 | _,_,.cons q t=>SC (NE f q) (Ax f t)
def Do(h0:0<=i)(h:xs[i.toNat]?=D! v):fA!:=by have:=Jt6 h;show BA? (BO h0)
def A4{α:UF}{xs:Q!}{j:Nat}(h:Se!):∃x,MF!=D! x:=⟨xs[j],List.getElem?_eq_some_iff.mpr ⟨h,A!⟩⟩
def Jyr(h:∀d∈ds,JHa):Cw! PyData.canLayAll0 ds/\PyData.depthAll ds<=20:=by induction ds with | nil=>show⟨by simp[PyData.canLayAll0],by simp[PyData.depthAll]⟩ | cons d ds ih =>have⟨a,b⟩:=ih (JI3 h);have⟨c,g⟩:=Go! d;show⟨by simp[PyData.canLayAll0,a,c],by simp only[PyData.depthAll];show uH! ⟨g,b⟩⟩
def Ou(h:∀d∈ds,JHa):ao (IZ! ds):=by have⟨a,b⟩:=Jyr h;show⟨by simp only[PyData.canLay0];show a,by simp only[PyData.depth];show ZV! b⟩
open S
open E
abbrev fB(K:W.Frag)(H:Hp)(a:Addr)(xs:C!):B!:=(∃o,GR! JMP)\/∀H':Hp,DZ K H' a xs
def fB.sq{K:W.Frag}{H:Hp}{a:Addr}{xs:C!}(h:JOm):Fe!:=Ot! (λ⟨o,e⟩=>JCi c1!) λz=>z H
def fB.keep{K:W.Frag}{H H':Hp}{a:Addr}{xs:C!}(h:JOm)(kt:BB!):fB K H' a xs:=Ot! (λ⟨o,e⟩=>GE (EW! (FS kt.IQ _ e))) λz=>cC!
def fB.of{K:W.Frag}{H:Hp}{a:Addr}{xs:C!}(hO:uI H)(h:Fe!):JOm:=by
 show Gl?;.rcases hO a with q|⟨o,ys,q⟩;(.show AH? q);.show AH? q
 .show E? c1!
 .show L? (λH'=>cC!)
open E FX
open N FX
open PySem PySem.Spec PyProof.Rows L2 PySem.Builtin PySem.Builtin.Str
def Jaq:∀{l:EN! (Str×Tok)},VY! JE9 AE! strValues l
 | []=>R!
 | (x,t)::r=>SC dQ! Jaq
def Th:∀{ys:AC} {us:k!},eM! BS! AE!->StrsAre us ys
 | [],_,.nil=>R!
 | y::r,_,.cons ⟨t,e⟩ q=>by cases e;show SC y t (Th q)
open S
variable {X:Cx Kx}
inductive Jv4(x:V)(vs:C!)(H:Hp)(Q:VK):B!
 | mk z y (_:kD!) (_:vs=[UV y]) (_:Ad! (y.length==0)) (_:B5! (z.length+2)) (_:JOa (Km! l (EO! (KS! z y).map AE!)))
def Jgy:jB X "str.split" Jv4:=by
 show Ab?;have⟨z,y,rfl,rfl,hy,hz,q⟩:=h;show T?;have⟨_,rfl,u,rfl⟩:=rv.one;have hle:=split_le z y;have fin:∀(l:EN! (Str×Tok))(k:Nat),aL!=KS! z y->EP X AB σ Q (IN Uf) { s with heap:=JMp (K2! strValues l),toks:=k }:=λl k e =>⟨h! _,_,I.hJ (t':=k) (ys:=(KS! z y).map AE!) (CZ! e Jaq) (Pa! (AA hle hz)),A!,q _ I.fresh⟩;have e2:B5! (partsBetween z (occurrences z y 0 MG! (zA!)) y.length).length:=by have:=StrLaws.occ_length_le z y 0 MG! (zA!);rw[len_partsBetween];show AF this hz
 have ar:=F.args_str_split_2 (bn z t) (bn y u);have en:=F.entry_str_split;by_cases h1:AU! (Aa! (z.length<y.length) || Aa! (strKind z<strKind y));.show SK uI! JDh en ar (meets_str_split_cannot_occur z y t u h1) (wn [(z,t)] C7! (Ec! AE h1))
 .have b_:=QY.mpr h1;by_cases hf:y! (occurrences z y 0 MG! (zA!)).isEmpty;(.show SK uI! JDh en ar (meets_str_split_not_found z y t u b_ hy hf) (wn [(z,t)] C7! ((AD h1).trans (AE hf)).symm));.show SK uI! JDh en ar (meets_str_split_sep z y t u b_ hy (QY.mpr hf) (AA EU! hz) e2) ?_;dsimp only [wants];rw[strsFrom_eq];show wn (numbered C7! _) _ ((numbered_texts _ _).trans ((AD h1).trans (AD hf)).symm)
inductive rJoin(K:W.Frag)(x:V)(vs:C!)(H:Hp)(Q:VK):B!
 | mk z l ys (_:kD!) (_:JDC) (_:DZ K H l (BS! AE!)) (_:(BS! (·.length)).sum+ys.length*z.length<=16777216) (_:mn! (Da! z ys))
def Sl{X:E!}:jB X "str.join" (rJoin Kx):=by show Ab?;have⟨z,l,ys,rfl,rfl,hl,hz,q⟩:=h;show T?;have⟨_,rfl,ru⟩:=rv.one;cases ru;have⟨its,r,pl,_⟩:=Fp! hl;show join_list KI! (Th r) hz λt' k=>JL0 (bn _) ?_;rw[Fr! (Txt.join z ys=Da! z ys) (StrLaws.glued_eq_join z ys)];show q
inductive Mz(xs:C!)(H:Hp)(Q:VK):B!
 | mk z (_:JD8) (_:mn! z)
def Fa:Re! IU! Mz:=by show X?;have⟨z,rfl,q⟩:=h;show CK?;show PySem.P.str_of_str (ie! T0! BN!)
open E
abbrev m8(z:Str):It:=U6! (λi _=>i<z.length) (∃c,gI!=D! c/\x=UV or!) (λi _=>z.length<=i)
def Jnu{P:Program}{w:World}{K:W.Frag}{tg:Expr}(z:Str)(t:Tok)(it:Addr)(ty:String)(eO:ty="str_ascii_iterator"\/ty="str_iterator"):XI! (m8 z) (h.IsStrIter it ty z t i) where
 mem:=FC.mpr A!
 obj:=MA! (by
  show A0?
  subst e
  show Cw?
  show⟨o,e,λv q=>JMV d⟩)
 keep:=λi h h' ⟨o,ho,r⟩ k=>Ea! (jZ! o ho) r
 item:=by
  show v?
  show e?
  have hx:gI!=D! (z.cps[i]'hg):=QP hg
  show o?
  have fin:JJc (h'.IsStrIter it ty z t (Aj!)) (∃u,AT D! (fl! ⟨#[z.cps[i]'hg]⟩ C7!) u/\vp! su! (JQr (m8 z).RU (s2.heap.IsStrIter it ty z t (Aj!)) (∀b∈[it],M1!)) E ys!):=λh' RV sb=>by
   show DJ? ys! (I.turned (Tq! xX!) f0 f1 f3 f4 f5)
   show Dc?
   show P? (Vn (s:=ys!) e c d ?_ (xt! (bn _) BN! ⟨A!,_,hx,A!⟩))
   rcases eO with rfl|rfl<;>decide
  show Gu?
  .show wpAny_pyNext_ascii_item st hx wn
  .show wpAny_pyNext_wide_item st hx wn
 done:=by
  show v?
  show e?
  show o?
  have hx:gI!=none:=TV hg
  show Gu?
  .show wpAny_pyNext_ascii_end Lw! st hx W5!
  .show wpAny_pyNext_wide_end Lw! st hx W5!
 self:=λ_ _ _ _ _ st h=>by
  show Gu?
  .show wpAny_pyIter_striter_ascii st h
  .show wpAny_pyIter_striter_wide st h
abbrev J1p(tl:TE):TI:=JTv (∃z,kD!/\R (m8 z) H1)
def Jv6{X:E!}{tg l:Expr}{tl:TE}(hl:WZ!):jb! (J1p tl):=by
 show AJ?;show A2?;rintro v s1 ⟨x,H1,I1,r1,z,rfl,q⟩;have⟨t,rfl⟩:=r1;have fin:∀ty,(ty="str_ascii_iterator"\/ty="str_iterator")->ya X AB σ tg R (IN KH!) (JK6 ty (#[bn z t,V! 0 0])):=λty eO=>by show⟨Gd?,_,_,H1,A!,JSi NG!,Jnu z t _ ty eO,wc!,GW!,q⟩;show BW? (b=s1.heap.objs.size);subst e;show xk! I1.fresh
 by_cases ha:Cw! z.cps.all (· < 128);.show wpAny_pyIter_ascii ha (wn _ Ht!)
 .show wpAny_pyIter_wide (QY.mpr ha) (wn _ (d! A!))
abbrev F5(c:Nat):A3!:=48<=c&&c<=57
abbrev numOf(l:Bh!):No:=l.foldl (λa c=>a*10+(c-48)) 0
abbrev yi(c:Nat):HV! No:=B3! (48<=c&&c<=57) (D! (c-48)) (B3! (97<=c&&c<=122) (D! (c-87)) (Xs! (65<=c&&c<=90) (D! (c-55))))
abbrev mU(c:Nat):A3!:=c==32 || (9<=c&&c<=13)
abbrev Ss(base:Nat)(p:Gj!×Bool)(c:Nat):ON! (Gj!×Bool) :=
 match p with
 | (ds,ad)=>if c==95 then(if ad then Ix (ds,am) else none) else match yi c with
   | some d=>Tn! (d<base) (ds.push d,q!)
   | none=>none
abbrev uf(base:Nat)(cs:Bh!):ON! (Array No):=(cs.foldlM (Ss AW!) ((#[]:Gj!),am)).bind λp=>match p with
 | (ds,ad)=>if ad then Ix ds else none
abbrev uM:Y5! Bh! No
 | 48::c::_=>j6! (c==120 || c==88) 16 (j6! (c==111 || c==79) 8 (Tn! (c==98 || c==66) 2))
 | _=>none
abbrev rn{α:UF}(inv:α)(tl:No->α)(bl:α)(val:Ch->α)(limit base:Nat)(text:Bh!):α :=
 let t:=text.dropWhile mU
 let(negative,t):=match t with
  | 45::r=>(q!,r)
  | 43::r=>Mx! r
  | _=>Mx! t
 let ap:=match t.drop 2 with
  | 95::r=>r
  | r=>r
 let(b,dg,t):=match uM t with
  | some p=>SW! (base==0 || base==p) (p,am,ap) (AW!,am,t)
  | none=>SW! (base==0) (10,t.head?==Ix 48,t) (AW!,am,t)
 match uf b (JK7 t.reverse.dropWhile) with
 | none=>inv
 | some ds =>
   if ![2,4,8,16,32].contains b&&limit != 0&&ds.size > limit then tl ds.size else
   if b==10&&ds.size > 6000 then bl else
   let n:=ds.foldl (λacc d=>acc*b+d) 0
   if dg&&n != 0 then inv else val (if negative then -DN! else n)
def Gj(h:y! (F5 c)):48<=c/\c<=57:=by simpa [F5] using h
def Jb0:∀(l:Bh!)(ds:Gj!)(ad:Bool),(kP!)->l≠[]->l.foldlM (Ss 10) (ds,ad)=D! (ds++(l.map (· - 48)).toArray,q!)
 | [],_,_,_,h=>Wv!
 | c::r,ds,ad,hd,_=>by show EY?;(have e:Ss 10 (ds,ad) c=D! (ds.push (c-48),q!):=by (have e1:Ad! (c==95):=by simp;show BN (AF b TD));(have e2:AT yi c (c-48):=by unfold yi;rw[AE (by simp;show⟨a,b⟩)]);change jF! (AU! (c==95))=_;rw[e1,e2];simp;lia);rw[List.foldlM_cons,e];change List.foldlM (Ss 10) (ds.push (c-48),q!) r=_;cases r with | nil=>simp | cons x r' =>rw[Jb0 (x::r') _ q! (Ia! (hd c (AH! hc))) KB];simp
def Jhp:∀(l:Bh!),(kP!)->l.dropWhile mU=l
 | [],_=>rfl
 | c::r,hd=>by show EY?;rw[List.dropWhile_cons,AD (by simp[mU];lia)]
def Jv1{α:UF}(inv:α)(tl:No->α)(bl:α)(val:Ch->α)(l:Bh!)(hd:kP!)(hn:l≠[])(h9:l.length<=9):rn inv tl bl val 0 10 l=val (G8! l):=by
 have⟨c,r,rfl⟩:=KL hn;show EY?;have e1:uM (c::r)=none:=by cases r with | nil=>unfold uM;split<;>simp_all | cons x r' =>have⟨a',b'⟩:=Gj (hd x KB);unfold uM;split;(.rename_i y _ e;injection e with _ e2;injection e2 with e3 _;rw[JJJ,JJJ,JJJ]);.rfl
 have e2:(match (c::r:Bh!) with|45::r=>(q!,r)|43::r=>Mx! r|_=>Mx! (c::r))=Mx! (c::r):=by split;(.rename_i e;injection e with e _;show Ct! (e▸a) TD);(.rename_i e;injection e with e _;show Ct! (e▸a) TD);.rfl
 have e3:uf 10 (JK7 (c::r).reverse.dropWhile)=D! (K2! (c::r).map (· - 48)):=by rw[Jhp _ (Ia! (hd c (List.mem_reverse.mp hc))),List.reverse_reverse];unfold uf;rw[Jb0 _ _ _ hd hn];simp
 unfold rn;simp only[Jhp _ hd,e2,e1];change(match uf 10 (JK7 (c::r).reverse.dropWhile) with|none=>inv|some ds=>_)=_;rw[e3];have xk:¬(((c::r).map (· - 48)).toArray.size > 6000):=by simp;simp at h9;show AA h9 TD
 simp only[bne_self_eq_false,Bool.and_false,Bool.false_and,DN,FZ,AL xk];congr 1;unfold numOf;simp[List.foldl_map]
def Js9:JRA "__int__":=JOk
def Jml:JRA "__index__":=JOk
def Jmk:JRA "__trunc__":=JOk
def Je4:∀(l:Bh!),(kP!)->l.takeWhile (λx=>x != 0)=l
 | [],_=>rfl
 | c::r,hd=>by show EY?;rw[List.takeWhile_cons,AE (by simp;show EU (B_ TD a)),Je4 r (Ia! (hd c (AH! hc)))]
def Va(z:Str)(t:Tok)(hd:kQ!)(h1:kR!)(h9:bf!):Meets (Builtin.«int.__new__» (Hl! [GB! G3!,bn z t])) (Made.int (G8! KP!)).spec :=Meets.of_wp λprog w A R s hs=>by show Fy?;have f1:=F.conv_sub_int;have f2:=F.madeHere_int;have hT:(Wk!:OS!).TypeIs (bn z t) IU!:=rfl;have f3:=Js9;have f4:=Jml;have f5:=Jmk;(repeat (any_goals (first|assumption|wp_step)));(have ha:y! (z.cps.all λx=>Aa! (x<128)):=by rw[<-Array.all_toList,N'];intro c hc;have⟨a,b⟩:=Gj (hd c hc);simp;show AF b TD);(have hl:uA!:=z7!);(have WB:z.cps.toList≠[]:=λe=>by rw[e] at hl;simp at hl;show I? h1 (qw! hl.symm));rw[AE ha,Je4 _ hd,AE (AA (hl▸h9) TD)];show BV?;have key:∀{α:UF} (inv:α) (tl:No->α) (bl:α) (val:Ch->α),rn inv tl bl val 0 10 KP!=val (G8! KP!):=λinv tl bl val=>Jv1 inv tl bl val _ hd WB (hl▸h9);dsimp only;split;(.rename_i h;show JOy);(.rename_i h;show JOy);(.rename_i h;have e:=(FM _ _ _ _).symm.trans h;injection e with e;subst e;simp only[NV,HW];(repeat (any_goals (first|assumption|wp_step)));all_goals first|show P? hs|trace_state);.rename_i h;show JOy
open S
variable {X:Cx Kx}
inductive Jao(xs:C!)(H:Hp)(Q:VK):B!
 | mk z (_:JD8) (_:kQ!) (_:kR!) (_:bf!) (_:Q (V! (G8! KP!)) H)
def Jem:Re! G3! Jao:=by show X?;have⟨z,rfl,hd,h1,h9,q⟩:=h;show CK?;show call_int_1 (Va z t hd h1 h9) (show(Made.int (G8! KP!)).post _ s from⟨A!,V! _,H,ZH!,BN!,q⟩)
open E
@[reducible]abbrev one(c:Nat):Str:=or!
def Jld{c:Nat}:∀{a b x y:Bh!},c∉a->c∉b->a++c::x=b++c::y->a=b/\x=y
 | [],[],_,_,_,_,e=>A8! bv!
 | [],d::b,_,_,_,hb,e=>by simp at e;show AJ! e.1 (λz=>JFM)
 | d::a,[],_,_,ha,_,e=>by simp at e;show AJ! e.1 (λz=>ha (by simp[<-z]))
 | d::a,f::b,x,y,ha,hb,e=>by simp at e;show U? (Jld (mZ! ha) (λz=>hb (AH! z)) e.2);show⟨jp e.1 h1,h2⟩
def D3(c:Nat)(a b:Str)(r:AC):(Da! (one c) (a::b::r)).cps.toList=a.cps.toList++c::(Da! (one c) (b::r)).cps.toList:=by change((a++one c++Da! (one c) (b::r))).cps.toList=_;rw[gJ!,gJ!,LH,LH];simp
def join_one(s a:Str):bM! s [a]=a:=A!
def N7{a b:Str}(h:a.cps.toList=b.cps.toList):a=b:=Str.ext' (Array.toList_inj.mp h)
def Jg8{c:Nat}:∀{ps qs:AC},ps≠[]->qs≠[]->(Xx! uJ!)->(∀p∈qs,uJ!)->Da! (one c) ps=Da! (one c) qs->ps=qs
 | [],_,h,_,_,_,_=>Wv!
 | _,[],_,h,_,_,_=>Wv!
 | [a],[b],_,_,_,_,e=>by rw[join_one,join_one] at e;rw[e]
 | [a],b::d::r,_,_,h1,_,e=>by show JY?;simp only[join_one,D3] at e;show Ct! (by rw[e];simp) (h1 a KB)
 | a::d::r,[b],_,_,_,h2,e=>by show JY?;simp only[join_one,D3] at e;show Ct! (by rw[<-e];simp) (h2 b KB)
 | a::d::r,b::f::t,_,_,h1,h2,e=>by show JY?;simp only[D3] at e;have⟨q1,q2⟩:=Jld (h1 a KB) (h2 b KB) e;rw[N7 q1,Jg8 KB KB (JI1 h1) (JI1 h2) (N7 q2)]
def Jn2(x y:Str):KS! x y≠[]:=λe=>by have:=split_pos x y;show CJ?;show BC?
def Tn{c:Nat}{ps:AC}(hn:ps≠[])(h:Xx! uJ!):KS! (Da! (one c) ps) (one c)=ps :=Jg8 (AC! Jn2) hn (StrLaws.split_free _ c) h (AC! StrLaws.join_split)
abbrev pT(z:Str):A3!:=z.cps.toList.all F5&&Aa! kR!&&Aa! bf! && !(Aa! (z.cps.toList.head?=Ix 48)&&Aa! (z≠"0"))
inductive Arg where
 | n (i:Int)
 | t (a b:Int)
abbrev Gm(z:Str):Cz!:=Xs! (y! (pT z)) (HU! G8! KP!)
abbrev Ji(z:Str):HV! Arg:=match JH1 with
 | [a,b]=>(Gm a).bind λi=>ER! Gm b (λj=>Arg.t i j)
 | _=>none
abbrev Jh(f:Bool)(z:Str):HV! Arg:=if f=true then ER! Gm z Arg.n else Ji z
abbrev Gh:FL!->AC->ON! (Gv! Arg)
 | f::fs,w::ws=>(Jh f w).bind λa=>(Gh fs ws).map λr=>a::r
 | _,_=>Ix []
abbrev FT:U5!:=[Ql! C9!,ya! AL!,ya! Db!,ya! Dc!,(Dd!,[true,false]),(Ch!,[true,true,false]),Ql! Ci!,Ql! AM!,Ql! Ew!,Ql! A6!,Ql! EB!,(Aw!,[false]),(BW!,[]),Ql! "found"]
abbrev Si(v:Str)(ws:AC):ON! (Gv! Arg):=match FT.lookup v with
 | none=>none
 | some fs=>Xs! uK! (Gh fs ws)
def Ja5:∀{fs:FL!} {ws:AC} (i:Nat) {f:Bool} {w:Str},fs.length=ws.length->fs[i]?=D! f->ws[i]?=D! w->Jh f w=none->Gh fs ws=none
 | [],_,i,_,_,_,h,_,_=>C0!
 | _::_,[],_,_,_,h,_,_,_=>C0!
 | f0::fs,w0::ws,0,f,w,_,h1,h2,h3=>by show Bl?;subst h1 h2;unfold Gh;rw[h3];rfl
 | f0::fs,w0::ws,i+1,f,w,hl,h1,h2,h3=>by simp at h1 h2 hl;unfold Gh;rw[Ja5 i hl h1 h2 h3];cases Jh f0 w0<;>rfl
structure iJ(z:Str):B! where
 d:kQ!
 n:z.cps.toList≠[]
 l:bf!
def Jqs{c:Nat}(h:y! (F5 c)):c≠32/\c≠46:=by have⟨a,b⟩:=Gj h;lia
def iJ.free(h:iJ z):32∉z.cps.toList/\46∉z.cps.toList:=⟨λm=>(Jqs (h.d _ m)).1 A!,λm=>(Jqs (h.d _ m)).2 A!⟩
def Jrb(a b:Str):(a++"."++b).cps.toList=a.cps.toList++46::b.cps.toList:=by rw[gJ!,gJ!,LH,LH];simp;rfl
def len_list(z:Str):z.length=z.cps.toList.length:=z7!
def Jkw:∀{l:U5!} {v:Str} {fs:FL!},AT l.lookup v fs->(v,fs)∈l
 | [],_,_,h=>C0!
 | (a,b)::l,v,fs,h=>by rw[IA] at h;cases e:v==a with | true =>show AC?;cases h;rw[Sd! e];show CT! | false =>show AC?;show ZD _ (Jkw h)
def Jkx{v:Str}{fs:FL!}(h:AT FT.lookup v fs):32∉v.cps.toList/\v.length<=6/\XP! 3:=by have:=Jkw h;simp only[FT,BU,CL,GY,Prod.mk.injEq] at this;rcases this with⟨rfl,rfl⟩|⟨rfl,rfl⟩|⟨rfl,rfl⟩|⟨rfl,rfl⟩|⟨rfl,rfl⟩|⟨rfl,rfl⟩|⟨rfl,rfl⟩|⟨rfl,rfl⟩|⟨rfl,rfl⟩|⟨rfl,rfl⟩|⟨rfl,rfl⟩|⟨rfl,rfl⟩|⟨rfl,rfl⟩|⟨rfl,rfl⟩<;>decide
def Jg9(s:Str):∀{a b:AC},a≠[]->b≠[]->Da! s (Ah!)=bM! s a++s++Da! s b
 | [],_,h,_=>Wv!
 | [x],b,_,hb=>by have⟨y,r,rfl⟩:=KL hb;rfl
 | x::y::r,b,_,hb=>by change x++s++Da! s ((y::r)++b)=x++s++Da! s (y::r)++s++Da! s b;rw[Jg9 s (a:=y::r) KB hb];simp only[Str.append_assoc]
open E FX
open N FX
open PySem PySem.Spec PyProof.Rows L2
def Pb(n:Nat):(t8! (fy! (Bb! n))).cps.toList=yI! Xy!:=by change(cpsOfBytes 0 0 _).toArray.toList=_;rw[List.toList_toArray,cpsOfBytes_string];congr 1;change(Nat.repr n).toList=_;unfold Nat.repr;simp
def Jhq{i:Int}(h0:0<=i)(h1:i<1000000000):iJ (t8! (fy! i)):=by
 have⟨n,rfl⟩:=Int.eq_ofNat_of_zero_le h0;show S? be! Um!;.rw[Pb] at hc;have⟨d,hd,rfl⟩:=ZN hc;have:=Nat.isDigit_of_mem_toDigits TD TD hd;simp only[Char.isDigit,HD,decide_eq_true_eq] at this;have⟨a,b⟩:=this;have a':48<=d.toNat:=a;have b':d.toNat<=57:=b;simp[F5,a',b']
 .rw[Pb] at e;have:=(Nat.length_toDigits_le_iff (b:=10) (n:=n) (k:=9) TD TD);(have:(uL! 10 n).length=0:=by rw[uM! e];rfl);show GO! uM! e (Nat.toDigits_ne_nil)
 .rw[Sg!,Pb,ZA];show(Nat.length_toDigits_le_iff TD TD).mpr (by change n<1000000000;show ED.mp h1)
def Jb5{prog:Program}{w:World}{A:Around}{R:ls!}{s:Shared}{elt target iter:Expr}{ifs:IB!}{scope:Scope}{pos:Pos}{it acc:Value}{env:Env}(J:JB6)(turn:∀k s0,J k s0->W2! (Xc! it) (λr s1=>match r with
  | none=>R (.ok .next) s1
  | some v=>W2! (letOwnedTupleGo Xa! it v) (λ_ sg=>W2! (SQ! Xa! env v) (λ_ s2 =>
   W2! (forIn ifs q! λc r=>if r=true then do let ok <-SN! c env (OF! c);BU! (gK! ok) else BU! (gK! r)) (λok s3 =>
    if ok=true then W2! (OF! elt) (λx s4 =>
     W2! (ii! "list.append" [acc,x]) (λ_ s5=>∃m,m<k/\J m s5) s4) s3
    else ∃m,m<k/\J m s3) s2) sg) s1) s0)(k:Nat)(h:J k s):sA! (.compLoop (JRo Xa! scope) 0 it acc env):=by
 show codeAny_loop A! J (λk s0 hI=>?_) k h
 change F9! _ A ((compTurn (JRo Xa! scope) 0 it acc env).onRaise (λx=>do noteFrame x env;theTreesLotGoes x)) _ _ s0
 have no:∀{E:Os} (e:Value) (s':Shared),Or!->notedBy PW! A env E e s':=λ_ _ z=>z.elim
 show wpAny_noted ?_
 rw[compTurn_list]
 show HR? (ZR (FH (G0! k s0 hI) (λr s1 h1=>?_) no))
 cases r with
 | none=>show ZS h1
 | some v =>
   show ZR (FH h1 (λ_ sg hg=>ZR (FH hg (λ_ s2 h2=>ZR (FH h2 (λok s3 h3=>?_) no)) no)) no)
   cases ok with
   | false =>
     simp only[DN,FZ] at h3 ⊢
     show ZS (A8! h3)
   | true =>
     simp only[HW] at h3 ⊢
     show ZR (ZR (FH h3 (λx s4 h4=>ZR (FH h4 (λ_ s5 h5=>ZS (ZS (A8! h5))) no)) no))
abbrev MF(X:E!)(sc:Scope)(cl:CF!)(C:Addr)(N:AC)(s1:Shared)(H1:Hp)(fp:Z!)(AB:x!):E! where
 prog:=X.prog
 w:=X.w
 mg:=X.mg
 base:=X.base
 A:=X.A
 N:=N
 JK:=s1
 UT:=H1
 env:=compEnvC sc cl C SL
 outer:=X.stack
 stack:=X.stack
 ex:=fp
 fn:=λ_=>false
 calm:=X.calm
 pn:=X.pn++AB
 xe:=KG!
abbrev HP(cells:CF!):JG! CF!
 | []=>True
 | (x,c)::r=>Tg! cells.lookup/\HP cells r
def HP.look{cells:CF!}:∀{cl:CF!} {x:Str} {c:Addr},HP cells cl->Tg! cl.lookup->Tg! cells.lookup
 | [],_,_,_,e=>k5!
 | (y,d)::r,x,c,h,e=>by rw[IA] at e;cases q:x==y with | true =>rw[q] at e;have e1:x=y:=Sd! q;cases e;rw[e1];show v6 | false =>rw[q] at e;show HP.look h.2 e
structure Ju5(X:E!)(sc:Scope)(cl:CF!)(p:Str×Nat):B! where
 n:X.N[pi]?=D! g!
 k:lC! SM! g!
 l:cl.lookup g!=tX! g!
 f:lC! hd! g!
abbrev JI(X:E!)(sc:Scope)(cl:CF!):JG! Cb!
 | []=>True
 | p::r=>Ju5 X sc cl p/\JI X sc cl r
def JI.at{X:E!}{sc:Scope}{cl:CF!}:∀{caps:Cb!} {j:Nat} {p:Str×Nat},Fh!->caps[j]?=D! p->Ju5 X sc cl p
 | [],_,_,_,e=>k5!
 | q::r,0,p,h,e=>by simp at e;subst e;show v6
 | q::r,j+1,p,h,e=>JI.at h.2 (by simpa using e)
@[reducible]abbrev Cg(caps:Cb!):AC:=caps.map λp=>g!
abbrev Bw(σ:L2.St)(caps:Cb!):L2.St:=caps.map λp=>(kU!).join
open S
variable {X:Cx Kx}{sc:Scope}{cl:List (Str×Addr)}{AB:List (Addr×Obj)}{σ:L2.St}{H1:Hp}{s1:Shared}{fp:List Addr}{N:List Str}
def Jrc(I:UC!)(hf:bb! H1)(ho:D7! (∃o,GA! uN!))(hk:GZ!)(KG:Fi!)(has:∀x,(wq! hd!\/lv! hd!)->∃c,Tg! cl.lookup):yk! N where
 mod:=I.ok.mod
 kind:=hk
 glob:=I.ok.glob
 blt:=I.ok.blt
 above:=Ao!
 inj:=λx y c e1 e2=>I.ok.inj x y c (KG.look e1) (KG.look e2)
 has:=has
 e_:=λx c e _=>by cases e
 hd:=I.ok.hd
 frames:=I.ok.frames
 fe:=Q6!
 YY:=ut ⟨λz=>by
  show Ap? (C5! ho)
  show BN (AU e) z,λx c e=>(hf b hb).2.2.2.2.1 x c (KG.look e)⟩
 bs:=Cf! (Jb! I.bs)
 ag:=AA I.ok.ag I.sz
 VQ:=Ib! (by
  rcases(hf b hb).2.2.2.1 with z|z
  .show FI! I.ok.VQ z
  .show Dt? (B_ (B_ (AU e) I.ok.ag) z))
 UR:=Sh! (by
  show BB? (ZM (I.WR b z))
  .show(hf b hb).2.1 q
  .show(hf b hb).2.2.1 q)
 OY:=I.stack
 cE:=ut (C5! I.UC)
def Jlh{ow:AC}{caps:Cb!}{h':Heap}{m:sw}{t':Nat}{o:Obj}(I:UC!)(ok:yk! P4!)(KG:Fi!)(LY:Fh!)(hn:h'.Ns KH! m)(hs:JEP (s1.heap.push o)) : Inv (xn! P4!) [] (f3! ow.length KM++Kl!) H1 { s1 with heap:=h',toks:=t' }:=by
 have kp:w0! (Kj! uN! u):=OR! (JOE IR!);have SX:JEv:=Tm! XX!;show⟨ok,A!,SL!,Un.kept kp,⟨m,hn,λi y v e1 e2 e3=>?_⟩,yh!,SX,yi! I.LC,Eb!,I.EI.kept kp,?_⟩;.have e1:(ow++Cg caps)[i]?=D! y:=e1;by_cases lt:i<ow.length;(.rw[LF! LA JW lt,List.getElem?_replicate,AE lt] at e2;cases e2);.have ge:ow.length<=i:=Nat.le_of_not_lt lt;rw[KI ge] at e1;rw[LF! KI JW ge,JW] at e2;generalize i-ow.length=j at e1 e2;have ju:=e1;have mJ:=e2;rw[ZH] at ju;unfold Bw at mJ;rw[ZH] at mJ;cases q:caps[j]? with | none=>rw[q] at ju;cases ju | some p =>rw[q] at ju mJ;have e4:g!=y:=ZO ju;have e5:(kU!).join=D! v:=ZO mJ;have hc:=LY.at q;(have e6:kU!=D! Vy!:=by cases z:kU! with | none=>rw[z] at e5;cases e5 | some w' =>rw[z] at e5;have:w'=Ix v:=e5;rw[this]);have⟨mm,tG,hl⟩:=I.loc;have⟨u,r,lk⟩:=hl pi g! v hc.n e6 (Tx! hc.k);show⟨u,r,o! (Bv! (xI! e4 hc.f))⟩;rcases lk with⟨k1,_⟩|⟨_,c,xX,ce⟩;(.have:hg! SM! g!:=k1;show N? hc.k;cases this);.have⟨oc,l7,hd⟩:=ce;show⟨c,JB0 e4 hc.l.trans xX,oc,L! kp l7,hd⟩
 .have⟨v,oc,l7,hd⟩:=OY! y c (KG.look e);show⟨v,oc,L! kp l7,hd⟩
 .show Ee?;rw[AM] at VW;have⟨a1,a2,a3,a4,a5⟩:=Zo! VW;show⟨L! kp a1,a2,BN (AU a1),GY!,a5⟩;show BB? (ZM (I.WR _ z));(.show a3 q);.show a4 q
 .change(f3! ow.length KM++Kl!).length=FQ! (ow++Cg be);simp[Bw]
def Jxh{x:Str}{caps:Cb!}{h':Heap}{m:sw}{t':Nat}{o:Obj}(I:UC!)(ok:yk! ZC!)(KG:Fi!)(LY:Fh!)(hx:hl! hd!)(hn:h'.Ns KH! m)(hs:JEP (s1.heap.push o)) : Inv (xn! ZC!) [] (none::Kl!) H1 { s1 with heap:=h',toks:=t' }:=Jlh (ow:=[x]) I ok KG LY hn hs
def Jlg{OZ:x!}{GA:L2.St}{H':Hp}{s':Shared}(I:UC!)(hf:bb! H1)(I':Inv (xn! N) OZ GA H' s'):QE! :=I.a8 (ch:=fp) I'.os I'.base I'.EI I'.bare (ut ⟨(hf b hb).2.2.2.1,(hf b hb).2.1,(hf b hb).2.2.2.2.1,(hf b hb).2.2.2.2.2⟩)
def Pl{H':Hp}{s':Shared}{h':Heap}{SO:L2.St}{sA:Shared}(I:UC!)(I2:Inv X AB SO H' sA)(hn:Ab! H' KH!)(hs:JEP sA.heap):Inv X AB SO H' { sA with heap:=h' } :=I2.turned (it:=KH!) (t':=sA.toks) (Tq! ((IR! b hb).trans e)) hn (EU I.lt) (Bc! I.sz) (λx c e z=>by have⟨v,q⟩:=eT!;show AJ! q.lt JHD) λp hp z=>by have:=AU (I.pin p hp).1;show N? z;show I? this aJ!
open E
abbrev cK(X:E!)(ifs:IB!)(t:TT):B! :=
 ∀(AB:x!)(s:Shared)(σ:L2.St)(H:Hp)(Q:Jf!),bO! (t σ H Q ->
  nM! (forIn ifs q! λc r=>if r=true then do let ok <-SN! c SL (Te! c);BU! (gK! ok) else BU! (gK! r)))
def De{X:E!}:cK X [] (H6!):=λAB s σ H Q I h=>wpAny_tests_nil ⟨H,I,h⟩
def Du{X:E!}{c:Expr}{t:TT}(h:PT X c t):cK X [c] t:=λAB s σ H Q I hw=>wpAny_tests_one (JGS Q hw)
abbrev p7(wi:TI)(caps:Cb!)(tt:TT)(te:TE):TE:=sP! (Hi! /\
 sx! (tt (JRh) H3 λb H4 =>
   if XZ! then nE! JRh
   else DW!))
abbrev Jvk(wi:TI)(bd:JFj JCP)(tt:TT)(te:TE):TE:=sP! (Hi! /\
 sx! (bd x H3 λτ=>tt τ H3 λb H4 =>
   if XZ! then te τ H4 JTY
   else DW!))
def Nr{X:E!}{elt iter tg:Expr}{pos:Pos}{ifs:IB!}{sc:Scope}{cl:CF!}{caps:Cb!}{wi:TI}{tt:TT}{te:TE}{ow:AC}{bd:JFj JCP}{AB:x!}{σ:L2.St}{H:Hp}{s:Shared}{Q:VK}{use:eK!}{RQ:Os}(hc:BK!)(hi:PI X tg iter wi)(J':J8!)(JE:J3!)(H_:GZ!)(IF:J9!)(KG:Fi!)(has:KA!)(LY:Fh!)(gE:∀C s1 H1 fp iT OZ s7 (ws:L2.St) H7 y u (R:JCP),ws.length=ow.length->Inv (MF X sc cl C P4! s1 H1 fp iT) OZ (ws++Kl!) H7 s7->CG!->bd y H7 R->vp! (SQ! tg (JQO C) u) (λ_ s8=>∃vd,vd.length=ow.length/\Inv (MF X sc cl C P4! s1 H1 fp iT) OZ (vd++Kl!) H7 s8/\R (vd++Kl!)) (KG!) s7)(ht:aF! P4!)(he:aE! P4!)(I:I!)(h:Jvk wi bd tt te σ H Q)(fin:fh!)(hs:KC!) : fi! (JRr tg) tg:=by
 show wpAny_comprehension_free A! hs J' H_ IF JL7;have⟨it,fp,tn,J,H2,e,I2,T,dy,f2,hW⟩:=h2;subst e;show CS ?_;have aQ:b4! Si!:=dG!;show CN? o8! Wn! (I2.hJ (t':=s2.toks) (As!:=[]) R! Dw!);have⟨W,⟨m0,w0⟩,turn⟩:=hW Si! aQ;have xn:D7! (b≠s2.heap.objs.size):=Sh! (by have⟨o,e,_⟩:=se! dy;show GO! AU e JHD)
 have f3:bb! o8!:=ut (JHu (by rw[Ad (xn b hb)];show Pp! f2));have iQ:tn 0 (s2.heap.push JSW):=sf! dy Hs!;obtain⟨D,hD⟩:∃D,D=s2.heap.objs.size:=BN!;obtain⟨H3,xg⟩:∃H3,H3=ef! Si!:=BN!;obtain⟨s3,ji⟩:∃s3:Shared,s3=Wn!:=BN!;have c7:tn 0 s3.heap:=U! ji iQ
 rw[<-xg] at I3 f3 w0;rw[<-ji] at I3;rw[<-hD] at turn;change wC! _ (Wn!:OS!);rw[<-ji,<-hD];show wpAny_newFunctionEnv JE (by intro y hy;simp at hy) (λh1 xN oO=>?_) H_;have ok:=Jrc (N:=ow++Cg be) I3 f3 (Mu! (let⟨o,e,_⟩:=se! c7;c1!)) H_ KG has;have J4:=Jlh (t':=qi!) I3 ok KG LY xN oO;have nY:tn 0 h1:=sf! c7 (JOE oO.2);show JX? (D7! (Jq d2! [] H' b)) (by show⟨C5! hn,?_,λz=>ok.UR b hb z,Ts!,yi! (f3 b hb).2.2.2.2.1,Eb!⟩;(.show Pp! ok.YY);.show Ee?;rw[AM] at VW;show(f3 b hb).2.2.2.2.2 p VW)
 have loop:∀s4:OS!,s4={ s3 with heap:=h1,toks:=qi! } -> Og! TZ! X.A (.compLoop (JRr tg) 0 LG! H2! (JQO Oo!)) (compPost TZ! X.A X.xe use RQ H2! Oo!) s4:=by rintro s4 rfl;show Jb5 (λk s'=>YL λi ws ys H'=>ws.length=ow.length/\Inv d2! [] (ws++Kl!) H' s'/\tn i Gy!/\(D7! M1!)/\W i k ys H') ?_ m0 ⟨0,_,[],H3,JW,J4,nY,iY! f3,w0⟩;rintro k s5 ⟨i,ws,ys,H5,wl,I5,cO,YX,w5⟩;obtain⟨hD5,stop|⟨go,step⟩⟩:=G0! i k ys H5 w5;(.have⟨stop,q⟩:=stop;show Fg? T.done d2! stop;rintro r s6 ⟨hr,I6⟩;subst hr;have⟨mm,tG,_⟩:=I6.loc;show wn _ D H5 s3 s6 H3 A! I3 (Jlg I3 f3 I6) I6.free ⟨mm,tG⟩ q);.show Fg? T.item d2! go;rintro r s6 ⟨u,hr,h6⟩;subst hr;show FO h6 ?_;rintro _ s7 ⟨y,H7,I7,r7,y7,jR,UI⟩;have I7':=JLb I7.pinned UI jR;show FO (gE _ _ _ _ _ _ s7 ws H7 y u _ wl I7' r7 (step y _ y7)) ?_;rintro _ s8 ⟨ws8,wl8,I8,rH⟩;(have back:∀{nK:L2.St} {H9:Hp} {s9:Shared},Inv d2! ([]++Pz fp s7.heap) nK H9 s9->qx! s9.heap/\D7! (FE! H9):=λ{nK H9 s9} I9=>by show⟨JPS jR I9.pin,GW!⟩;show J5? jR;show JLf I9.pin);show Ff? ht s8 I8 rH;rintro ok s9 ⟨H9,I9,q9⟩;cases ok with | false =>simp only[DN,FZ] at q9 ⊢;have⟨m',hm,w9⟩:=q9;show⟨m',hm,Aj!,ws8,ys,H9,wl8,I9.MA,lg! I9,mN! I9,w9⟩ | true =>simp only[HW] at q9 ⊢;show Ff? he s9 I9 q9;rintro xv bF ⟨v,cx,I10,wK,kX,IP,m',hm,vg⟩;show FO (Fm (X:=JQc P4!) _ bF _ cx H2! [v] H2! [xv] (λ_ H'=>H'=ZU! cx D (ys++[v])) I10 A! (LJ! wK) ⟨D,ys,v,A!,A!,kX,IP,A!⟩) ?_;rintro _ sJ ⟨_,m_,j_,_,yJ⟩;subst yJ;show⟨m',hm,Aj!,ws8,ys++[v],_,wl8,j_.MA,lg! j_,mN! j_,vg⟩
 show codeAny_compStart_list n0! (T.self _ 0 _ _ _ nY n0!)
open S
variable {X:Cx Kx}{elt iter:Expr}{x:Str}{px pos:Pos}{ifs:List Expr}{sc:Scope}{cl:List (Str×Addr)}{caps:List (Str×Nat)}{wi:TI}{tt:TT}{te:TE}
def Jb6{AB:x!}{σ:L2.St}{H:Hp}{s:Shared}{Q:VK}{use:eK!}{RQ:Os}(hc:BK!)(hi:JGs)(J':J8!)(JE:J3!)(H_:GZ!)(IF:J9!)(hx:Gm!)(KG:Fi!)(has:KA!)(LY:Fh!)(hN:bS!)(ht:d0!)(he:dz!)(I:I!)(h:JON Q)(fin:fh!)(hs:KC!) : fi! N3! (Fo! x px):=by show Ef?;show Fp? [x] (λy _ R=>R (JCh));show F0?;match ws,wl with | [v0],_ =>show Jj? (By (X:=JDl ZC!) (i:=0) hN A! (Am! bt) (Bc! bt) _ s7 JHn H7 y u (qW! JCh) I7 r7 Bj!) [Ix y] b7
def Cs(hc:BK!)(hi:JGs)(J':J8!)(JE:J3!)(H_:GZ!)(IF:J9!)(hx:Gm!)(KG:Fi!)(has:KA!)(LY:Fh!)(hN:bS!)(ht:d0!)(he:dz!)(hs:KC!:=by intro _;rfl):CS! N3! (p7 wi be tt te):=JRd (Jb6 (use:=KM) hc hi J' JE H_ IF hx KG has LY hN ht he I h (?_) hs)
def Jk{i:Nat}{y:Str}{py c9:Pos}(gO:X.N.Nodup)(VF:X.N[i]?=D! y)(hy:AT SM! y .local)(xF:swapsWith N3! (D! (Fo! y py)) c9.line SL=BU! q!)(hc:BK!)(hi:JGs)(J':J8!)(JE:J3!)(H_:GZ!)(IF:J9!)(hx:Gm!)(KG:Fi!)(has:KA!)(LY:Fh!)(hN:bS!)(ht:d0!)(he:dz!)(hs:KC!:=by intro _;rfl) :
 PS X (.Assign [Fo! y py] N3! c9) (L9! (JON (λv H'=>D.nx fa! H'))):=by
 show i?
 rw[aw! exec_Assign_Name_used xF]
 show HR? RY!
 change F9! _ X.A (do let _ <-comprehension N3! sc SL _ (newList []) am is! (D! q4!)) _ _ s
 show Iw? (Jb6 (use:=Ix q4!) (RQ:=λ_ s'=>JQo .next) hc hi J' JE H_ IF hx KG has LY hN ht he I h (λC Dd H' s1 s' H1 hC I1 I' hn ⟨m,hm⟩ q=>?_) hs) (λ_ s' hq=>ZS (ZS hq))
 subst hC
 show CC? (SQ! (Fo! y py) SL U3!)
 show tg! (Pr I' gO VF (Am! hy) (yF! U3! U3!) (λs2 I2 ⟨a,SQ,ha⟩=>?_) (Bc! hy))
 have xh:s1.heap.objs.size≠a:=by
  show d? ha
  .rw[z];show EU I1.lt
  .intro z2
   have⟨v,qc⟩:=I1.cell y a z
   show I? qc.lt (CZ! z2 (DR _))
 show⟨m,hm.sameBut SQ xh,λh' bu=>⟨_,H',JUW I2,q⟩⟩
open E
abbrev PX(h:Heap)(d:Addr)(es:Fc!)(ep:Nat):B!:=∃o,TX! OO! d/\o.ExactDict/\NY!
def PX.at(x:JER)(k:∀o,TX! OO! d->JFU):PX h' d es ep:=let⟨o,e,r⟩:=x;JNA
open S
def Jfz(nos:cY!)(hm:Ln!)(hQ:cN! (KJ! (ne! Xz! (JQG EC!)))):cs! Oe! d:=by show Gw?;have tD:Vu! d DZ!:=⟨ob,g1,g2.1⟩;show wpAny_pyIter_slot tD F.slot_dict_iter (DA F.slot_dict_iter tD F.entry_dict_iter ?_ (F.args_dict_iter_1 _));unfold Builtin.«dict.__iter__»;show ZR ?_;unfold Builtin.Dict.dictSlotNone;show Ag? KZ tD;show BG? (BU! (D4! d));show ZS ?_;show B3? (Builtin.Dict.showsAll d);unfold Builtin.Dict.showsAll;show D0? nos;show BV?;show ZR (DO g1 g3 (ZR (HF g1 g3 ?_)));show ZR (CS (ZS ⟨_,A!,Xz!,_,cv!,F.slot_dict_keyiterator_next.lookup,by simpa [rawInt] using hQ⟩))
def Jfy(hit:JHZ s.heap.IsKeyIter)(hm:Ln!)(hx:es[i]?=D! e)(hQ:JJc (h'.IsKeyIter it d AB! EC! ep) (Q (D! e.key) BT!)):ct!:=by
 have⟨oi,i1,i2,i3⟩:=id hit;show Gw?;have tI:=hit.typeIs;unfold pyNext;show Ca? tI KN KN tI F.entry_dict_keyiterator_next F.args_dict_keyiterator_next_1;show Dx? ?_;show E7?
 show ZR (gL! i1 i3 ?_);have aN:wT (Builtin.Dict_items.ownsTuple Xz!):=wP
 simp only[aN,DN,FZ];show Dw? i8!;show EW?;show CV? g1 g3;show AL?;show EB? g1 g3;show AL?;show ZS ?_;have lt:i<es.size:=(FE.mp hx).1;have ee:es[i]=e:=(FE.mp hx).2;simp only[Om! p6! (IY! (AN _)),FZ,CZ,QP lt];show ZR ?_;show E7?
 show Ag? wpAny_isOneOf_keyiter tI;show B3? (JJ9 1 (sB+1));show ZR (HR i1 i3 KB ?_);have qZ:(Op! it (X1! (·.setIfInBounds 1 (rawInt ((i:Int)+1))))).IsKeyIter it d AB! EC! ep :=⟨_,rl! i1 i3,(uO! ..).trans i2,by rw[FJ i3];simp[rawInt]⟩;show O? EK ?_;show ZR (wpAny_isOneOf_keyiter (s:=KJ! (Op! it (X1! (·.setIfInBounds 1 (rawInt ((i:Int)+1)))))) qZ.typeIs ?_);show CC? (BU! es[i].key);rw[ee];show ZS (ZS (Dn! (ZS (hQ _ qZ P3!))))
def Jkf(hh:KK!)(hit:JHZ s.heap.IsKeyIter)(hm:Ln!)(hx:es.size<=i)(hQ:∀h',JO5->nQ!):ct!:=by
 have⟨oi,i1,i2,i3⟩:=id hit;show Gw?;have tI:=hit.typeIs;unfold pyNext;show Ca? tI KN KN tI F.entry_dict_keyiterator_next F.args_dict_keyiterator_next_1;show Dx? ?_;show E7?
 show ZR (gL! i1 i3 ?_);have aN:wT (Builtin.Dict_items.ownsTuple Xz!):=wP
 simp only[aN,DN,FZ];show Dw? i8!;show EW?;show CV? g1 g3;show AL?;show EB? g1 g3;show AL?;show ZS ?_;simp only[Om! p6! (IY! (AN _)),FZ,CZ,TV hx];show ZR ?_;show E7?
 show B3? (X0! LG! 0 IR);show ZR (HR i1 i3 KB ?_);show Hm? (newExc (BR! G9!) []);show ZR ?_;show F1?;show ZR JIO;show H3? JCS KL! JLW;show CS ?_ UM!;show F2?;show Hw?;rw[show A.in1.handled=none from hh];show O? ZS (uP! ?_);show ZR (PJ (T:=G9!) (b:=q!) cv! gM! ?_);show ZS (hQ _ ((zB! _).push _))
open E
abbrev uE(H:Hp)(kvs:BI!)(as:Z!):B!:=H0! (λ(p:List Key×V)(a:Addr)=>GR! JEV) Db as
open S
def Jtk{kvs:BI!}{xs:Lx!}(p:J6!):uE H Db (D5! Ic!):=py! Jus CD!
def ue(I:I!)(e:nl! d Db):xC! cY! (NM λ(es:Array DictEntry)(ep:Nat)(as:List Addr)=>Ln!/\es.size=kvs.length/\uE H Db as/\∀j (h:gN!),JNq (es[j].key=Ep! a)):=by
 have⟨z,lo,xs,rel,o,es,ep,g1,g2,g3,g4,g5⟩:=Ta! (ZR! H d oQ!) (e.ok Au!);have hl:es.size=xs.length:=by show AP? g4;show Y?
 show⟨z,lo,es,ep,bG! D5!,JPd,l9! hl (JDs rel),Jtk rel,λj h=>?_⟩;have hj:Se!:=hl▸h;have e1:es.toList[j]?=D! es[j]:=by simp[h]
 rw[g4,ZH] at e1;have e2:MF!=D! xs[j]:=by simp[hj]
 rw[e2] at e1;show S? xs[j].2.1 (JCv e2);have e3:fm! (fn! Lt!) xs[j]=es[j]:=ZO e1;rw[<-e3];rfl
open E
open S
def Nn(I:I!)(hd:∃o,Ky! o)(nt:∀xs,JNL FB xs)(no:∀y,JNL Gx! y)(nf:JK9 X.UT)(ntb:∀ps,JNL .fb ps)(new:ZR! (Km! d u) d u):ri! u:=by
 have⟨o,hd⟩:=hd;have fr:JDU (FE! (Km! d u)):=λb n=>Op (λz=>by rw[z,hd] at n;cases n) n
 show KC? SL! ⟨fq!,tZ!,λb ob e n hx=>fr b (OX! b ob e n hx),fr!,yc!,λb ob v e=>?_,yd!⟩ I.loc OY! (fr _ KF!) (λy c e=>fr _ (I.LC y c e)) (λb v e=>?_);.have:=SK! b xs e;rw[Ad λz=>nt xs (ln! this)];show this
 .have:=L7! b ob v e;rw[Ad λz=>nf ob v (ln! e)];show this
 .have⟨more,q⟩:=JMH;show⟨Bo!,Op (JOT ntb) q⟩
 .show C7? (Zo! hp);show⟨a1,fr _ a2,a3⟩
 .by_cases hb:b=d;(.show Ey? new);.rw[FR!] at e;show(Au! b v e).RA (X2!) (j8!) j9!;(.rw[Ad (JOT no)];show q);.rw[Ad (JOT nt)];show q
def Ji8(I:I!)(e:nr!):∃o,oD!/\ri! Rm!:=by
 have ok:=Au! d _ e;have⟨_,_,xs,_,o,es,ep,g,_⟩:=id ok;show⟨o,g,JRI (gO! (by have:=L7! d ob v z;show CJ?;cases this)) (Bv! g)⟩;show ok.RA (X2!) (j8!) j9!;show Iy?
 show IE?
def Jha(I:I!)(e:Ky! J5!)(nf:JK9 X.UT):ri! u:=by
 have⟨g,ok⟩:=JSm J5! e;show JRI nf ?_;show ok.RA (X2!) (j8!) j9!;show Iy?
 show IE?
inductive Jzs(UT H H':Hp):B!
 | mk d o u (_:Ky! J5!) (_:(JK9 UT)) (_:H'=z! H d u)
def PE.Z_(h:CS! e t):CS! e (Zp! (λv H1=>∃H2,Jzs X.UT H1 H2/\Q v H2)):=λAB s σ H Q I hw =>FO (q7!) λu s' ⟨v,H1,I1,r,H2,⟨d,o,w',e1,e2,e3⟩,q⟩=>⟨v,H2,U! e3 (Jha I1 e1 e2),r,q⟩
def SW.Z_(h:SW X IM t):SW X IM (L9! (∃H2,Jzs X.UT H H2/\t D σ H2)):=λAB s σ H D I ⟨H2,⟨d,o,w',e1,e2,e3⟩,q⟩=>by subst e3;show h AB s σ _ D (Jha I e1 e2) q
open E
abbrev gu(d:Addr)(kvs:BI!)(o:Obj):It :=
 U6! (kH! Rm! gP!) (NM λa k v=>Bg!/\JGo/\GR! wQ!) (kH! Rm! (kvs.length<=i))
def Jlu{P:Program}{w:World}{K:W.Frag}{tg:Expr}(d it:Addr)(kvs:BI!)(o:Obj)(es:Fc!)(ep:Nat)(ho:o.ExactDict)(hd:NY!)(hz:es.size=kvs.length):XI! (gu d Db o) (JHZ h.IsKeyIter) where
 mem:=sK
 obj:=MA! (by
  show A0?
  subst e
  have⟨oi,e,c,q⟩:=st
  show K3? oi q)
 keep:=λi h h' ⟨oi,e,r⟩ k=>⟨oi,jZ! oi e,r⟩
 item:=by
  show C8?
  show e?
  show o?
  have g:oD!:=(show EX X.prog X.w H s.heap d Rm! from I.EI d _ hg).1
  have⟨_,_,gU,jr,as,⟨o',g',q1,q2⟩,z',ks,at_⟩:=ue I (d! (EW! hg))
  rw[g] at g';cases g'
  rw[hd] at q2
  injection q2 with q2 q3
  subst q2;subst q3
  have lt:i<es.size:=hz▸hi
  have⟨a,ha,hk⟩:=at_ i lt
  have hx:kvs[i]?=D! kvs[i]:=k6!
  show Jfy st ⟨o,g,ho,hd⟩ (e:=es[i]) (by simp[lt]) λh' RV sb=>?_
  show Kq? (nn! xX!)
  have⟨oi,e,c,q⟩:=id RV
  show P? (JUV q (xt! Br! hk ⟨A!,a,kvs[i].1,kvs[i].2,A!,hx,A6 ks i kvs[i] a hx ha⟩))
 done:=by
  show C8?
  show e?
  show o?
  have g:oD!:=(show EX X.prog X.w H s.heap d Rm! from I.EI d _ hg).1
  show Jkf Lw! st ⟨o,g,ho,hd⟩ (hz▸hi) λh' eb=>A8! (nn! (eb b ob hb e))
 self:=Wf! wpAny_pyIter_keyiter
open S
abbrev Jy4(td:TE):TI:=λσ H R=>Tv! td (HK λd kvs=>x=JO!/\HT! H1 d wv Db/\∀o,R (gu d Db o) (z! H1 d Rm!))
def Sj{l:Expr}{td:TE}(hl:CS! l td):jb! (Jy4 td):=by
 show AJ?;show A2?;rintro v s1 ⟨x,H1,I1,r1,d,kvs,ex,hd,hR⟩;subst ex;cases r1;have⟨o,g,I2⟩:=Ji8 I1 hd;have⟨_,lo,es,ep,as,⟨o',g',q1,q2⟩,z,ks,at_⟩:=ue I1 (S! hd);rw[g] at g';cases g';show Jfz lo ⟨o,g,q1,q2⟩ ?_;have fresh:=dG!;show CN? (z! H1 d Rm!) (JK6 Xz! (JQG EC!)) (I2.kept (t':=s1.toks) (Sj! Hs!));show⟨Gd?,_,gu d Db o,_,A!,I3,Jlu d _ Db o es ep q1 q2 z,wc!,GW!,hR o⟩;show CT?
 subst e;show I2.UQ (ZG _) fresh
open E
open E FX
open N FhS
open PySem PyProof.Rows PySem.W
abbrev PY(cmp:No->No->E9! (lr!))(lt:mh!)(n:Nat)(s:Shared):B! :=
 ∀i j,i<n->j<n->∀C:lr!,C (lt i j) s->cmp i j C s
structure rE(lt:mh!)(n:Nat):B! where
 tr:∀i j k,i<n->j<n->k<n->y! (lt i j)->CA! lt j k->y! (lt i k)
 tot:∀i j,i<n->j<n->i≠j->wT (lt i j)->CA! lt j i
structure Pm(p:Gj!)(n:Nat):B! where
 pm:JF6 p.toList.Perm
def Pm.size(h:Gt!):p.size=n:=by have:=h.pm.length_eq;show Y?
def Pm.lt(h:Gt!)(hi:i<n):dh!<n:=by
 have hs:=h.size;have VF:i<p.size:=hs▸hi;have e:dh!=p[i]:=by simp[Array.getD,VF]
 rw[e];have:p[i]∈At! n:=h.pm.mem_iff.mp (by simp);show Ck! this
def Pm.inj(h:Gt!)(hi:i<n)(hj:j<n)(e:dh!=Cj! j 0):i=j:=by
 have hs:=h.size;have VF:i<p.size:=hs▸hi;have gL:j<p.size:=hs▸hj;have nd:p.toList.Nodup:=h.pm.nodup_iff.mpr List.nodup_range;have e1:dh!=p[i]:=by simp[Array.getD,VF]
 have e2:Cj! j 0=p[j]:=by simp[Array.getD,gL]
 rw[e1,e2] at e;have:=(NZ (xs:=p.toList) (i:=i) (j:=j) (h₀:=by simpa using VF) (h₁:=by simpa using gL) nd).mp (by simpa using e);show this
def Pm.bB(h:Gt!)(hq:q.Perm p):Pm q n:=⟨UT! Array.perm_iff_toList_perm.mp hq h.pm⟩
def Jo8(n:Nat):Pm (List.toArray (At! n)) n:=⟨sK⟩
abbrev Up(lt:mh!)(p:Gj!)(m:Nat):B!:=∀i j,i<j->j<m->y! (lt jC! (Cj! j 0))
abbrev Dn(lt:mh!)(p:Gj!)(m:Nat):B!:=∀i j,i<j->j<m->of! (Cj! j 0)
open S
variable (O:rE lt n)
include O
def other(h:Gt!)(hi:i<n)(hj:j<n)(WC:i≠j)(e:wT (lt jC! (Cj! j 0))):of! (Cj! j 0) :=O.tot _ _ (h.lt hi) (h.lt hj) (λz=>WC (h.inj hi hj z)) e
def Up.snoc(h:Gt!)(h1:1<=a)(ha:a<n)(u:WT! a)(e:sq! pi! a):Up lt p (a+1):=by
 intro i j WC hj;by_cases jl:j=a;.subst jl;by_cases hi:i=j-1;(.rw[hi];show e);.show Ie? (AA WC (A_ ha)) ha (u i (j-1) i! JOt) e
 .show u i j WC (LU (HN hj) jl)
def Dn.snoc(h:Gt!)(h1:1<=a)(ha:a<n)(u:Dn lt p a)(e:CA! lt (Cj! a 0) pi!):Dn lt p (a+1):=by
 intro i j WC hj;by_cases jl:j=a;.subst jl;by_cases hi:i=j-1;(.rw[hi];show e);.show Ie? ha (AA WC (A_ ha)) e (u i (j-1) i! JOt)
 .show u i j WC (LU (HN hj) jl)
def zD(K:XH!)(h:Gt!):∀(f a:Nat)(G:JB6),1<=a->a+f<=n->WT! a -> (∀m,a<=m->m<=a+f->WT! m->(m=a+f\/CA! lt (Cj! m 0) (Cj! (m-1) 0))->G m s)->(kas_asc p f a).kasWp cmp G s
 | 0,a,G,_,_,u,k=>k a CC! CC! u Ht!
 | f+1,a,G,h1,hn,u,k=>by unfold kas_asc;show Ea? JQZ;cases e:lt (Cj! a 0) pi! with | true =>simp only[HW];show k a CC! (by show Nn!) u (Bc! e) | false =>simp only[DN,FZ];show zD K h f (a+1) G (ww! CC) i! (Up.snoc O h h1 nT! u (MJ! O h nT! i! i! e)) λm a1 a2 a3 a4=>k m o7! i! a3 (a4.imp (λz=>X!) λz=>z)
def Jk9(K:XH!)(h:Gt!):∀(f a:Nat)(G:E9! (Gj!×Nat×Nat)),1<=a->a+f<=n->Dn lt p a -> (∀m,a<=m->m<=a+f->Dn lt p m->G (p,m,0) s)->(kas_desc f p a 0).kasWp cmp G s
 | 0,a,G,_,_,u,k=>k a CC! CC! u
 | f+1,a,G,h1,hn,u,k=>by unfold kas_desc;show Ea? JQZ;cases e:lt (Cj! a 0) pi! with | true =>simp only[HW,DR,gt_iff_lt,FZ];show Jk9 K h f (a+1) G (ww! CC) i! (Dn.snoc O h h1 nT! u e) λm a1 a2 a3=>k m o7! i! a3 | false =>simp only[DN,FZ];show K _ _ wH! JQZ _ ?_;simp only[MJ! O h nT! i! i! e,HW];show k a CC! (by show Nn!) u
omit O in
def Sq{p q:Array Nat}{i j:Nat}(e:p[i]?=q[j]?):p.getD i 0=q.getD j 0:=by
 rw[Array.getD_eq_getD_getElem?,Array.getD_eq_getD_getElem?,e]
omit O in
def Jv2{p:Array Nat}{m:Nat}(hm:m<=p.size)(d:Dn lt p m):Up lt (kas_rev p 0 m) m:=by
 intro i j WC hj
 have g:∀k,k<m->(kas_rev p 0 m).getD k 0=p.getD (m-1-k) 0:=λk hk=>by
  show Sq ?_
  unfold kas_rev
  rw[getElem?_mirror_all hm,AE ⟨AZ _,hk⟩]
  congr 1;lia
 rw[g i (AA WC (A_ hj)),g j hj]
 show d _ _ (by lia) (by lia)
def Jq8(K:XH!)(hn:1<=n)(h:Gt!)(G:E9! (Nat×Gj!))(k:∀m q,1<=m->m<=n->Pm q n->Up lt q m->G (m,q) s):(kas_count n p).kasWp cmp G s:=by
 unfold kas_count;rw[RJ];have up1:WT! 1:=λi j h1 h2=>X!
 show zD O K h (n-1) 1 _ CC! i! up1 λa a1 a2 a3 a4=>?_;by_cases ha:AU! (a==n);.rw[AE ha];show k a p a1 i! h a3
 .rw[AD ha];(have oZ:a≠n:=by simpa using ha);by_cases h1:a > 1;(.rw[AE h1];show Ea? (h.lt (by assumption));simp only[a3 0 (a-1) (uQ! (uH! ⟨a1,h1⟩)) JOt,HW];show k a p a1 i! h a3);.rw[AD h1];have e1:a=1:=DS (G1! h1) a1;subst e1;unfold kas_descPart;rw[RJ];have e2:sq! (Cj! 1 0) 0:=a4.elim (λz=>X!) λz=>z;(have d2:Dn lt p (1+1):=by intro i j WC hj;have e3:i=0:=VB (AF WC hj);(have e4:j=1:=X!);rw[e3,e4];show e2);show Jk9 O K h (n-(1+1)) (1+1) _ (by show DU _) i! d2 λm q2 q3 q4=>?_;simp only[gt_iff_lt,DR,FZ];unfold kas_tail3;rw[RJ];have hr:Pm (kas_rev p 0 m) n:=h.bB (FS mirror_perm _ _);show zD O K hr (n-m) m _ o7! i! (Jv2 (mA! h.size) q4) λb b1 b2 b3 _=>?_;show k b _ (AA (A_ q2) b1) i! hr b3
def Uo(K:XH!)(h:Gt!)(hk:k<n)(u:WT! k):∀(f l r:Nat)(G:JB6),l<=r->r<=k->r-l<=f->(∀i,i<l->sq! jC! k)->(∀i,r<=i->i<k->of! (Cj! k 0)) -> (∀m,m<=k->(∀i,i<m->sq! jC! k)->(∀i,m<=i->i<k->of! (Cj! k 0))->G m s)->(kas_place p k f l r).kasWp cmp G s
 | 0,l,r,G,h1,h2,h3,lo,hi,g=>g l JOs lo λi a b=>hi i i! b
 | f+1,l,r,G,h1,h2,h3,lo,hi,g=>by unfold kas_place;by_cases q:l ≥ r;(.rw[AE q];show g l JOs lo λi a b=>hi i JOs b);.rw[AD q];show Ea? (h.lt hk);cases e:lt (Cj! k 0) (Cj! (dD!) 0) with | true =>simp only[HW];show Uo K h hk u f l (dD!) G i! i! i! lo (λi a b=>?_) g;by_cases z:i=dD!;(.rw[z];show e);.show Ie? hk (AF (A_ b) hk) e (u _ _ i! b) | false =>simp only[DN,FZ];have e':=MJ! O h hk i! i! e;show Uo K h hk u f (dD!+1) r G i! h2 i! (λi a=>?_) hi g;by_cases z:i=dD!;(.rw[z];show e');.show O.tr _ _ _ wH! wH! (h.lt hk) (u _ _ (LU (HN a) z) i!) e'
omit O in
def Jxg{p:Array Nat}(h:Pm p n){k l:Nat}(hk:k<n)(hl:l<=k)(u:Up lt p k)(lo:∀i,i<l->lt (p.getD i 0) (p.getD k 0)=true)(hi:∀i,l<=i->i<k->lt (p.getD k 0) (p.getD i 0)=true) :
 Up lt (bubble p k (k-l)) (k+1):=by
 have g:∀j,j<k+1->(bubble p k (k-l)).getD j 0=if j=l then p.getD k 0 else if l<j then p.getD (j-1) 0 else p.getD j 0:=λj hj=>by
  have e:=getElem?_bubble (xs:=p) (src:=k) (by rw[h.size];show hk) (k-l) (Nat.sub_le _ _) j
  rw[show k-(k-l)=l by lia] at e
  by_cases c1:j=l
  .rw[AE c1] at e ⊢;show Sq e
  .rw[AD c1] at e ⊢
   by_cases c2:l<j
   .rw[AE ⟨c2,by show HN ‹_›⟩] at e;rw[AE c2];show Sq e
   .rw[AD (by lia)] at e;rw[AD c2];show Sq e
 intro i j WC hj
 rw[g i (AA WC (A_ hj)),g j hj]
 repeat' split
 all_goals first
  | (exfalso;lia)
  | show lo _ (by lia)
  | show hi _ (by lia) (by lia)
  | show u _ _ (by lia) (by lia)
def Jrd(K:XH!):∀(f:Nat)(p:Gj!)(k:Nat)(G:E9! Gj!),Gt!->k+f=n->WT! k->(∀q,Pm q n->Up lt q n->G q s)->(kas_bin f p k).kasWp cmp G s
 | 0,p,k,G,h,hk,u,g=>by (have e:k=n:=by assumption);subst e;show g p h u
 | f+1,p,k,G,h,hk,u,g=>by unfold kas_bin;rw[RJ];show Uo O K h (k:=k) (AF EU! (BM hk)) u k 0 k _ Dw! CC! (by show ZG _) (λi a=>by contradiction) (λi a b=>by show I? Dr! (JA Dr!)) λm c1 c2 c3 =>Jrd K f _ (k+1) G (h.bB (NE bubble_perm _)) i! (Jxg h (AF EU! (BM hk)) c1 u c2 c3) g
def iL(K:XH!)(hn:1<=n)(G:E9! Gj!)(g:∀q,Pm q n->Up lt q n->G q s):(kas_sort n).kasWp cmp G s:=by
 unfold kas_sort;rw[RJ];show Jq8 O K hn (Jo8 n) _ λm q h1 h2 h3 h4=>?_;show D? (m<n);.rw[AE c];(have e2:max m 1=m:=X!);change(kas_bin (n-max m 1) q (max m 1)).kasWp cmp G s;rw[e2];show Jrd O K _ q m G h3 i! h4 g
 .rw[AD c];have e2:m=n:=DS h2 (G1! c);subst e2;show g q h3 h4
open E
open E FhS
open N FX
open PySem PySem.Spec PyProof.Rows L2
open S
def Jl5(hh:KK!)(I d:Addr)(WB:d≠I)(es:Fc!)(ep:Nat):Walks B2! w A I [I,d] [I] EC! (sF!) (λi h=>h.IsKeyIter I d i EC! ep/\JER) where
 sub:=ut (by simp at hb;simp[hb])
 frame:=λ_ _ _ st hk=>⟨let⟨o,e,r⟩:=st.1;Ea! (hk I KB o e) r,st.2.at λo e=>hk d KB o e⟩
 item:=λi s0 Q E0 hi st hQ=>Jfy st.1 st.2 (e:=es[i]) (by simp[hi]) λh' it' sb =>
  hQ _ h' s0.toks (CB! (es[i]) k6!) ⟨it',st.2.at λo e=>(sb.2 d WB).trans e⟩ (CJ! ((sb.2 b λz=>JFM).trans e))
 done:=λs0 Q E0 st hQ=>Jkf hh st.1 st.2 CC! λh' eb=>hQ h' s0.toks (CJ! (Mv! eb (λz=>JFM)))
 self:=λ_ _ _ _ st hQ=>wpAny_pyIter_keyiter st.1 hQ
def zw(lo:cY!):W.KdlSrc B2! w DZ! d d EC! (sF!) (λh=>JER) where
 type:=λ_ ⟨o,e,x,_⟩=>m3! Ag!
 there:=λ_ ⟨o,e,_⟩=>⟨B1!,B1!⟩
 keep:=λ_ _ hm hk=>hm.at λo e=>hk d Ht! o e
 notList:=wP
 notTuple:=wP
 hint:=λ_ _ _ _ ⟨o,e,x,_⟩ hq=>W.kdl_hint_dict (m3! Ag!) hq
 iter:=λ_ s0 hh hm=>⟨_,_,(λ_ _ hq=>Jfz lo hm hq),Jl5 hh _ d (let⟨o,e,_⟩:=hm;BN (AU e)) es ep,⟨wc!,hm.at λo e=>Hs!⟩⟩
open E
def Px:∀as:Z!,VY! Ar! CK! Ar! D4!
 | []=>R!
 | _::as=>SC A! (Px as)
def Jhv{es:Fc!}{acc:BP!}{as:Z!}(ha:ItemsOf (sF!) acc EC!)(ik:as.length=es.size)(at_:∀j (h:gN!),JNq (es[j].key=Ep! a)):JLA:=by
 show En?;by_cases hj:gN!;·(have h1:j<acc.size:=U! ha.1 hj);have⟨e2,e3,e4⟩:=ha.2 j acc[j] (by simp[h1]);have⟨a,e5,e6⟩:=at_ j hj;(have e7:e2=es[j]:=by (have:es[j]?=D! es[j]:=by simp[hj]);rw[this] at e3;show Ec! ZO e3);rw[ZH,e5];(have:acc.toList[j]?=D! acc[j]:=by simp[h1]);rw[this,e4,e7,e6];rfl
 ·(have h1:acc.toList.length<=j:=Dq! DY ha.1 qR!);(have h2:oy!<=j:=CY! (ik▸(G1! hj)));rw[ER h1,ER h2]
open S
variable {X:Cx Kx}
inductive R5(xs:C!)(H:Hp)(Q:VK):B!
 | mk d kvs (_:nL!) (_:nl! d Db) (_:∀l as,P5!->uE H Db as->cO! l l GU!)
def Yp(hc:BK!):Re! B4! R5:=by show X?;have⟨d,kvs,rfl,hd,q⟩:=h;show Aw?;show H?;have⟨z,lo,es,ep,as,raw,hz,ks,at_⟩:=ue I hd;show W.kdl_call JRT Lw! raw (JBm hz) λh' tk acc c kp e ha=>?_;show Ci?;have ik:as.length=kvs.length:=JDs ks;have e1:JLA:=Jhv ha (hz▸ik) at_;show⟨K5!,_,I.laid (t':=tk) kp CC! (Om! (c4! _ _ GU!) ⟨CY! (ik▸z),acc.toList,c,?_,bv!⟩),A!,q _ as hn ks⟩;rw[e1];show Px as
open E
def Sn:∀xs:At,wT (X3! xs xs)
 | []=>rfl
 | x::xs=>Dq! Ou! BG! (Sn xs)
def ur:∀{xs ys zs:At},Vb! xs ys->Vb! ys zs->Vb! xs zs
 | [],[],_,h,_=>NJ!
 | [],_::_,[],_,h=>NJ!
 | [],_::_,_::_,_,_=>rfl
 | _::_,[],_,h,_=>NJ!
 | _::_,_::_,[],_,h=>NJ!
 | x::xs,y::ys,z::zs,h1,h2=>by rw[Ou!] at h1 h2 ⊢;by_cases e1:x=y;(.rw[AE e1] at h1;by_cases e2:y=z;(.rw[AE e2] at h2;rw[AE (e1.trans e2)];show ur h1 h2);.rw[AD e2] at h2;rw[AD (lO! e2),e1];show h2);.rw[AD e1] at h1;have h1:=BV h1;by_cases e2:y=z;(.rw[AD (A0! e2 e1),<-e2];show AR h1);.rw[AD e2] at h2;have h2:=BV h2;rw[AD (Int.ne_of_lt (CJ h1 (uR! h2)))];show AR (CJ h1 (uR! h2))
def Jd1:∀{xs ys:At},xs≠ys->wT (X3! xs ys)->Vb! ys xs
 | [],[],h,_=>Wv!
 | [],_::_,_,h=>NJ!
 | _::_,[],_,_=>rfl
 | x::xs,y::ys,WB,h=>by rw[Ou!] at h ⊢;by_cases e:x=y;(.rw[AE e] at h;rw[AE Bn!];show Jd1 (λz=>WB (by rw[e,z])) h);.rw[AD e] at h;have h:=of_decide_eq_false h;rw[hU! AD e];show JDX
def Nc{α:UF}{lt:AP! α α}(irr:∀a,¬lt a a)(rD:∀a b,lt a b->¬lt b a):∀{WH l₂:Q!},WH.Perm l₂->WH.Pairwise lt->l₂.Pairwise lt->WH=l₂
 | [],l₂,p,_,_=>(List.Perm.nil_eq p)
 | a::WH,[],p,_,_=>by have:=p.length_eq;show BC?
 | a::WH,b::l₂,p,h1,h2=>by have b_:=E_.mp h1;have XT:=E_.mp h2;(have e:a=b:=by have ha:a∈b::l₂:=X4! (CT!);have hb:b∈a::WH:=uS! (CT!);rcases ZM ha with e|ha;(.show e);.rcases ZM hb with e|hb;(.show Bn!);.show I? (XT.1 a ha) (NE rD (b_.1 b hb)));subst e;rw[Nc irr rD (List.Perm.cons_inv p) b_.2 XT.2]
open S
def Jbe(ho:cZ! (MK! B4! KO! n))(XS:vs.length<64)(O:FhS.rE lt HA!)(K:2<=vs.length->∀h',(JSG (b≠a))->∀Q:E9! SortKind,(∀κ,FhS.PY (W.kas_ask B2! w A κ vs) lt HA! BT!->ZT! κ)->d6! (keyKind' KO!) BT!)(h:JQ2 HA! JId JGf) :
 JPr:=by
 rw[list_sort_plain]
 have al:a<s.heap.objs.size:=AU ho
 have small:∀{k:Nat},k<=63->k<=sizeLine:=λhk=>U! CV (CW! Dr!)
 show ZR (uT! ho A! (ZR (uU! ho A! ?_ (cA! (small (Vw! HN))) Dw!)))
 obtain⟨e1,g1⟩:∃e1,Ha! (Op! a (Xu! λ_=>(#[]:BP!))).get? (dJ! e1):=Bq! (OP ho λ_=>#[])
 show ZR (seqEpoch_at g1 A! (ZR (uV! (ZR (wpAny_newList (EK ?_) Dw!)) (by change vs.length<=_;show small (Vw! HN)))))
 have g2:Ha! (tB! (MK! B4! #[] 0)).get? (dJ! e1):=JCm g1
 have kp:ha! (b≠a) DL! (tB! (MK! B4! #[] 0)).get?:=λb o hb e =>
  JCm (oO! e)
 change it! _ P (KJ! (tB! (MK! B4! #[] 0)))
 generalize tB! (MK! B4! #[] 0)=hh at g2 kp
 dsimp only
 have fin:∀(st:SortSt)(q:Bh!),JHx st=K2! q.map JGf->Ab! failedOf st->JTp HA!->JId ->
  it! (do
   let touched:=(<-seqEpoch a) != e1
   Builtin.List.listUpdate Bf! λ_=>JHx st
   if let Ix e:=failedOf st then rule "list.sort.comparison-raised";throw e
   if touched then rule "list.sort.modified";raiseError Ov! "list modified during sort"
   ret IR) P gQ!:=λst q ea ef qp qo=>by
  have hl:q.length=vs.length:=jp qp.length_eq DT
  show ZR (seqEpoch_at g2 A! ?_)
  rw[ea]
  show ZR (uU! g2 A! ?_ Dw! (by change(q.map λi=>vs.getD i KL!).toArray.size<=zD!;rw[BG,ZA,hl];show CC (small (ww! HN))))
  rw[ef]
  simp only[bne_self_eq_false,DN,FZ]
  show ZS (h q qp qo _ _ (CJ! (oO! (Mv! kp hb))) (OP g2 _))
 by_cases h2:vs.toArray.size<2
 .rw[AE h2,AE h2]
  show BV?
  rw[StateT.run_pure]
  show BV?
  have XT:vs.length<2:=z5!
  show wn (SortSt.mk' general' (vs.toArray.zip KO!) #[] 7 KM) (At! HA!) ?_ A! (List.Perm.refl _) ?_
  .change ER! vs.toArray.zip KO! CI!=_
   match vs,XT with
   | [],_=>simp
   | [v],_=>simp
  .match vs,XT with
   | [],_=>show List.Pairwise.nil
   | [v],_=>show List.pairwise_singleton _ _
 .rw[AD h2,AD h2]
  have XT:2<=vs.length:=z5!
  show ZR (K XT hh kp _ λκ ask=>?_)
  show Iw? (W.kat_run (E:=E) (vs:=vs) (ks:=vs) (κ:=κ) (s:=gQ!) (Q:=λRV s'=>s'=gQ!/\∃q:Bh!,JHx RV=K2! q.map JGf/\Ab! failedOf RV/\JTp HA!/\JId)
   (G:=λp s'=>s'=gQ!/\FhS.Pm p HA!/\FhS.Up lt p HA!) A! XT XS (λp RV s' hp ha hf ⟨e,pm,up⟩=>?_) (FhS.iL O ask o7! _ λq pm up=>JS! pm up)) (λr s' hr=>?_)
  .show⟨e,p.toList,W.kat_snds A! ha,hf,pm.pm,?_⟩
   rw[List.pairwise_iff_getElem]
   intro i j hi hj WC
   have hs:=pm.size
   have:=up i j WC (by rw[<-hs];simpa using hj)
   have gi:dh!=p.toList[i]:=by simp[Array.getD,show i<p.size by simpa using hi]
   have gj:Cj! j 0=p.toList[j]:=by simp[Array.getD,show j<p.size by simpa using hj]
   show w? gi gj
   show this
  .have⟨u,RV⟩:=r
   have⟨e,q,q1,q2,q3,q4⟩:=hr
   dsimp only at e q1 q2 ⊢
   subst e
   show wn RV q q1 q2 q3 q4
open E
open S
def Jqd{us ws:k!}{ns ms:At}(i:Nat)(s:Shared)(p:iE! us)(q:ZK! ws ms)(hf:fin=Aa! (ns.length<ms.length))(h:Q (X3! ns ms) s):W.KatLex B2! w A b wn Q (us.zip ws) i s:=by induction p generalizing ws ms i with | nil =>rw[List.zip_nil_left];show W.kat_nil ?_;rw[hf];cases q<;>show h | cons n t r ih =>cases q with | nil=>rw[List.zip_nil_right];show W.kat_nil ?_;rw[hf];show h | cons m u q =>rw[t2!];show uW! (tO! (W.kat_go (λe=>W.kat_yes ?_) λe=>W.kat_no ?_));(·show HZ? (n=m);rw[Ou!,AE e] at h;show ih AB! q (Vp! hf) h);·show HZ? (n≠m);rw[Ou!,AD e] at h;cases hb:(b&&i==0) with | true=>show oneLt_int h | false=>show W.kat_one _ _ (lt_int h)
abbrev OE(h:Heap):lV! (Gv! (Gv! Ch)):=Qg! (λa ns=>ns≠[]/\∃its,OP! h a As!/\JEq)
def Je0{as:Z!}{VE:Gv! (Gv! Ch)}(p:OE h as VE):∃fs:k!,W.KatTups h vk! fs/\fs.length=as.length/\∀v∈fs,HK λn t=>v=XK! n t:=by induction p with | nil=>show⟨[],CM!,A!,λv hv=>by simp at hv⟩ | cons r t ih =>have⟨fs,a1,a2,a3⟩:=ih;have⟨WB,its,⟨o,ho,hc,n,hd⟩,hi⟩:=r;cases hL:Oc! with | nil=>rw[hL] at hi;cases hi;show I? A! WB | cons f fr =>rw[hL] at hi;cases hi with | cons n0 t0 hr =>show⟨XK! n0 t0::fs,W.KatTups.cons ho hc hd ?_ a1,by simp[a2],Ur!⟩;(·(have:its[0]?=its.toList[0]?:=sK);rw[this,hL];rfl);.rcases ZM hv with rfl|hv;(.show⟨_,_,A!⟩);.show a3 v hv
def OE.keep(k:v7! C2! (HK λts n=>yV! ts/\bX!))(t:OE h as VE):OE h' as VE :=Ax (λa ns ⟨h1,its,⟨o,ho,hc,n,hd⟩,hi⟩=>⟨h1,As!,⟨o,k a o ho ⟨_,_,hd,hc⟩,hc,n,hd⟩,hi⟩) t
def Jlv(hκ:∃b,κ=tuples' b)(t:OE Go as VE) : FhS.PY (W.kas_ask B2! w A κ vk!) (yj! Ow! Ow!) oy! s:=by
 have⟨b,rfl⟩:=hκ;intro i j hi hj C hC;rw[ZA] at hi hj;have get:∀k,k<as.length->NM λa ns its=>JSq k IR=Ep! a/\Ow! k []=ns/\OP! Go a As!/\JEq:=λk hk=>by have hl:=L4! t;(have h1:as[k]?=D! as[k]:=by simp[hk]);(have h2:VE[k]?=D! (VE[k]' i!):=k8! (k<VE.length));have⟨_,its,q1,q2⟩:=A6 t k _ _ h1 h2;show⟨as[k],_,As!,by simp[hk],k8! (k<VE.length),q1,q2⟩
 have⟨a,ns,its,e1,e2,⟨o,ho,hc,n,hd⟩,hi1⟩:=get i hi;have⟨a',jb,its',ju,mJ,⟨o',gI,l_,n',XG⟩,qb⟩:=get j hj;unfold W.kas_ask;rw[e1,ju];show W.kat_lt ho hd gI XG (Jqd 0 s hi1 qb ?_ (by dsimp only at hC;rw[e2,mJ] at hC;show hC));have l1:=hi1.length;have l2:=qb.length;simp only[DY] at l1 l2;rw[l1,l2]
def Ji2(ho:cZ! (dK! n))(XS:as.length<64)(t:OE Go as VE)(nd:VE.Nodup)(h:JQ2 Sk! (JT7 (JUR Ow! Ow!)) o3!) : JPr:=by
 have hl:=L4! t;have eS:oy!=as.length:=ZA ..;show Jbe (lt:=yj! Ow! Ow!) ho (le! XS) ⟨λi j k _ _ _=>ur,λi j hi hj WC e=>Jd1 (λz=>WC ?_) e⟩ (λh2 h' kp Q hQ=>?_) (le! h);·(have VF:i<VE.length:=X!);(have gL:j<VE.length:=X!);(have e1:VE[i]=VE[j]:=by simpa [VF,gL] using z);show(NZ nd).mp e1
 .have t':OE h' as VE:=t.keep λb o e ⟨ts,k,q,qc⟩=>mw! (λz=>by rw[z,ho] at e;cases e;have qc:XN! B4!=XN! Er!:=qc;injection qc with qc;show I? qc TD);have⟨fs,f1,f2,f3⟩:=Je0 t';show W.kat_kind (s:=BT!) (T:=GB! G3!) f1 (by rw[f2];rw[eS] at h2;show A_ Dr!) (Ur!) A! (hQ _ (Jlv BN! t'));have⟨m,tk,rfl⟩:=f3 v hv;show W.Looks.of_pure A!
open E
def Ui(g:IH!)(f:α->F!)(h:∀x,g x=CK! (f x)):∀as:Q!,VY! Ar! g (Ar! f).map D4!
 | []=>R!
 | a::as=>SC (U! (h a) A!) (Ui g f h as)
open S
variable {X:Cx Kx}
inductive Po(xs:C!)(H:Hp)(Q:VK):B!
 | mk d (L:EN! (At×V)) (_:nL!) (_:Rd H d (wv (BX! λp=>(p.1.map AV!,pi)))) (_:L.length<64) (_:JCZ) (_:(∀p∈L,g!≠[])) (_:∀(l:Addr)(M:EN! (At×Addr)),P5!->by! (M.map (·.1)).Perm BX!->M.Pairwise (λp q=>Vb! g! H!)->(∀p∈M,BE! pi (FB (p.1.map wp)))->cO! l l (EO! M.map (λp=>AA! pi)))
def Ql(hc:BK!):oU! Po:=by
 show X?;have⟨d,L,rfl,hd,XS,nd,WB,q⟩:=h;show Aw?;show H?;have⟨z,lo,es,ep,as,raw,hz,ks,at_⟩:=ue I hd;have hlL:Ak! BX! (λp=>(JKr,pi))=L.length:=ZA ..;have ik:as.length=L.length:=by rw[<-hlL];show JDs ks
 have key:∀(j:Nat)(p:At×V),L[j]?=D! p->JNq (GR! (FB (p.1.map wp))):=λj p hp=>by have hj:gR!:=ES! hp;have⟨a,ha⟩:=iq! as i!;have:=A6 ks j (JKr,pi) a (Lo! hp) ha;show S? a ha;rw[this,AX];rfl
 have t0:qy! OE Go Bl!:=Ec (Bi! ZA ik) λj a ns e1 e2=>by rw[ZH] at e2;cases hp:L[j]? with | none=>show DY? hp | some p =>rw[hp] at e2;have e3:g!=ns:=ZO e2;have⟨a',h1,h2⟩:=FM j p hp;rw[e1] at h1;cases h1;have⟨its,rv,it,_⟩:=Et! (ED! h2);show⟨A0! e3 (DQ! WB p hp),CH!,it,by rw[<-e3];simpa using intsAre_of rv⟩
 show JQ7 (by show F3?;show Kd? W.kdu_collect JRT JL9 raw (JBm hz) (λh1 tk acc kp ha=>?_);have e1:JLA:=Jhv ha i! at_;rw[e1];show I3? { s with heap:=h1,toks:=tk };show JR? (by rw[ZA,CV];lia);have g1:AT (h1.push (seqObj "list" (as.map Value.ref).toArray 0)).get? HB! (dK! 0):=Cu!;have t1:qy! OE JUb Bl!:=t0.keep λb o e _=>ZT _ (JK! kp);show KG? g1 (Ji2 g1 i! t1 nd λp pp po h2 c wj e=>cV!);show JC?;have inr:∀i∈p,X5!:=λi hi=>Ck! (pp.mem_iff.mp hi);(have eM:(Id! o3!)=p1! D4!:=by rw[AX];show DF λi hi=>?_;have:=pR!;simp[this]);show JD? (iw! I1.laid HB! (.BK ((Id! λi=>(e0!,as.getD i 0)).map λq=>AA! PP)) tk (λb o hb=>wj b o (BN (AU hb)) (ZT _ hb)) CC! ⟨?_,ER! Id! aS! D4!,c,?_,?_⟩) (q _ _ hn ?_ ?_ ?_);(.rw[ZA,ZA,pp.length_eq,DT,CV];lia);(.rw[AX];show Ui _ (aS!) (G4!) p);(.rw[<-eM];show e);(.rw[AX];(have e2:(At! Sk!).map (λi=>NH! i [])=BX! Bl!:=by show En?;rw[ZH];by_cases hj:gR!;(·(have h3:qj!=D! j:=by simp[ik,hj]);rw[h3];simp[hj]);·(have h3:qj!=none:=by simp[ik];show G1! Dr!);rw[h3,ER (CY! qR!)];rfl);have e7:=pp.map λi=>NH! i [];rw[e2] at e7;show e7);(.rw[EW];show po);.intro r hr;have⟨i,hi,e3⟩:=ZN hr;have IP:=pR!;have⟨p0,hp0⟩:=nX! L;have⟨a,h3,h4⟩:=FM i p0 hp0;rw[<-e3];(have e5:as.getD i 0=a:=GH! KJ h3);(have e6:e0!=p0.1:=by rw[KJ,ZH,hp0];rfl);change BE! (as.getD i 0) (FB ((NH! i []).map wp));rw[e5,e6];show h4)
open E
open S
inductive J1d(K:W.Frag)(xs:C!)(H:Hp)(Q:VK):B!
 | mk x n t b (_:xs=[x,.ty n]) (_:Qq K H x t) (_:Oi! K t (BR! n)=D! b) (_:Z9! b)
def Yq{X:E!}:JIV Sa! J1d:=by
 show X?;have⟨x,n,t,b,rfl,ty,e,q⟩:=h;obtain⟨u1,u2,rfl,r1,r2⟩:HK λu1 u2=>us=[u1,u2]/\FB! x u1/\RelV (.ty n) u2:=by cases r with | cons r1 t1=>cases t1 with | cons r2 t2=>show Hf? t2 r1 r2
 cases (show u2=JC4 from r2);show Jmx I r1 ty e λtk=>⟨bv b,H,I.tok tk,A!,q⟩
def Vg{K:W.Frag}{n:String}:Oi! K (BR! n) (BR! n)=D! q!:=by unfold W.kitOne;rw[AE (by simp)]
open E
@[reducible]abbrev T2:=Int×Int
abbrev tk(t:T2):Ko!:=[GE lc,GE AX!]
abbrev tv(t:T2):C!:=JUE
def y_(t:T2):(tk t).map kV=tv t:=A!
def zW(h:tk a=tk b):a=b:=by have⟨a1,a2⟩:=a;have⟨b1,b2⟩:=b;unfold tk at h;simp only[List.cons.injEq,Sum.inl.injEq,and_true] at h;rw[v6,h.2]
structure CN where
 BQ:Ch
 AY:Ch
 BF:Ch
 h:F!
 o:F!
 l:F!
 r:F!
 hand:G!
 AJ:Y!
 holds:Q0!
 AK:Y!
def Il{k:Str}{v:V}{r:DP!}:f0! k ((k,v)::r)=D! v:=by rw[IA];have:AU! (k==k):=NV k;rw[this]
def Bv{k j:Str}{v:V}{r:DP!}(h:¬k=j):f0! k ((j,v)::r)=f0! k r:=by rw[IA];have:Ad! (k==j):=IV! h;rw[this]
def Em:Az f v []=[(f,v)]:=A!
def Jut:Az f v ((f,x)::r)=(f,v)::r:=by grind [Az,V]
def B8(h:¬k=f):Az f v ((k,x)::r)=qe!:=by grind [Az,V]
def Hg:VN! EF!:=ZV
def Kw:VN! EG!:=ZV
def Y3:VN! A6!:=ZV
def Y2:VN! Cl!:=ZV
def U2:VN! Aw!:=ZV
def P6:VN! DB!:=ZV
def Y4:VO! DA!:=ZV
def Ow:VO! EG!:=ZV
def Jgv:VO! A6!:=ZV
def Jgu:VO! Cl!:=ZV
def Jdr:VO! Aw!:=ZV
def U3:VO! DB!:=ZV
def Ux:VP! DA!:=ZV
def Jdn:VP! EF!:=ZV
def Jdo:VP! A6!:=ZV
def Jdm:VP! Cl!:=ZV
def Y0:VP! Aw!:=ZV
def Rm:VP! DB!:=ZV
def Y6:VL! DA!:=ZV
def Jgx:VL! EF!:=ZV
def Jdv:VL! EG!:=ZV
def Jgw:VL! Cl!:=ZV
def Jdw:VL! Aw!:=ZV
def U5:VL! DB!:=ZV
def Y1:VQ! DA!:=ZV
def Jgs:VQ! EF!:=ZV
def Jdp:VQ! EG!:=ZV
def Jgt:VQ! A6!:=ZV
def Jdq:VQ! Aw!:=ZV
def U1:VQ! DB!:=ZV
def U4:VM! DA!:=ZV
def Jdt:VM! EF!:=ZV
def Y5:VM! EG!:=ZV
def Jdu:VM! A6!:=ZV
def Jds:VM! Cl!:=ZV
def Rp:VM! DB!:=ZV
def P5:VR! DA!:=ZV
def Uz:VR! EF!:=ZV
def Rn:VR! EG!:=ZV
def U0:VR! A6!:=ZV
def Uy:VR! Cl!:=ZV
def Ro:VR! Aw!:=ZV
abbrev B7(G:CN):DP!:=[(DA!,T! G.BQ),(EF!,T! G.AY),(EG!,T! Ie!),K7! A6! G.h,K7! Cl! WF,K7! Aw! na,K7! DB! G.r]
def Jbp(G:CN):JHj DA! G.BQ:=by unfold B7;rw[Il]
def Jkt(G:CN):JHj EF! G.AY:=by unfold B7;rw[Bv Y4,Il]
def Cq(G:CN):JHj EG! Ie!:=by unfold B7;rw[Bv Ux,Bv Jdn,Il]
def F9(G:CN):nm! A6! G.h:=by unfold B7;rw[Bv Y6,Bv Jgx,Bv Jdv,Il]
def Dw(G:CN):nm! Cl! WF:=by unfold B7;rw[Bv Y1,Bv Jgs,Bv Jdp,Bv Jgt,Il]
def E7(G:CN):nm! Aw! na:=by unfold B7;rw[Bv U4,Bv Jdt,Bv Y5,Bv Jdu,Bv Jds,Il]
def C8(G:CN):nm! DB! G.r:=by unfold B7;rw[Bv P5,Bv Uz,Bv Rn,Bv U0,Bv Uy,Bv Ro,Il]
def Jhd(G:CN)(y:Int):U7! Az EF! y B7 G=B7 { G with AY:=y }:=by unfold B7;rw[B8 Hg,Jut]
def Bq(G:CN)(y:Int):U7! Az EG! y B7 G=B7 { G with BF:=y }:=by unfold B7;rw[B8 Kw,B8 Ow,Jut]
def Jw3(G:CN):nz! DB! G.r (Y0! Aw! na (Y4! Cl! WF A6! G.h (Az EG! (V! Ie!) (Az EF! (V! G.AY) (TO! DA! G.BQ)))))=B7 G:=by unfold B7;rw[Em];rw[B8 Hg,Em];rw[B8 Kw,B8 Ow,Em];rw[B8 Y3,B8 Jgv,B8 Jdo,Em];rw[B8 Y2,B8 Jgu,B8 Jdm,B8 Jgw,Em];rw[B8 U2,B8 Jdr,B8 Y0,B8 Jdw,B8 Jdq,Em];rw[B8 P6,B8 U3,B8 Rm,B8 U5,B8 U1,B8 Rp,Em]
def B9(G:CN){m:Str}(h:wT (([DA!,EF!,EG!,A6!,Cl!,Aw!,DB!]:AC).contains m)):Ab! (B7 G).lookup m:=by simp only[QA,Bool.or_eq_false_iff,DX] at h;have⟨h1,h2,h3,h4,h5,h6,h7,_⟩:=h;unfold B7;rw[Bv h1,Bv h2,Bv h3,Bv h4,Bv h5,Bv h6,Bv h7];rfl
def D5(G:CN):Ak! B7 G<1000:=by change 7<1000;decide
abbrev Bk(l:G!):HO:=JLU (kV! (tk t))
abbrev Dl(l:Y!):HO:=JLU IK!
abbrev Fc(l:Q0!):HO:=JLU Nv!
def D9(l:Q!)(k:C4!)(f:IH!)(t:T2):JJ0=(If! (AG! (k q=t))).map f:=by
 unfold Ce;rw[P',gS!];congr 1;congr 1;funext q;change Fd! (Mr! (tk (k q)) tk t) (k q=t);by_cases e:k q=t;.rw[e];simp
 show IF? zW
def Jce{α:UF}{l:Q!}{k:C4!}{f:IH!}{t:T2}(h:X6! bi!):JJ0=none:=GH! D9 (UK! (zF! (FT! h)))
def Lz{α:UF}{l:Q!}{k:C4!}{f:IH!}{t:T2}(v:V)(h:X6! bi!):EA! (PZ! a7!) (tk t) v=PZ! a7!++[(tk t,v)]:=Ib v (Jce h)
abbrev BX(G:CN):Z!:=JLC (bG! Fw!)
structure BD(C:Addr)(H:Hp)(p:Addr)(G:CN):B! where
 ob:zG! (Mt! (B7 G))
 dh:ia! G.h Ax!
 dO:ad! WF BL!
 dl:VC! na re
 dr:ad! G.r AO!
 hl:Ox! (ia! Tk BF!)
 nd:(BX G).Nodup
abbrev ZW(p:Addr)(G:CN)(H H':Hp):B!:=iV! Ig! iT! IE!
open S
variable {C p:Addr}{H H':Hp}{G:CN}
def BD.keep(x:bi)(k:dj! (b=p\/Qk!)):ap! G:=by
 have m0:G.h∈CV!:=LV!
 have m1:G.o∈CV!:=LV!
 have m2:zH!:=LV!
 have m3:G.r∈CV!:=LV!
 show⟨QS! Gr!,Vk! m0 x.dh,Vk! m1 x.dO,Vk! m2 x.dl,Vk! m3 x.dr,AN! (Vk! ?_ (x.hl q hq)),BY!⟩;unfold BX;show JJY
def BD.same(x:bi)(s:XV):ap! G:=x.keep (XW! (Jb! s))
def BD.MV(x:bi)(hb:Qk!):∃kvs,PM! b wv Db:=by
 unfold BX at hb;show B8?;.show u? x.dh
 show Gk?;.show u? x.dO
 show Gk?;.show u? x.dl
 show Gk?;.show u? x.dr
 show Dd? hb;rw[<-e];show⟨_,FT! x.hl⟩
def BD.UO(x:bi)(hb:Qk!):Ig!:=by show De? x.MV;show C9?;show Q5 e e' Wt!
def BD.tup_ne(x:bi)(hb:JTk):Ig!/\iT!:=by show C9?;show⟨Q5 hb e' Wt!,Qn!⟩;have⟨kvs,e⟩:=x.MV m;rw[hb] at e;cases e
def BD.WT(x:bi)(hb:JEy):Ig!/\iT!:=by show C9?;show⟨Q5 hb e' Wt!,Qn!⟩;have⟨kvs,e⟩:=x.MV m;rw[hb] at e;cases e
def BD.bJ(x:bi):(G.h≠G.o/\G.h≠G.l/\G.h≠G.r)/\(G.o≠G.l/\G.o≠G.r)/\G.l≠G.r/\Ox! (Tk≠G.h/\Tk≠G.o/\Tk≠G.l/\Tk≠G.r):=by have nd:=x.nd;unfold BX at nd;simp only[BB,BU,not_or] at nd;have⟨⟨a1,a2,a3,a4⟩,⟨b1,b2,b3⟩,⟨c1,c2⟩,d1,_⟩:=nd;show⟨⟨a1,a2,a3⟩,⟨b1,b2⟩,c1,BQ!⟩;have m:Tk∈bG! Fw!:=BL hq;show⟨nW! a4,nW! b3,nW! c2,nW! d1⟩
def BD.fld(x:bi)(dx:Addr)(m t:Int):Hk! (Zx! (Mt! (B7 { G with AY:=m,BF:=t }))) { G with AY:=m,BF:=t }:=by
 have n:∀{b},Qk!->Ig!:=λhb=>x.UO hb;have m0:G.h∈CV!:=LV!
 have m1:G.o∈CV!:=LV!
 have m2:zH!:=LV!
 have m3:G.r∈CV!:=LV!
 show⟨Hr! Ab,px! m0 x.dh,px! m1 x.dO,px! m2 x.dl,px! m3 x.dr,BQ!,BY!⟩;rw[Ad (n (by unfold BX;show JJY))];show x.hl q hq
def BD.OF(x:bi)(l:Y!):nY! WF Dl { G with AJ:=l }:=by show Bn?;show Ck? WF;show AR?;show K4? a1 Ab (JBx b1.symm) (JTQ b2.symm) (JI6 (d1 q hq).2.1) BY!
def BD.RC(x:bi)(l:G!):nY! G.h Bk uX!:=by show Bn?;show Ck? G.h;show AR?;show⟨Hr! (vl! np.symm),Ab,JTP a1.symm,JBx a2.symm,JTQ a3.symm,JI6 (d1 q hq).1,BY!⟩
def BD.WV(x:bi)(l:Y!):nY! G.r Dl { G with AK:=l }:=by show Bn?;show Ck? G.r;show AR?;show K4? a3 (JTP b2) (JBx c1) Ab (JI6 (d1 q hq).2.2.2) BY!
def BD.iP(x:bi)(t:T2)(ha:JFN [])(hf:a∉CV!):Hk! (PO! na Fc (JE3)) { G with holds:=JE3 }:=by
 show Bn?;show Ck? na;show AR?;show IS? a2 b1 Ab c1.symm BQ! ?_;.show Bf?;(.rw[Ad (d1 q hq).2.2.1];show x.hl q hq);·(have e2:q=(t,a,[]):=by simpa using hq);subst e2;have:a≠G.l:=λz=>hf (by rw[z];simp[BX]);rw[Ad this];show ha
 ·(have e2:BX { G with holds:=JE3 }=CV!++[a]:=LV!);rw[e2];show Gq BY! hf
open E
abbrev QR(t:T2):Ev!:=LD! JUE
abbrev pO(q:Mq!):Ev!:=LD! [QR H!,T! Tk,JHs q.2.2.map]
abbrev yo(q:EE!):Ev!:=LD! [QR H!,T! PP]
abbrev sE(hs:G!)(os:B0!)(rs:Y!):Ev!:=LD! [JHs X7!,MI! (De! pO),MI! (KT! yo)]
def Tf(t:T2):y! (QR t).canLay0/\(QR t).depth<=2:=by
 unfold QR;show q?;.simp[PyData.canLay0,PyData.canLayAll0]
 .show F4?
def R8(t:T2):ao (QR t):=⟨(Tf t).1,CW! (Tf t).2⟩
abbrev BS(H:Hp):lV! G!:=Qg! (λa t=>JD1)
def M0{K:W.Frag}{H:Hp}{a:Addr}{t:T2}(e:JD1):JGF QR t:=KU! (ED! e) (nN! hr!)
def Jcg{K:W.Frag}{H:Hp}{as:Z!}{ts:G!}(p:IM!):Wz! (Ar! CK!) KV! QR:=Jyk (λ_ _ e=>M0 e) p
abbrev LB(a b:T2):B!:=Vb! [a.1,a.2] [b.1,b.2]
def E4(a b:T2):dB!↔(a.1<b.1\/(es!/\a.2<b.2)):=by
 unfold LB;rw[Ou!,Ou!];by_cases h1:es!;.rw[AE h1];by_cases h2:a.2=b.2;(.rw[AE h2,HT.QE];show q?;(.intro z;cases z);.intro z;lia);.rw[AD h2];show q?;(.intro z;show GM! h1 (BV z));.intro z;show JDX
 .rw[AD h1];show q?;(.intro z;show S! (BV z));.intro z;show JDX
open S
inductive Mq(xs:C!)(H:Hp)(Q:VK):B!
 | mk d (l:EN! (T2×V)) (ss:G!) (_:nL!) (_:JIj db) (_:l.length<64) (_:by! ss.Perm db) (_:ss.Pairwise LB) (_:∀(r:Addr)(as:Z!),cE!->BS H as ss->cO! r r GU!)
def C0(hc:BK!):oU! Mq:=by
 show F5?;have⟨d,l,ss,rfl,hd,XS,pm,pw,q⟩:=h;show Ql hc AB s σ H _ us Q I rv ⟨d,db λq=>([q.1.1,q.1.2],PP),A!,?_,CY! XS,?_,?_,λr M hr mp mw ma=>?_⟩;·show Hh? (JNu R1! (λp=>(JKr,pi)) at!);rw[e];show hd
 ·(have nd:ss.Nodup:=pw.imp λ{a b} h z=>JLx);have YH:cd!:=pm.nodup_iff.mp nd;(have e:JCu (db R1!).map JE9:=JCw AX);rw[e];show List.Pairwise.map _ (λa b h z=>h (by have⟨a1,a2⟩:=a;have⟨b1,b2⟩:=b;simp at z;rw[z.1,z.2])) YH
 .intro p hp;have⟨q,_,e⟩:=ZN hp;rw[<-e];simp
 ·(have e:JCu (db R1!).map JE9:=JCw AX);rw[e] at mp;(have e2:JCu M.map ss.map:=by show Nc (lt:=λa b=>y! (X3! a b)) (λa z=>by rw[Sn] at z;cases z) (λa b h1 h2=>by have:=ur h1 h2;show N? Sn;cases this) (mp.trans (pm.symm.map _)) ?_ ?_;(.rw[EW];show mw);.rw[EW];show pw);(have hl:M.length=ss.length:=by show AP? e2;show Y?);(have e3:(M.map λp=>AA! pi)=(M.map CI!).map CK!:=UU!);rw[e3];show q r _ hr (Ec (CY! hl) λj a t e4 e5=>?_);rw[ZH] at e4;cases hm:M[j]? with | none=>rw[hm] at e4;cases e4 | some m =>rw[hm] at e4;cases e4;(have e6:(M.map (·.1))[j]?=D! m.1:=JCv hm);rw[e2,ZH,e5] at e6;have e7:[lc,AX!]=m.1:=ZO e6;have:=DQ! ma m hm;rw[<-e7] at this;show this
open E
def Jkv(h:JMl):JIj (db (kV! t)).map:=by
 have e:JNu (kV! t) at! (kV! (tk t)):=UU!
 rw[e];show M7!
def Jqf(h:JJj):JIj (db n2!).map:=by
 have e:JNu n2! at! IK!:=UU!
 rw[e];show M7!
def Es{K:W.Frag}{a p:Addr}{xs:C!}{tt:TT}{te:TE}{caps:Cb!}{σ:L2.St}{H:Hp}{Q:Gi!}(Pv:No!)(h0:OL!)(hl:pe! JGP)(hs:so!)(hd:We!) : Ff! (FV! (FP! (VZ K a).stop Dv! (VZ K a).go (VZ K a).RU (UJ! H3 M6! DW!))):=by
 show EX?;show Cq?
 show Cj?
def Yn{lo:Int}{n:Nat}{p:Addr}{tt:TT}{te:TE}{caps:Cb!}{σ:L2.St}{H:Hp}{Q:Gi!}(Pv:No!)(h0:OL!)(hl:∀i ys H2,i<=n->vr!->Hi!)(hs:∀i ys H2 (N:JH!),w1! (i<n) (JPK (Z2! (Du! (lo+i))) (Z2! (Du! (lo+i)))))(hd:JSX n) : Ff! (FV! (FP! (fY lo n).stop Dv! (fY lo n).go (fY lo n).RU (UJ! H3 M6! DW!))):=by
 show DR? (n-i) (i<=n) n;show Bo?;show f? jH!;by_cases IP:i<n;.show GV? IP;show Cy?;subst e y;show hs i ys _ (wh! (n-i) (n-AB!) (Aj!<=n)) IP pv ix!
 show He? (i=n) wg!
open S
variable {X:Cx Kx}{sc:Scope}{cl:List (Str×Addr)}{AB:List (Addr×Obj)}{σ:L2.St}{H1:Hp}{s1:Shared}{fp:List Addr}{N:List Str}
open E
abbrev Jny(K:W.Frag)(wi:TI)(caps:Cb!)(tt:TT)(te:TE):TE:=sP! (Hi! /\
 sx! (NM λa u v=>Bg!/\DC K H3 a [u,v]/\tt (r5!) H3 λb H4 =>
   if XZ! then nE! r5!
   else DW!))
open S
variable {X:Cx Kx}{elt iter:Expr}{x y0:Str}{px aV pt pos:Pos}{kt:Nat}{ifs:List Expr}{sc:Scope}{cl:List (Str×Addr)}{caps:List (Str×Nat)}{wi:TI}{tt:TT}{te:TE}
def Jjk{X:E!}{AB:x!}{σ:L2.St}{H:Hp}{s:Shared}{Q:VK}{use:eK!}{RQ:Os}(hc:BK!)(hi:pB! eu!)(J':J8!)(JE:J3!)(H_:GZ!)(IF:J9!)(hx:Gm!)(br:m7!)(KG:Fi!)(has:KA!)(LY:Fh!)(hN:(x::y0::Cg caps).Nodup)(ht:aF! bB!)(he:aE! bB!)(I:I!)(h:JRU Jny Q)(fin:fh!)(hs:KC!) : fi! (JSy eu!) (SR! eu! kt pt):=by show Ef?;have lg:cz! y0:=FL br;show Fp? [x,y0] (λy H R=>NM λa u v=>y=Br!/\DC Kx H a [u,v]/\R (r5!));show F0?;have⟨ay,uu,vv,ey,gF,q⟩:=b7;match ws,wl with | [v0,v1],_ =>show Jj? (Uq (X:=JDl bB!) hc (du! (SF! 0 bt bt) (SF! 1 lg lg)) A! A! _ s7 (v0::v1::Kl!) H7 y u (qW! (Ix uu::vX! vv)) I7 r7 ⟨ay,_,ey,gF,A!,_,_,A!,_,_,A!,A!,A!,A!⟩) [Ix uu,Ix vv] q
def Jpj{X:E!}(hc:BK!)(hi:pB! eu!)(J':J8!)(JE:J3!)(H_:GZ!)(IF:J9!)(hx:Gm!)(br:m7!)(KG:Fi!)(has:KA!)(LY:Fh!)(hN:(x::y0::Cg caps).Nodup)(ht:aF! bB!)(he:aE! bB!)(hs:KC!:=by intro _;rfl):CS! (JSy eu!) (Jny Kx wi be tt te):=JRd (Jjk (use:=KM) hc hi J' JE H_ IF hx br KG has LY hN ht he I h (?_) hs)
open E
abbrev uj(p d:Addr):HO:=.ext λh=>h.IsItemsView p d
def Rq(d:Addr)(hd:cY!) : MeetsIn B2! w (Builtin.«dict.items» (Hl! [JO!])) (λ_ R s=>Vu! d DZ!/\JHX Uf (KJ! (ne! Sm! bd!))) :=.of_wp λA R s ⟨ht,h⟩=>by unfold Builtin.«dict.items»;show ZR ?_;unfold Builtin.Dict.noArgs;show Ag? KZ ht;show BG? (BU! d);show ZS ?_;show B3? (Builtin.Dict.showsAll d);unfold Builtin.Dict.showsAll;show D0? hd;show BV?;show ZR (CS (ZS (Dn! h)))
open S
def Jp4:uD X "dict.items" (λx xs H Q=>HK λd kvs=>x=JO!/\xs=[]/\nr!/\Qe! (Zx! (uj p d))):=by intro AB s σ H x xs v us Q I rx rs h;have⟨d,kvs,rfl,rfl,hd,q⟩:=h;show H?;cases rs;have⟨z,lo,ys,rel,o,es,ep,g1,g2,g3,g4,g5⟩:=JGv oQ!;show PySem.call_meetsIn PySem.F.slot_dict_items (Ea! g1 g2.1) PySem.F.entry_dict_items (PySem.F.args_dict_items_1 _) (Rq d lo) (Bv! (Ea! g1 g2.1));show Ci?;show H6? (JUJ (uj Uf d) NG! ?_);have g:AT (IS! (aj! Sm! bd!)).get? Uf (aj! Sm! bd!):=Cu!;show⟨iJ! g,Bq! g,λh1 h2 ⟨o,e,r⟩ k=>JNA⟩
open E
abbrev Cn(vs:BP!)(a0:Value):B!:=a0=IR/\JG6 a0
abbrev i_(h:Heap)(g:l1!)(e:Addr)(cls:Value):B!:=g e/\NM λoe vs a0=>Jo! e oe/\oe.cls=cls/\kW!/\Cn vs a0 /\
 (JG5 IR\/NM λT oT ts=>JG5 (IN T)/\g T/\T≠e/\Jo! T oT/\qk!/\z9! IR)
def i_.mono(x:i_ h g e ww)(k:∀b,g b->g' b):i_ h g' e ww:=by have⟨g1,oe,vs,a0,h1,h2,h4,h5,h6⟩:=x;show⟨k _ g1,oe,vs,a0,h1,h2,h4,h5,h6.imp (λz=>z) ?_⟩;rintro⟨T,oT,ts,t1,t2,t3⟩;show⟨T,oT,ts,t1,k _ t2,t3⟩
abbrev pD(h:Heap)(g:l1!)(e:Addr)(cls fl:Value):B!:=g e/\kA λoe vs a0 T oT ts=>Jo! e oe/\oe.cls=cls/\kW!/\Cn vs a0/\JG5 (IN T)/\g T/\T≠e/\Jo! T oT/\qk!/\z9! fl
abbrev i9(h:Heap)(g:l1!)(e:Addr)(cls:Value):B!:=pD h g e ww IR
def i9.at(x:i9 h g e ww):i_ h g e ww:=by have⟨g1,oe,vs,a0,T,oT,ts,h1,h2,h3,h4,h5⟩:=x;show⟨g1,oe,vs,a0,h1,h2,h3,h4,o! ⟨T,oT,ts,h5⟩⟩
abbrev ZX(P:Program)(w:World):bV:=λouter H s E e s'=>NM λex cls H'=>e=h! ex/\i9 Gy! (λb=>JHp Fm!) ex ww/\E ww KM H'/\tc!/\xg!/\JJ3 BV! []/\WW! H' Gy!
def Qf(ok:El!)(e:c7!):∃ob,JV! ob:=by have x:=ok a o e;cases o with | BK xs=>have⟨_,_,_,_,e⟩:=x;show⟨_,e⟩ | BE xs=>have⟨_,_,_,o,e,_⟩:=x;show⟨_,e⟩ | dK kvs=>show Ct?;show⟨_,e⟩ | dT kvs=>show Ct?;show⟨_,e⟩ | set S n=>have⟨o,_,_,_,e,_⟩:=x;show⟨_,e⟩ | ins C dx fs=>have⟨_,_,_,e,_⟩:=x;show⟨_,e⟩ | own y=>have⟨_,e⟩:=x;show⟨_,e⟩ | xd fs=>have⟨_,⟨_,_,_,e,_⟩,_⟩:=x;show⟨_,e⟩ | sM lo hi=>have⟨_,_,_,e⟩:=x;show⟨_,e⟩ | IQ ob u=>have⟨e,_⟩:=x;show⟨_,e⟩ | fb ps=>show u? (qb!) | met f y=>show u? (qb!) | ext φ=>have⟨_,⟨_,e⟩,_⟩:=x;show⟨_,e⟩
structure NQ(fr:Z!)(g:l1!)(h h':Heap):B! where
 keep:JEC C2! (b∉fr) (¬g b)
 slot:Ce! (C2!->b∈fr->qc!)
def NQ.trans(a:NQ fr g h h1)(b:NQ fr g h1 h2):NQ fr g h h2 :=⟨uY! (b.keep c o (X8! c o e n1 n2) n1 n2),λc o e m=>by have⟨sl,e1⟩:=a.slot c o e m;have⟨cP,e2⟩:=b.slot c _ e1 m;show⟨cP,e2⟩⟩
open S
variable {M:Model}{A:Around}{E:Value->Shared->Prop}{s:Shared}{base:Heap}{env:Env}{outer:List Env}{L e:Addr}{cls:Value}{g:Addr->Prop}
def Jk5{head:Value}{hn:Bool}{oe:Obj}{vs:BP!}{Q:Fb!}(bz:qh!)(hl:fU!)(hf:ql!)(he:JE8 e)(hd:kW!)(hsz:1<vs.size)(h:∀h' T oT ts jZ,Zu! e jZ->jZ.cls=oe.cls->jZ.data=.fields (vs.setIfInBounds 1 (IN T))->Ab! Fm! T->T≠e->Zu! T oT->qk!->z9! JFn ->
  (JEC (b≠e) (b∉SS (gT!)) DL!)->(Ce! (b≠e->DL!->qc!))->ZT! ()) :
 QO! (do let a <-PySem.frameOf env;let pl <-entryPlaceOf L hn;let b <-EntryCells.newEntry head a IR JFn IR pl;X0! lK! 1 b):=by
 have JBL:e∉(gT!).filterMap (·.frame):=λhm=>by
  have⟨_,o,ho,oS⟩:=hl.mem hm
  rw[he] at ho;cases ho
  show oS vs hd
 show ZR (wpAny_frameOf_fun bz hl hf λh1 s1=>ZR (wpAny_entryPlaceOf λpl TY=>?_))
 unfold EntryCells.newEntry newFields
 show ZR (CS ?_ (TY.sizeOk5 _ _ _ _ _))
 obtain⟨ob,xM⟩:∃ob:Obj,ob={ cls:=GB! "traceback",dict:=none,data:=.fields ([head,h! L,IR,Xe! L,IR]++(if pl.isEmpty then f3! 6 KL! else pl)).toArray }:=BN!
 have e1:AT SG! e oe:=(s1.2.1 e JBL).trans he
 have e2:AT (h1.push ob).get? e oe:=ZT _ e1
 have Te:h1.objs.size≠e:=EU (AU e1)
 rw[<-xM]
 show HR e2 hd hsz (h _ HB! ob _ _ (EH _ e2 (K_ (FJ hd _))) (AC! uO!) (FJ hd _) ?_ Te ((CG _ _ (OZ! Te)).trans (ZU h1 (by rw[xM];rfl))) (by rw[xM]) KB (λb o hb hm q=>?_) λb o hb q=>?_)
 .cases q:Fm! HB! with
  | none=>rfl
  | some o =>
    have⟨sl,q2⟩:=s1.2.2 _ o q
    show GO! AU q2 aJ!
 .show(CG _ _ i3!).trans (ZT _ ((s1.2.1 b hm).trans q))
 .have⟨sl,q2⟩:=s1.2.2 b o q
  show⟨sl,(CG _ _ i3!).trans (ZT _ q2)⟩
def Cn.set{vs:BP!}{a0 v:Value}(c:Cn vs a0):Cn (vs.setIfInBounds 1 v) a0:=xA! c.1 (TN! Array.getElem?_setIfInBounds_ne) c.2
def Jwg{Q:Fb!}(bz:qh!)(hl:fU!)(hf:ql!)(x:JIE)(fresh:JNe)(h:JTw (JIv JFn) p7!):n7! noteFrame env:=by
 have⟨ge,oe,vs,a0,h1,rfl,h3,h4,h5⟩:=x;unfold noteFrame;simp only[hf];rcases h5 with h5|⟨T,oT,ts,t1,t2,t3,t4,t5,t6⟩;.have z1:=(FE.mp h5).1;show JU? h5;show Da?;show Jk5 bz hl hf h1 h3 z1 λh' T oT ts jZ k1 k2 k3 k4 k5 k6 k7 k8 k9 wu=>h h' ⟨ge,jZ,_,a0,T,oT,ts,k1,k2,k3,h4.set,by simp[z1],fresh T k4,k5,k6,k7,k8⟩ ⟨λb o q m n=>k9 b o (JJH ge) m q,gU! (wu b o VT! q)⟩;have⟨_,o',e',hn⟩:=hl.mem m;rw[z,h1] at e';cases e';show hn vs h3
 .have z1:=(FE.mp t1).1;show JU? t1;show Jy?;show ZR (C_ t4 t5 t6 ?_);rw[AD (show ¬(AU! (Value.none==Xe! L)) by simp[rawInt])];show ZR (HR t4 t5 JHE ?_);have other:∀b,b≠T->(Op! T (X1! (·.setIfInBounds 3 Value.none))).get? b=Fm! b:=ut (CG _ _ (OZ! hb));(have nr:Ce! (DL!->(∀vs,o.data≠wv!)->b≠T):=λb o hb oS q=>by rw[q,t4] at hb;cases hb;show oS ts t5);(have nfr:∀b∈SS (gT!),b≠e/\b≠T:=λb m=>by have⟨_,o',e',hn⟩:=hl.mem m;show⟨GY!,nr b o' e' hn⟩;rw[z,h1] at e';cases e';show hn vs h3);show Jk5 (AW!:=AW!) bz (hl.of_keeps λb o hb oS=>CB! o ((MJ! b (nr b o hb oS)).trans hb)) hf ((MJ! e (OZ! t3)).trans h1) h3 z1 λh' T' oT' vk jZ k1 k2 k3 k4 k5 k6 k7 k8 k9 wu =>h h' ⟨ge,jZ,_,a0,T',oT',vk,k1,k2,k3,h4.set,by simp[z1],?_,k5,k6,k7,k8⟩ ⟨λb o q m n=>k9 b o (JJH ge) m ((MJ! b (JJH t2)).trans q),gU! (wu b o (nfr b m).1 ((MJ! b (nfr b m).2).trans q))⟩;by_cases z:T'=T;(.rw[z];show t2);.show fresh T' (CZ! (MJ! T' z) k4)
def Jzn{Q:Fb!}{fl:Value}{fo:Nj!}{fr:Z!}(x:pD Go g e ww fl)(hg:gV! (¬g b))(h:JTw (JIv (fo.elim IR λf=>Xe! f)) fr):n7! gW! fo:=by
 have⟨ge,oe,vs,a0,T,oT,ts,h1,h2,h3,h4,t1,t2,t3,t4,t5,t6⟩:=x;have hsz:3<ts.size:=JHE;unfold setFlight;show JU? t1;show Jy?;show HR t4 t5 hsz (h _ ⟨ge,oe,vs,a0,T,_,_,(CG _ _ t3).trans h1,h2,h3,h4,t1,t2,t3,rl! t4 t5,FJ t5 _,by simp[hsz]⟩ ⟨λb o q _ n=>?_,gU! ?_⟩);.show q5! (ZY! n t2)
 .show⟨o.slots,q5! (hg b m (ln! t2))⟩
def Jws{Q:Fb!}(x:i9 Go g e ww)(hg:gV! (¬g b))(h:JIS fr):n7! gW! KM:=Jzn (fo:=KM) x hg h
def Jzm(hl:fU!)(x:JIv fl)(a:NQ p7! g Go h'):∀T oT ts,Zu! T oT->qk!->T∉SS (gT!):=λT oT ts k1 k2 m=>by have⟨_,o,e1,hn⟩:=hl.mem m;have⟨sl,e2⟩:=a.slot T o e1 m;rw[k1] at e2;cases e2;show hn ts k2
def Jp7{Q:Fb!}(bz:qh!)(hl:fU!)(hf:ql!)(x:JIE)(fresh:JNe)(h:JIS p7!):F9! M A (Kt! noteFrame e env) (λ_ s2=>F9! M A (Kt! gW! e KM) Q E s2) E s:=by
 show Jwg bz hl hf x fresh λh1 x1 a1=>?_;have fr:=Jzm hl x1 a1;have⟨ge,oe,vs,a0,T,oT,ts,b_,h2,h3,h4,t1,t2,t3,t4,t5,t6⟩:=x1;have hsz:3<ts.size:=JHE;unfold setFlight;show ZR (C_ (s:=KW!) b_ h3 t1 ?_);show Jy?;show HR (s:=KW!) t4 t5 hsz (h _ ⟨ge,oe,vs,a0,T,_,_,(CG _ _ t3).trans b_,h2,h3,h4,t1,t2,t3,rl! t4 t5,FJ t5 _,by simp[hsz]⟩ (a1.trans ⟨λb o q _ n=>?_,gU! ?_⟩));.show q5! (ZY! n t2)
 .show⟨o.slots,q5! (fr T oT ts t4 t5 (xE! m))⟩
def Jti{Q:Fb!}(bz:qh!)(hl:fU!)(hf:ql!)(x:JIE)(fresh:JNe)(h:JIS p7!):QO! (leaving env lK!):=ZR (Jp7 bz hl hf x fresh h)
open E
open S
variable {X:Cx Kx}{AB:List (Addr×Obj)}{σ:L2.St}{H H1:Hp}{s s1:Shared}{h':Heap}{g:Addr->Prop}{ex:Addr}{cls:Value}
def Jbo(ok:WW! H1 h)(a:NQ fr g h h')(hf:gV! Va!)(hg:∀b,g b->Va!):WW! H1 h':=λb o e =>(ok b o e).RA (λc u hc q=>X8! c u q (λm=>by have:=hf c m;show CI?;(.show AH? this);.show Ep? this) (λm=>by have:=hg c m;show CI?;(.show AH? this);.show Ep? this)) (SH!) L5!
def Jey(u:Un fs [] H0 H1 s0 h)(a:NQ fr g h h')(hg:ws! s0.get? (¬g b))(bz:Ce! (GA! s0.get?->b∈fr->b∈fs))(hH:gV! Va!):Un fs [] H0 H1 s0 h' where
 keep:=λb o e n1 n2 n3=>X8! b o (u.keep b o e n1 n2 n3) (λm=>n2 (FI! bz m)) JDM
 slot:=λb o e n1 m n3=>by
  have⟨sl,q⟩:=u.slot b o e n1 m n3
  by_cases hm:b∈fr
  .have⟨cP,q2⟩:=a.slot b _ q hm
   show⟨cP,q2⟩
  .show⟨sl,X8! b _ q hm JDM⟩
 free:=u.free
 there:=λb o e n=>by
  have⟨o',q⟩:=JDO n
  by_cases hm:b∈fr
  .have⟨cP,q2⟩:=a.slot b _ q hm
   show u? q2
  .show u? (X8! b _ q hm JDM)
 RX:=u.RX
 PV:=u.PV
 RY:=u.RY
open E
abbrev Jrk(X:E!)(E:XK):B!:=∀(AB:x!)(σ:L2.St)(H1:Hp)(s1:Shared)(ex:Addr)(cls:Value),UC!->i_ s1.heap (λb=>FE! OW!/\Va!) ex ww->E ww KM H1->X.xe (IN ex) s1
open S
variable {P:Program}{w:World}{K:W.Frag}{mg:Str->Option Value}{base:Heap}{N:List Str}{qual:Str}{scope:Scope}{f:Addr}{cd:Value}{A:Around}{outer:List Env}{s:Shared}{H:Hp}{E:XK}
def Jj:Jrk (v1! LI! scope cd) E:=by
 intro AB σ H1 s1 ex cls I x hE;have LW:aA! (∃o',Kj! uN! o'):=Cf! (FI! fr! (by simp[Ke]));show Jti (AW!:=AW!) (L:=Uf) I.ok.frames I.stack A! x (λb q=>?_) λh' x' as=>?_;.show q?;(.cases q2:Fm! b with | none=>show q2 | some o =>have⟨o',e⟩:=LW b o q2;rw[q] at e;cases e);.cases q2:H1 b with | none=>rfl | some o =>have⟨ob,e⟩:=Qf Au! q2;rw[q] at e;cases e
 .have SX:∀b∈SS (fg!::outer),Va!:=ut (C5! I.UC);show⟨ex,ww,H1,A!,x',hE,I.os,SL!,Jey (fs:=SS BV!) I.base as (λb o e z=>?_) (λb o e m=>?_) SX,Jbo Au! as SX λb z=>z.2⟩;(.have:=z.1;have e':DL!:=e;show w? (Ih! ((Ke (ZX P w) P w K mg base N qual scope f cd A outer s H E).JK.heap.get? b=Fm! b)) e';cases this);.show d? (ZM (show b∈s.heap.objs.size::SS BV! from m));(.have:=AU (show DL! from e);show N? z;show I? this aJ!);.show z
def Bi:Jp LI! JUd E:=by intro AB σ H0 s0 e s' I ⟨ex,cls,H',he,x,hE,ho,hg,u,ok⟩;subst he;have I':Inv JUd AB σ H' s':=I.a8 (ch:=[]) ho u ok hg JDd;show Jj AB σ H' s' ex ww I' (x.at.mono λb z=>⟨?_,z.2⟩) hE;cases q:Fm! b with | none=>show q | some o =>have⟨o',e⟩:=fr! b o q (by simp[Ke]);rw[z.1] at e;cases e
open E
open S
variable {P:Program}{w:World}{K:W.Frag}{mg:Str->Option Value}{base:Heap}
def ok1{x qual:Str}{st:Stmt}{f:Addr}{fd:FuncData}{N ps:AC}{k:Nat}{sp:Sp}(F:WX!)(S:sL!)(len:pM!)(UW:∀(EO:Value) (A:Around) (outer:Ca!) (s:Shared) (H:Hp) (vs:C!) (Q:VK) (E:XK),JKM JM4 (SW (JEr LI! NT!) RT! t)):qQ! LI!:=by show C4?;show Juy lk TH S len λA outer s H vs Q E hr bM=>UW EO A BV! s H vs Q E hr bM
def Fl{x qual:Str}{st:Stmt}{f:Addr}{fd:FuncData}{N ps:AC}{k:Nat}{sp:Sp}(F:WX!)(S:sL!)(h:JSp (Bd P w K mg AW! LI! am N ps qual st f k vs H Q E)):qQ! LI! :=ok1 F S (λvs H Q E z=>(h vs H Q E z).1) λEO A outer s H vs Q E hr z=>(h vs H Q E z).2 EO A BV! s hr
def FR.VD{k:Nat}{f:Addr}{fd:FuncData}{ps:AC}{sp:Sp}(F:s5! XM):s5! LI! :=⟨F.len,λA outer s H args us vs Q E hr he hb hv hs=>I_ (JOM A BV! D9! E he hb hv hs) λr s' h=>by cases r with | ok fl=>cases fl<;>show h | error e=>show Dy?⟩
open E
abbrev mV:k!:=[JR0,GB! "Exception",GB! X9!,GB! "object"]
structure Qo(K:W.Frag)(mg:sw)(x:Str)(C:Addr):B! where
 mg:FA! mg Jq!
 ex:JE5 C
open S
variable {X:Cx Kx}{x:Str}{C:Addr}{E:XK}{np IX pos p1:Pos}{msg:Str}{j:Nat}
def Jk4{K:W.Frag}{h:Heap}{C:Addr}(XK:b2!)(q:JE5 C):vT λnm q N bs bm hdct sn sub=>qB λab col dd k0 k1 k2 k3=>HK λk5 mN=>Jo! C (excClassObj nm q C N bs bm hdct sn sub ab col dd k0 k1 k2 k3 k5 uZ!)/\h.Ns N mN/\Ab! mN fz!/\OwnTail h mV bm:=by
 unfold W.excIn at q;split at q;.rename_i dd cd sl ho;split at q;(.rename_i C' bm k0 k1 k2 k3 n k5 hm hs;simp only[HD,NS,Bool.not_eq_true'] at q;have⟨⟨⟨⟨⟨rfl,rfl⟩,qi⟩,ht⟩,EI⟩,oR⟩:=q;have⟨nm,bs,mro,ns,qn,hd,sn,sub,ab,col,del⟩:=cd;dsimp only at hm qi EI oR;subst hm qi;(have ia:sl=#[k0,k1,k2,k3,HU! G2! uZ!,k5]:=by have⟨l⟩:=sl;simp only at hs;rw[hs]);subst ia;show⟨nm,qn,ns,bs,bm,hd,sn,sub,ab,col,dd,k0,k1,k2,k3,k5,_,L! XK ho,.of_isNs (W.isNs_of_in XK EI),W.nsMap_none_of_in XK EI oR,W.tail_of_in XK ht⟩);.cases q
 .cases q
def Jnl{X:E!}{h:Heap}{mg:sw}(XK:Kx.In h)(c:Qo Kx mg x C):vT λnm q N bs bm hdct sn sub=>qB λab col dd k0 k1 k2 k3=>HK λk5 mN=>Jo! C (excClassObj nm q C N bs bm hdct sn sub ab col dd k0 k1 k2 k3 k5 uZ!)/\h.Ns N mN/\Ab! mN fz!/\OwnTail h mV bm:=Jk4 XK c.ex
def Ie{X:E!}(hc:BK!)(hg:Gs!)(c:Qo Kx X.mg x C)(hx:Jrk X E)(hex:X.ex=[]:=by rfl)(hd:D1!:=by decide)(aP:wT (ci (L8! IX (Fn! tA! SL)).any):=by rfl)(hs:pJ! tA! (.Constant (bn msg) j p1):=by rfl) : PS X (.Raise (D! (.Call (Fo! x np) tA! [] IX)) KM AS!) (λ_ _ H=>JL! C):=by
 show i?;have⟨nm,q,N,bs,bm,hdct,sn,sub,ab,col,dd,k0,k1,k2,k3,k5,mN,hC,hN,oR,tl⟩:=Jnl (X:=X) I.mod.YR c;show wpAny_Raise_call_subU (C:=C) (nm:=nm) (q:=q) (N:=N) (bs:=bs) (bm:=bm) (hdct:=hdct) (sn:=sn) (sub:=sub) (ab:=ab) (col:=col) (dd:=dd) (k0:=k0) (k1:=k1) (k2:=k2) (k3:=k3) (k5:=k5) F.excBase_ValueError (bmB:=mV) ZV F.excBase_ValueError (tl.hasType ZV) Lw! aP oR ?_;show Gs I hg c.mg Fa! hd;have ha:PA X tA! (Ck (tC (bn msg)) F6):=Aa As Ae hs;have hA:=ha IX AB s σ H (λvs H1=>vs=[UV msg]/\H1=H) I Bj!;rw[hs] at hA ⊢;show HU (FO hA ?_);rintro us s2 ⟨vs,H2,I2,r2,e1,e2⟩;subst e1 e2;show⟨A!,by change us.length<=sizeLine;rw[<-r2.length];show DI? 1;decide,L! I2.bk hC,(let⟨o,es,ep,e,r⟩:=hN;⟨o,es,ep,L! I2.bk e,r⟩),tl.keeps I2.bk,λh' e hm=>?_⟩;have⟨t,ht,_⟩:=hm.there;have none_:∀b,FE! s2.heap.get?->FE! OW!/\FE! H2:=λb q=>by show q?;(.cases q2:OW! b with | none=>rfl | some o =>have⟨o',e'⟩:=I2.base.there b o q2 (Vp! hex);rw[q] at e';cases e');.cases q2:H2 b with | none=>rfl | some o =>have⟨ob,e'⟩:=Qf I2.EI q2;rw[q] at e';cases e'
 show CN? H2 { s2 with heap:=h' } (I2.kept (t':=s2.toks) hm.keeps);show hx AB σ H2 _ e Jq! I3 ⟨none_ e hm.new,_,_,_,ht,A!,A!,Bj!,Q6!⟩ h
open E
open S
variable {X:Cx Kx}{AB:List (Addr×Obj)}{σ:L2.St}{H:Hp}{s:Shared}
def Qa9{t':Nat}{fp:Z!}{h':Heap}(I:I!)(k:JSG (b∉fp))(hf:D7! (jG! b)):JBp:=by
 have oG:∀b u,Pt!->b∉fp:=λb u e z=>by rw[(hf b z).1] at e;cases e
 show tH! fp Vr! (jz! JFr) (jz! (JAC JFr)) (λ_ _ _ _ n=>n) (λb o hc e=>EW! JFr) (ta!) (tb!) (λb ps e=>b0! (by rw[e];simp)) (λm hm=>?_) yD!;.have⟨_,h1,_,h2,h3,h4⟩:=C5! hf;show⟨h2,h1,h3,h4⟩
 .have⟨o,es,ep,ho,r⟩:=hm;show⟨o,es,ep,k _ o (λz=>(hf _ z).2.1 A!) ho,r⟩
 .show EH? (λc v hc q=>k c v ?_ q) SH! L5!;show d? hc;(.rw[z];show oG b u e);.show oG c _ z
def Qaf{T:Addr}{o:HO}{ob:Obj}(I:I!)(hf:jG! T)(ho:Zv! T ob)(new:ZR! (Km! T o) T o):JBg (Km! T o):=by
 have⟨h0,h1,XT,h2,h3,h4⟩:=hf;have ne:∀{b u},Pt!->b≠T:=λe=>Ak e h0;show I.step (s:=s) (h':=Go) (t':=C7!) (g':=s.gens) (d':=s.drawn) (ch:=[T]) Vr! (λb o _ _ _ e _=>e) (λb o _ _ _ e _=>JAC e) (λb o hc _ n=>?_) (XW! c1!) (yc!) (λb o u e=>?_) (λb ps e=>Bv! (#[])) (λm hm=>hm) yD! SL!;·show BW? (b=T);subst e;show⟨h2,h1,h3,h4⟩
 .rw[Ad (λz=>hc (by simp[z]))];show n
 .rw[dg! e];show e
 .rw[dg! e];show e
 .rw[dg! e,e];simp
 .by_cases hb:b=T;(.show Ey? new);.rw[FR!] at e;show EH? (λc v _ q=>q) (λc q=>fH!) (λc xs q=>fH!)
open E
open S
variable {prog:Program}{w:World}{A:Around}{E:Value->Shared->Prop}{s:Shared}
def Jiv{it t:Addr}{i:Nat}{items:BP!}{x:Value}{Q:Os}(hit:gX! it t i)(ht:SU! t Ol!)(hx:items[i]?=D! x)(hQ:JJc (ua! it t (Aj!)) (ZT! x)):A9! (iB! Builtin.SmallTypes.nextOf):=by show Gy?;have⟨ol,oQ,_,nl,oU⟩:=ht;have WB:¬(nc!):=AO;show ZR (JSj Sn! LO LO Sn! F.entry_tuple_iterator_next F.args_tuple_iterator_next_1);show Hz?;show H1? JM!;show HY? nc!;rw[AD WB];show Hy?;show Jt?;simp only[CZ,hx];show ZR (HR ho hd KB (ZS (FM! x (ZS (hQ _ ⟨_,rl! ho hd,(uO! ..).trans hc,?_⟩ P3!)))));rw[FJ hd];simp[rawInt]
def Jgr{it t:Addr}{i:Nat}{items:BP!}{Q:Os}(hh:KK!)(hit:gX! it t i)(ht:SU! t Ol!)(hx:items[i]?=none)(hE:∀h' e,JO5->(∃o,JDD e/\o.cls=GB! G9!)->E (IN e) BT!):A9! (iB! Builtin.SmallTypes.nextOf):=by show Gy?;have⟨ol,oQ,_,nl,oU⟩:=ht;have WB:¬(nc!):=AO;show ZR (JSj Sn! LO LO Sn! F.entry_tuple_iterator_next F.args_tuple_iterator_next_1);show Hz?;show H1? JM!;show HY? nc!;rw[AD WB];show Hy?;show Jt?;simp only[CZ,hx];show O? SJ (ZR (HR ho hd KB RY!));show F1?;show ZR (CS (Cv! JCS (PZ (a:=KL!) JLW JIO)) UM!);show F2?;show Hw?;rw[show A.in1.handled=none from hh];show ZR (ZS (uP! (hE _ _ ((zB! _).push _) cv!)))
def Jlr{z TI TO i1 i2 l1 l2:Addr}{k:Nat}{xs ys:BP!}{x y a b:Value}{Q:VH!}(D:JRY)(hz:JFf Go)(xb:JPZ Go)(hTO:JIh Go)(h1:gX! i1 l1 k)(h2:s.heap.IsListIter i2 l2 k)(gK:pb!)(eT:JNo)(hx:xs[k]?=D! x)(hy:ys[k]?=D! y)(hQ:∀h',JFg h' Uf->rb! h' TO->ua! i1 l1 (k+1)->h'.IsListIter i2 l2 (k+1)->rb! h' Uf -> (∀c o,c≠z->c≠TO->c≠i1->c≠i2->n4!->JFA)->ZT! (JI! Uf)):cs! Xc! z:=by
 have hT:Vu! z Fq!:=Kq! hz;show Ca? hT XN XN hT F.entry_zip_next F.args_zip_next_1;show Cv! (ns! 2) (jE! pG! (Cv! (ns! 3) (op! TI (ZR (JR xb A! ?_)))));show Cv! (QW! Builtin.SmallTypes.ownedTupleIsFree z) (ZR (jE! IR dL!));simp only[HW];show O? SJ (ZR (op! TO (ZR (EE hz KB λh₁ dQ EZ=>ZR ?_))));have z1:oK! h₁:=dQ;simp only[List.zipIdx_cons,List.zipIdx_nil,List.forIn_cons,List.forIn_nil];show I8? i1 (Jiv (k4! h1.extBut D.i1z) (k4! gK.extBut D.l1z) hx λaE j1 NN=>ZS ?_);have o2:JIh aE:=VB! YC! D.TOi1 YB! D.TOz hTO;show ZR (JR o2 A! (ZR (wpAny_updateSeq_pair o2 λhV o3' TL=>ZR (gY! dL!))));have o3:YA! hV TO x b:=o3';have j2:=JKn h2.extBut YB! D.i2z YC! D.i12.symm Oy! D.TOi2.symm;have m2:=JKn eT.extBut YB! D.l2z YC! D.l2i1 Oy! D.l2TO;show I8? i2 (wpAny_nextOf_list_item j2 m2 hy λJBC j2' cz=>ZS ?_);have o4:YA! JBC TO x b:=FS gZ! D.TOi2 o3;show ZR (JR o4 A! (ZR (wpAny_updateSeq_pair o4 λSA o5' cy=>ZR (gY! (ZS (ZS ?_))))));have o5:rb! SA TO:=o5';show ZR (JR o5 A! (eL! uV!));have hsz:SA.objs.size=s.heap.objs.size:=by rw[cy.1,cz.1,TL.1,NN.1,EZ.1]
 have z5:oK! SA:=VB! ga! D.TOz.symm gZ! D.i2z.symm (Oy! _ _ D.TOz.symm (YC! _ _ D.i1z.symm z1));have k5:∀c o,c≠z->c≠TO->c≠i1->c≠i2->n4!->iU! SA.get?:=λc o c1 c2 c3 c4 e=>VB! ga! c2 gZ! c4 (Oy! _ _ c2 (YC! _ _ c3 (YB! _ _ c1 e)));have a1:SA.IsTupleIter i1 l1 (k+1):=JKn j1.extBut Oy! D.TOi1.symm gZ! D.i12 ga! D.TOi1.symm;have a2:SA.IsListIter i2 l2 (k+1):=j2'.extBut ga! D.TOi2.symm;have zl:SA.objs.size≠z:=EU (AU z5);show Cv! (Builtin.SmallTypes.ownedTupleHandOut (IN z) (IN gb!)) ?_;have z6:IsZip (SA.push (JGC (#[x,y]))) z TI TO .ellipsis:=ZT _ z5;show I2? z6 (λJBB z7' qH=>?_);have z7:JFg JBB gb!:=z7';show EE z7 KB λhU z8' qG=>?_;have z8:JFg hU gb!:=z8';have up:∀c o,c≠z->iU! SA.get?->iU! hU.get?:=λc o c1 e=>VB! qG.extBut c1 qH.extBut c1 (ZT _ e);have t8:rb! hU gb!:=VB! qG.extBut zl qH.extBut zl bE!;rw[hsz] at z8 t8;show ZS (Dn! (ZS ?_));rw[hsz];show hQ hU z8 (up _ _ D.TOz o5) (let⟨o,e,r⟩:=a1;Ea! (up _ o D.i1z e) r) (a2.at λo e=>up _ o D.i2z e) t8 λc o c1 c2 c3 c4 e=>up c o c1 (k5 c o c1 c2 c3 c4 e)
def Jnk{z TI TO i1 i2 l1 l2:Addr}{k:Nat}{xs:BP!}{Q:VH!}(hh:KK!)(D:JRY)(hz:JFf Go)(xb:JPZ Go)(h1:gX! i1 l1 k)(gK:pb!)(hx:xs[k]?=none)(hQ:∀h',(∀c o,c≠z->c≠i1->n4!->JFA)->nQ!):cs! Xc! z:=by
 have hT:Vu! z Fq!:=Kq! hz;show Ca? hT XN XN hT F.entry_zip_next F.args_zip_next_1;show Cv! (ns! 2) (jE! pG! (Cv! (ns! 3) (op! TI (ZR (JR xb A! ?_)))));show Cv! (QW! Builtin.SmallTypes.ownedTupleIsFree z) (ZR (jE! IR dL!));simp only[HW];show O? SJ (ZR (op! TO (ZR (EE hz KB λh₁ dQ EZ=>ZR ?_))));have z1:oK! h₁:=dQ;simp only[List.zipIdx_cons,List.zipIdx_nil,List.forIn_cons,List.forIn_nil];show I8? i1 (Jgr hh (k4! h1.extBut D.i1z) (k4! gK.extBut D.l1z) hx λaE e NN he=>?_);have⟨oe,xK,hce⟩:=he;have z2:oK! aE:=FS NN D.i1z.symm z1;have hez:e≠z:=λq=>by subst q;rw[z2] at xK;cases xK;simp at hce
 show EE z2 KB λhV _ TL=>?_;show ZR (PJ (T:=G9!) (b:=q!) ⟨oe,FS Oy! hez xK,hce⟩ gM! (ZS (hQ _ λc o c1 c2 q=>VB! Oy! c1 NN c2 (YB! _ _ c1 q))))
open E
@[reducible]abbrev rj(h:Heap)(l1:Addr):Eo!:=JMX h.push "tuple_iterator" l1
@[reducible]abbrev ri(h:Heap)(l1 l2:Addr):Eo!:=JMX (rj h l1).push "list_iterator" l2
@[reducible]abbrev rb(h:Heap)(l1 l2:Addr):Eo!:=wx! (ri h l1 l2).push (#[h! SI!,h! (rj h l1).objs.size])
@[reducible]abbrev rZ(h:Heap)(l1 l2:Addr):Eo!:=wx! (rb h l1 l2).push (#[IR,IR])
@[reducible]abbrev lB(h:Heap)(l1 l2:Addr):Eo!:=(rZ h l1 l2).push (hX! Fq! .fields (#[IR,pG!,pG!,h! (ri h l1 l2).objs.size,h! (rb h l1 l2).objs.size]))
def Jiy(l1 l2:Addr)(xs ys:BP!):Meets (Builtin.«zip.__new__» (Hl! [GB! Fq!,h! l1,h! l2])) (λ_ R s=>pb!/\JNo/\JHX (rZ Go l1 l2).objs.size (KJ! (lB Go l1 l2))) :=.of_wp λprog w A R s h=>by show Fy?;have⟨gK,eT,h⟩:=h;have hX:=sub_zip;have a1:Heap.IsTuple (Shared.heap Wk!) l1 xs:=gK;have a2:Heap.IsList (Shared.heap ⟨JMX hp.push "tuple_iterator" l1,g,d,tk,os⟩) l2 ys:=Heap.IsList.push eT _;wp_walk using tk! a1,UE a2;show P? h
open S
variable {prog:Program}{w:World}{A:Around}{E:Value->Shared->Prop}{s:Shared}
def Jnc{l1 l2:Addr}{xs ys:BP!}{Q:Os}(gK:pb!)(eT:JNo)(h:∀h',IsZip h' (yv!) (yt!) (yu!) IR->YA! h' (yt!) (IN Uf) (IN Qh!)->YA! h' (yu!) IR IR->ua! Uf l1 0->h'.IsListIter (Pe!) l2 0 -> (∀c o,n4!->JFA)->GC! (yv!) BT!):A9! (call (BR! Fq!) [h! l1,h! l2]):=by
 show callType_new F.called_zip TD (AC! F.typeCall_zip_2) (AC! F.newCall_zip_2) (λobj=>F.args_object_init_3 obj _ _) F.entry_zip_new (Jiy l1 l2 xs ys) (Hy! gK eT);have z1:(rj Go l1).objs.size=Pe!:=LK ..;have z2:yO! ri yt!:=jp LK z1
 have z3:yO! rb yu!:=jp LK z2
 have z4:yO! rZ yv!:=jp LK z3
 have p:∀{h:Heap} {o:Obj} {c:Addr} {u:Obj},Jo! c u->AT (h.push o).get? c u:=λe=>Hs!;have g5:JIt rZ:=Cu!;have g4:JIt rb:=p bE!;have g3:JIt ri:=p (p bE!);have g2:JUP (rj Go l1).objs.size:=p (p (p bE!));have g1:JUP Uf:=p (p (p (p bE!)));change _/\_;rw[z2,z3,z4] at g5;rw[z1,z2] at g3;rw[z3] at g4;rw[z1] at g2;rw[z4];show⟨Kq! g5,h _ g5 g3 g4 (iJ! g1) (iJ! g2) λc o x=>p (p (p (p (p x))))⟩
open E
abbrev p_(K:W.Frag)(l1 l2:Addr):It :=
 ⟨λi H=>YL λxs ys x y=>JDn/\DZ K H l2 ys/\Pr!/\ys[i]?=D! y,
  λi H v H'=>NM λT x y=>A7! T/\v=h! T/\H'=Ny! T [x,y]/\(yn! JDn)/\∀ys,DZ K H l2 ys->ys[i]?=D! y,
  ym! JDn⟩
abbrev tnZ(z TI TO i1 i2 l1 l2:Addr)(i:Nat)(h:Heap):B!:=JFf h/\JPZ h/\(HK λa b=>JIh h)/\h.IsTupleIter i1 l1 i/\ti! i2 l2 i
def Jnt{P:Program}{w:World}{K:W.Frag}{es:IB!}{kt:Nat}{pt:Pos}{z TI TO i1 i2 l1 l2:Addr}(D:JRY):Turn P w K (SR! es kt pt) (p_ K l1 l2) ub! z (tnZ z TI TO i1 i2 l1 l2) where
 mem:=CT!
 obj:=MA! (by
  have⟨hz,hI,⟨a,c,hO⟩,⟨o1,e1,_,d1⟩,⟨o2,e2,_,d2⟩⟩:=st
  show F6?
  rcases hb with rfl|rfl|rfl|rfl|rfl
  show IG? hz
  show IG? hI
  show IG? hO
  .show⟨_,e1,λv q=>JMV d1⟩
  .show⟨_,e2,λv q=>JMV d2⟩)
 keep:=λi h h' st k=>by
  have⟨hz,hI,⟨a,c,hO⟩,⟨o1,e1,r1⟩,⟨o2,e2,r2⟩⟩:=st
  show⟨dc! z hz,dc! TI hI,⟨a,c,dc! TO hO⟩,⟨o1,dc! i1 e1,r1⟩,⟨o2,dc! i2 e2,r2⟩⟩
 item:=by
  show v?
  show e?
  have⟨hz,hI,⟨a,c,hO⟩,h1,h2⟩:=st
  have⟨xs,ys,x,y,q1,q2,hx,hy⟩:=hg
  have⟨its,rv,p,_⟩:=Et! q1
  show Ed?
  have⟨sy,TX,p',_⟩:=Fp! q2
  have⟨u',xE,wH⟩:=TX.get hy
  show Jlr D hz hI hO h1 h2 (j0! (SU! l1 CH!)) p'.isList (x:=u) (y:=u') (by simpa using hu) (by simpa using xE) λh' a1 a2 a3 a4 a5 a6=>cV!
  show wpAny_letOwnedTupleGo_zip a1 λXT b1 b2=>?_
  have IP:∀b∈ub!,b<s.heap.objs.size:=ut (by
   show F6?
   rcases hb with rfl|rfl|rfl|rfl|rfl
   .show AU hz
   .show AU hI
   .show AU hO
   .have⟨_,e,_⟩:=h1;show B1!
   .have⟨_,e,_⟩:=h2;show B1!)
  have Tne:∀b∈ub!,b≠s.heap.objs.size:=ut (BN (IP b hb))
  show DJ? { s with heap:=XT,toks:=s.toks } (Qa9 I (Tq! (b2.extBut b o df! (a6 b o df! df! df! df! e))) hf)
  have hT:YA! XT Uf u u':=JBn (Tne z KB).symm a5
  have fT:jG! Uf:=I.UQ (ZG _) I.fresh
  have I2:=Qaf (o:=FB [x,y]) I1 fT hT ⟨Y7!,[u,u'],r6! ru wH,JN1 hT⟩
  have kp:∀{b o},b≠z->b≠TO->b≠i1->b≠i2->DL!->GA! XT.get?:=λn1 n2 n3 n4 e=>JBn n1 (a6 _ _ n1 n2 n3 n4 e)
  show⟨K5!,_,I2,A!,⟨_,x,y,I.fresh,A!,A!,λxs' e=>U! (I.V_ e q1) hx,λEC e=>U! (I.U_ e q2) hy⟩,⟨b1,kp D.TIz D.TITO D.TIi1 D.TIi2 hI,⟨u,u',JBn D.TOz a2⟩,a3.extBut b2.extBut D.i1z,a4.extBut b2.extBut D.i2z⟩,GW!⟩
  rw[Ad (Tne b hb)]
  show Pp! hf
 done:=by
  show v?
  show e?
  have⟨hz,hI,⟨a,c,hO⟩,h1,h2⟩:=st
  have⟨xs,q1,hx⟩:=hg
  have⟨its,rv,p,_⟩:=Et! q1
  show Cx?
  show Jnk Lw! D hz hI h1 (j0! (SU! l1 CH!)) q3! λh' kp=>A8! (Qa9 (t':=C7!) I (Tq! (kp b o (λq=>hb (by simp[q])) (λq=>hb (by simp[q])) e)) hf)
 self:=λ_ _ _ _ _ st h=>wpAny_pyIter_zip st.1 h
abbrev J1o(K:W.Frag)(ta:TA):TI:=JKy (YL λl1 l2 xs ys=>vs=[h! l1,h! l2]/\DC K H1 l1 xs/\DZ K H1 l2 ys/\R (p_ K l1 l2) H1)
def Jv5{X:E!}{a b:Expr}{ta:TA}{p pos:Pos}{es:IB!}{kt:Nat}{pt:Pos}(hg:Gl X Fq!)(hm:Ab! X.mg Fq!)(ha:PA X IT! ta)(hs:Fn! IT! SL=yo! (Mx! (hf! a)) b:=by rfl)(SQ:pJ! [b] b:=by rfl) : PI X (SR! es kt pt) (JEa Fq! IT!) (J1o Kx ta):=by
 show AJ?;show JE? boot_zip (JZ JIN (Bi! hs SQ) (by rw[SQ];rfl));have⟨l1,l2,xs,ys,e,q1,q2,q⟩:=q1;subst e;have⟨u,u',rfl,ru,wH⟩:=r1.two;cases ru;cases wH;have⟨its,rv,pt,_⟩:=fv! q1;have⟨sy,TX,pl,_⟩:=I1.list q2;have b1:l1<s1.heap.objs.size:=by have⟨_,e,_⟩:=pt;show B1!
 have b2:l2<s1.heap.objs.size:=by have⟨_,e,_⟩:=pl.isList;show B1!
 show Jnc (show tl! l1 CH! from pt) KI! λh' a1 a2 a3 a4 a5 kp=>wpAny_pyIter_zip a1 ?_;show⟨_,_,_,_,H1,A!,JSi kp,Jnt (zipApart_new b1 b2),⟨a1,a2,BM! _ a3,a4,a5⟩,GW!,q⟩;have:s1.heap.objs.size<=b:=by show F6?;rcases hb with rfl|rfl|rfl|rfl|rfl<;>first|show ZG _|show Nn!
 show I1.UQ this (tj! this)
abbrev XB(B:E!)(E:XK)(fp:Z!):Os:=λe s'=>YL λex cls H' GA=>e=h! ex/\JIi B/\i9 Gy! (λb=>(FE! B.JK.heap.get?\/b∈fp)/\b≠B.env.locals/\M1!) ex ww/\E ww KM H'
@[reducible]abbrev J2e(X:E!)(E:XK)(sc:Scope)(cl:CF!)(C:Addr)(N:AC)(s1:Shared)(H1:Hp)(fp:Z!)(AB:x!):E!:=(MF X sc cl C N s1 H1 fp AB).UL (XB (MF X sc cl C N s1 H1 fp AB) E fp)
open S
variable {P:Program}{w:World}{K:W.Frag}{mg:Str->Option Value}{base:Heap}{N0:List Str}{qual:Str}{scope:Scope}{f:Addr}{cd:Value}{A:Around}{outer:List Env}{s0:Shared}{H0:Hp}{E:XK}
variable {elt iter:Expr}{x y0:Str}{px aV pt pos:Pos}{kt:Nat}{sc:Scope}{cl:List (Str×Addr)}{caps:List (Str×Nat)}{wi:TI}{te:TE}
open E
open S
def Mg(I:I!)(hN:X.N.Nodup)(hi:Nt!)(hk:hl! SM!)(h:os! (JLg (σ.set i KM))):QO! (do bindName SL x IR;unbindBehindTheSuite SL x AS!):=by
 have⟨m,hn,hl⟩:=mJ!
 have aG:Ad! (ft! .class || (ft! .module&&X.env.locals != X.env.globals)):=Ds! KE!
 have iA:i<σ.length:=JJI I.len
 have cn:=I.cn
 show wpAny_nameGoes_keeps hk hn aG λh' v xO hs=>?_
 have low:∀{b:Addr} {o:Obj},JBq->SJ!:=λe=>BN dv!
 show h _ (JMt ⟨λb o e n hb hx=>JNx low e,λb o e n hb hx=>?_,OX!,λb o e hx=>?_,SK!,L7!,I.base.RY⟩ (BM! xO yg!) yh! (Sj! ?_) (U! List.length_set I.len))
 .show Ec?
  show⟨sl,(IR! b (low e)).trans e1⟩
 .show Cd?
  show⟨o',(IR! b (low e)).trans e1⟩
 .have hj:j≠i:=λz=>by
   subst z
   rw[JO iA] at e2
   cases e2
  show Ii?
  show Kn?
  show S? u' r'
  rcases q with⟨k,e⟩|⟨k,c,e,z⟩
  .show EA? k
   have:y≠x:=λe=>hj (Uv hN e1 (e▸hi))
   simp[this,e]
  .show L? ⟨k,c,e,rm!⟩
 .have⟨w',z⟩:=OY! y c e
  show⟨w',rm!⟩
 .show Db?
  show⟨(IR! g! ne).trans e,n,ne,nf,d⟩
 .show(Au! b ob e).RA (λc w' hc q=>(IR! c ?_).trans q) (SH!) L5!
  rintro rfl
  show CI?
  .rw[KF!] at e;cases e
  .show Ep? KF!
open E
abbrev mh(X:E!)(AB:x!)(E:Os):E!:={ X with pn:=X.pn++AB,xe:=E }
abbrev bp(X:E!)(ex:Addr):E!:={ X with A:=X.A.mark (D! (IN ex)),calm:=false,xe:=KG! }
open S
def Cx.Ok.toTry(ok:X.Ok):(mh X AB E).Ok:=pq!
def Cx.Ok.rK(ok:(mh X AB E).Ok):X.Ok:=pq!
def Cx.Ok.toX(ok:X.Ok):(bp X ex).Ok:=JTI (λz=>(by cases z))
def Jmy(I:I!):Inv jt! [] σ H s:=JJq Cx.Ok.toTry (ye! (by show Ee?;rwa [AM] at VW))
def Ip(I:Inv jt! OZ σ H s):I!:=JJq Cx.Ok.rK (ye! (DK! hp))
def zg(I:I!):r3! (bp X ex):=JJq Cx.Ok.toX I.pin
def O4(I:r3! (bp X ex))(ok:X.Ok):I!:=jq! ok I.pin
def Jbk(I:I!)(hn:Q8!)(h0:Ab! OW! a)(h1:a≠X.env.locals)(h2:QB! (c≠a))(h3:aV! (g!≠a))(ok:ZR! N2! a o):JBg N2!:=by
 have ne:∀{b:Addr} {u:HO},Pt!->b≠a:=λe=>Ak e hn;show KC? SL! ⟨fq!,tZ!,λb ob e n hx=>?_,fr!,yc!,λb ob u e=>?_,yd!⟩ I.loc OY! (Q1! h1 KF!) (λx c e=>Op (h2 x c e) (I.LC x c e)) (OR! ?_);.rw[Ad (OH! h0)];show OX! b ob e n hx
 .have:=SK! b xs e;rw[dg! this];show this
 .have:=L7! b ob u e;rw[dg! this];show this
 .have⟨more,q⟩:=JMH;show⟨Bo!,fH!⟩
 .show C7? (Zo! hp);show⟨a1,Op (h3 p hp) a2,a3⟩
 .show CH?;(.show Ey? ok);.rw[FR!] at e;show EH? X2! (λc q=>fH!) (λc xs q=>fH!)
open E
abbrev mX(a C:Addr):HO:=.ext λh=>HK λo vs=>dF!/\o.cls=Zm!/\o.data=wv!/\JG6 IR
abbrev zY(X:E!)(ES:er!):B!:=∀(AB:x!)(σ:L2.St)(H:Hp)(s:Shared)(e:Value)(s':Shared),K9! (ZX Bm! X.w D6! H s (ES σ) e s') (X.xe e s')
open S
def Jsg{X:E!}(F:JSM (ZX Bm! X.w))(hr:V0!)(hb:JFe)(hx:zY X ES)(I:I!)(r:Nw!)(h:sp vs H Q (ES σ)):Gp! (Kt! call f us):=by
 show Ik? (us.length=ps.length) Xl! h
 show WQ (p0! (JOM X.A D6! aq! (ES σ) I.iC (by have:=hb s us Es! (b9! hl);show BA? AM) r h));cases r with | error e=>show hx AB σ H s e s' I hq | ok fl =>cases fl with | ret u=>show I.after hq | next=>show hq.elim | brk=>show hq.elim | cont=>show hq.elim
inductive Jue(C:Addr)(m:Str)(sp:Sp)(ES:er!)(t:TA)(σ:L2.St)(x:V)(H1:Hp)(Q:VK):B!
 | mk (a dx fs) (e0:Bg!) (e1:e4!) (e2:oR!) (e3:FK! t (λvs H2=>sp (x::vs) H2 Q (ES σ)))
abbrev Jvc(C:Addr)(m:Str)(sp:Sp)(ES:er!)(ta:TE)(t:TA):TE:=Rb! (Jue C m sp ES t σ x H1 Q)
def Ej{X:E!}(he:RV!)(c:SB!)(hm:qM!)(F:JSM (ZX Bm! X.w))(hr:V0!)(hb:JFe)(hx:zY X ES)(ha:N6!)(gE:L1!:=by rfl)(TY:Rs!:=by rfl)(ht:JIy (do let ov <-aO!;eF!;let(f,first) <-fe!;JNn):=by rfl) :
 JGn (Jvc C m sp ES ta t):=by
 show M?
 show FW?
 show Cz?
 subst ex
 show H?
 show Jn I1 ea c hm l (tJ! (λus s2 ⟨vs,H2,I2,r,q2⟩=>Bv! I2.PN))
 show Jsg (us:=Br!::us) (vs:=Br!::vs) F hr hb hx I2 (SC A! r) q2
open E
def Ju6{M:Model}{A:Around}{E:Os}{s:Shared}{K:W.Frag}{C D e:Addr}{oe:Obj}{Q:lr!}(XK:Jx!)(cD:JE5 D)(hX:wE! C H2! q!)(he:JE8 e)(aG:oe.cls=Zm!)(hq:Q q! s):n7! excMatches H2!:=by
 have⟨h,g,d,t,os⟩:=s
 have⟨nm,q,N,bs,bm,hdct,sn,sub,ab,col,dd,k0,k1,k2,k3,k5,mN,hD,hN,oR,tl⟩:=Jk4 XK cD
 have hB:y! ((QR! D::bm).contains (BR! X9!)):=Cy! QA (tl.hasType (b:=q!) ZV) Bool.or_true
 have f:=tc_notTuple
 have LS:=uc! (M:=M) XK hX
 unfold excMatches
 repeat (first|(with_reducible show wpAny_loadPart_at he ?_;rw[aG])|with_reducible show wpAny_loadPart_at hD ?_|(with_reducible show wpAny_isSubtype_exc hD ?_;rw[hB])|with_reducible show LS.at ?_|wp_step)
 show hq
abbrev gone(D:Ends)(i:Nat):Ends:={ nx:=JKw D.nx,bk:=JKw D.bk,ct:=JKw D.ct,rt:=D.rt }
abbrev Jxt(K:W.Frag)(D:Addr)(cls:Value)(C:Addr):B!:=cls=Zm!/\wE! C H2! q!
abbrev Jva(K:W.Frag)(D:Addr)(i:Nat)(tb:(er!)->TS)(ts:F!->TS):TS:=λE σ H =>
 tb (λGA cls _ H'=>∃C,Jxt K D ww C/\∀ex,Ab! H' ex->ts ex (gone E i) (GA.set i (JI! ex)) (z! H' ex qE!)) E σ H
open S
def Jf3{X:E!}(bX:X.stack=OU!)(bz:X.env.frame=Ix OV!)(hex:X.ex=[])(hN:X.N.Nodup)(hi:X.N[i]?=D! n)(hn:hg! SM! n)(hg:Gs!)(cD:Qo Kx X.mg x D)(hb:∀(AB:x!) (E:Os) (ES:er!),zY jt! ES->SW jt! body (tb ES))(hs:∀ex,SW (bp X ex) (rA::jG) (ts ex))(hd:D1!:=by decide) : PS X (.Try body [.ExceptHandler (JIg np) (D! n) (rA::jG) h_] [] [] AS!) (Jva Kx D i tb ts):=by
 intro AB s σ H E I h;show wpAny_Try_except (FH (hb AB (λe s1=>JEZ (noteFrame e SL) (λ_ s2=>h5! (gW! e KM) (λ_ s3=>h5! (handleBy e SL [.ExceptHandler (JIg np) (D! n) (rA::jG) h_]) (SP X AB E) s3) s2)) _ ?_ [] s σ H E (Jmy I) h) (yl!) λe s1 q=>q);· intro OZ GA H0 s0 e s' I0 ⟨ex,cls,H',he,xt,⟨C,⟨aG,hX⟩,hE⟩,ho,hga,u,ok⟩;subst he aG;have I1:iA! H0 s0:=Ip I0;(have frn:∀b∈SS (OU!),M1!:=ut (by have:=I1.UC b JLi;have⟨o,e1,_⟩:=(I1.stack.mem JLi).2;show u.free b o e1 this KB));(have frg:∀b∈SS (OU!),¬(FE! gc!/\M1!):=Sh! (by have⟨o,e1,_⟩:=(I1.stack.mem JLi).2;rw[e1] at z;cases z.1));have I2:wR!:=I1.a8 (ch:=[]) ho u ok hga JDd;(have fl:s'.heap.FunFrames Fl! (OU!):=by have:=I2.stack;show BA? bX);(have hfm:X.A.frames=D! (OU!):=jp I1.ok.frames bX);(have none_:∀b,FE! s'.heap.get?->JHp gc!:=λb q=>by show q?;(.cases q2:gc! b with | none=>rfl | some o =>have⟨o',e1⟩:=u.there b o q2 KB;rw[q] at e1;cases e1);.cases q2:H' b with | none=>rfl | some o =>have⟨ob,e1⟩:=Qf ok q2;rw[q] at e1;cases e1);(have back:∀{h':Heap} (t:Nat),NQ (SS (OU!)) (λb=>JHp gc!) Gy! h'->iA! H' { s' with heap:=h',toks:=t }:=λ{h'} t as=>by show I1.a8 (s':={ s' with heap:=h',toks:=t }) (ch:=[]) ho ?_ (Jbo ok as frn λb z=>z.2) hga JDd;have u':Un (SS D6!) [] H0 H' s0.heap Gy!:=u;show Jey u' as (λb o e1 z=>by rw[e1] at z;cases z.1) (λb o e1 m=>U! bX m) frn);show Jp7 (AW!:=Fl!) (L:=OV!) hfm fl bz xt.at none_ λh1 x1 NG=>?_;have J1:=back s'.toks NG;have⟨oe,vs,a0,T,oT,vk,b1,b2,b3,_⟩:=x1.2;show wpAny_handleBy_cons (codeAny_handlers_test (Gs (X:=bp X ex) (zg J1) hg cD.mg ?_ hd)) (by intro q;cases q);show Ju6 J1.PN cD.ex hX b1 b2 ?_;show codeAny_handlers_suite_as (Jws (s:={ s' with heap:=h1 }) x1 frg λh2 x2 XW=>?_);have J2:=back s'.toks (NG.trans XW);have⟨oe2,vs2,a2,T2,oT2,ts2,c1,c2,c3,⟨c4,c5⟩,_⟩:=x2.2;subst c4;(have J3:iA! (z! H' ex qE!) { s' with heap:=h2,toks:=s'.toks }:=by show Jbk J2 x2.1.2 ?_ VT! (λy c e1 z=>?_) (λp hp z=>?_) ⟨⟨oe2,vs2,c1,c2,c3,c5⟩,⟨oe2,c1⟩,λha hb ⟨o,vs,q1,q2⟩ k=>⟨o,vs,k o q1,q2⟩⟩;(.cases q2:OW! ex with | none=>rfl | some o =>have⟨o',e1⟩:=I1.base.there ex o q2 (Vp! hex);rw[x2.1.1] at e1;cases e1);(.have⟨m,⟨o,_,_,e1,_⟩,_⟩:=I1.loc;rw[<-z,x2.1.1] at e1;cases e1);(.have⟨v,o,e2,_⟩:=I1.cell y c e1;rw[z,x2.1.1] at e2;cases e2);.have:=(I1.pin p hp).1;show w? z x2.1.1;cases this);show Tj (X:=X) J3 hN hi (Am! hn) (yF! (IN ex) (IN ex)) (λs4 J4=>?_) (Bc! hn);show FH (hs ex AB s4 _ _ (gone E i) (zg J4) (hE ex x2.1.2)) (λf s5 q=>?_) λ_ _ z=>z.elim;cases f with | next=>show J4? | brk=>show J4? | cont=>show J4? | ret v=>have⟨v5,rY,H5,J5,r5,q5⟩:=q;show Mg (O4 J5 J4.ok) hN hi hn λs6 J6=>⟨v5,_,H5,J6,r5,q5⟩
 .cases f with | next=>show F7?;show QK ⟨YM,H1,Ip I1,q1⟩ | brk=>show F7?;show⟨YM,H1,Ip I1,q1⟩ | cont=>show F7?;show⟨YM,H1,Ip I1,q1⟩ | ret v=>have⟨v1,YM,H1,I1,r1,q1⟩:=q;show⟨v1,YM,H1,Ip I1,r1,q1⟩
open E
open E FX
open N FX
open PySem PySem.Spec PySem.Calls PyProof.Rows L2 Builtin Builtin.ObjectAttr Builtin.Getset_descriptor
set_option maxHeartbeats 400000
structure pM(K:W.Frag)(C:Addr):B! where
 ga:R4! C
 gb:II! "__getattr__"
 ha:OI! C
 hn:JQR
 ht:JQb
 hm:N5! C
 hb:Rj! C
 hc:y! (W.clsIn K C).isSome
def Jre:AT builtinKind So! .slot:=ZV
def Jni:AT splitId So! (X9!,ud!):=ZV
open S
variable {prog:Program}{w:World}{A:Around}{E:Value->Shared->Prop}{s:Shared}{K:W.Frag}{x C:Addr}
def Jhs{R:ls!}{tp:Value}(X:Jx!)(hx:JD7 (JCF o))(f:pM K C)(h:JHX C s):sA! (.call (G2! tq!) (Hl! [G2! Xj!,Qz!,tp])):=by
 have⟨hh,g,dr,t,os⟩:=s;have⟨o,wz,hc⟩:=hx;have L0:Wh! (JDL x) Jq!:=hc▸(gd! wz).andThen .now;have L1:=uc! (M:=model B2! w) X f.hm;show codeAny_call_builtin W.KF.slot_gs.plain W.KF.entry_gs (W.KF.slot_gs.check _ _ _ _ _ _ _ _ W.KF.type_class (NE W.KF.args_gs _) ?_);unfold Builtin.«getset_descriptor.__get__» descrGet;rw[W.dga_obj];show BV?;unfold descrGetter descrCheckInstance descrNameAndClass isInstance;simp only[W.KF.owner_class];repeat lk
 show⟨Code.quiet_builtin _ ZV,QL W.KF.entry_class ?_⟩;unfold Builtin.«object.__class__» shownTypeOf;repeat lk
 show h
def Jm6{Q:VH!}(X:Jx!)(hx:JD7 (JCF o))(f:pM K C)(h:lW! (JI! C)):A9! (Kt! getAttr? x SZ!):=by
 have⟨hh,g,dr,t,os⟩:=s;have⟨o,wz,hc⟩:=id hx;have L0:Wh! (JDL x) Jq!:=hc▸(gd! wz).andThen .now;have L1:=JKS f.ga;have L2':=JKS f.gb;have L3:Wh! (isInstance LZ! (BR! X9!)) q!:=L0.andThen (uc! X f.hb);have L4:=JKS f.ha;have L5:Wh! (getOf (hi! Xj!)) JTX:=W.looks_specialIn X f.hn;have L6:Wh! (dataDescriptor? (hi! Xj!) JTX) (D! (G2! tq!,G2! Xj!)):=(W.looks_takesIn X f.ht).andThen .now;have L7:Wh! (find LZ! (IN C) SZ!) (.bind (G2! tq!) (G2! Xj!)):=L4.andThen (L5.andThen (L6.andThen (W.Looks.tag .now)));unfold getAttr? getAttrBy? getAttrBy;show O? wpAny_mkText (ZR (JJ (EK (ZR (L0.at (eL! L1.at))))));have WB:Ad! (onTheHeap (D4! C)&&(jx! So! == jx! "object.__getattribute__")):=jp (show Ad! (jx! So! == jx! "object.__getattribute__") from by show AI?) uD!
 dsimp only;show D0? WB;unfold getAttrByItsOwn;show ZR (Fr! (wC! (Kt! tw! C "__getattr__") _) (L2'.at ?_));show O? JJ (EK ?_);unfold callGetattribute;rw[AD (by change ¬(AU! (false&&_));rw[Bool.false_and];show AO)];unfold boundAndCalled;show Ag? PZ (F.excAttr_ValueError.ga.bind (Ep! x));show CC? (ii! So! [h! x,JHB]);show WQ (codeAny_call_builtin F.excAttr_ValueError.ga.plain F.entry_bexc_ga (@W.check_slot PW! _ _ _ So! X9! ud! LZ! [JHB] [] _ Jre Jni L3 (F.args_bexc_ga LZ! (bn SZ! t)) ?_));unfold Builtin.«object.__getattribute__»;show H3? (slotArgs ud! 1 (Hl! [h! x,JHB])) (QR! x,[fl! SZ! t]) (by kernel_rfl);dsimp only;show H3? (attrName (bn SZ! t)) (E7! SZ!) (by kernel_rfl);show O? L0.at (eL! L7.at);dsimp only;unfold bindTo;dsimp only;show O? EK (WQ (Jhs (A:=A.in1) X hx f ?_));show ZS ?_;show PZ (a:=QR! C) (W.handedOut_of A!) ?_;show ZS h
def Jqc(f:pM K C):W.KitX K LZ! Jq! (λh=>JD7 (FA! OO! o)) where
 ty:=λ_ _ _ ⟨o,h1,h2⟩=>h2▸(gd! h1).andThen .now
 it:=λ_ _ X _=>by
  have⟨cd,TH⟩:=LN.mp f.hc
  unfold W.clsIn at TH
  split at TH
  .rename_i c' d' cd' wA ho
   intro A' Q' E' s' k q
   unfold isType loadHead
   show ZR (wpAny_loadPart (GT! k X ho) (ZS q))
  .cases TH
 ne:=λh tp dd its n sl X htp=>by
  have⟨cd,TH⟩:=LN.mp f.hc
  show QY.mpr λq=>?_
  have e:C=tp:=Value.ref.inj (NS.mp q)
  subst e
  unfold W.clsIn at TH
  split at TH
  .rename_i c' d' cd' wA ho
   have z:=(X _ _ ho).symm.trans htp
   cases z
  .cases TH
 ca:=λX I k=>Jm6 X I f k
open E
open S
inductive Yw(K:W.Frag)(xs:C!)(H:Hp)(Q:VK):B!
 | mk a C c cv b (_:xs=[Br!,c]) (_:FB! c cv) (_:GR! (mX a C)) (_:pM K C) (_:Oi! K (IN C) cv=D! b) (_:Z9! b)
def Ee{X:E!}:JIV Sa! Yw:=by
 show X?;have⟨a,C,c,cv,b,rfl,rc,ha,f,e,q⟩:=h;have⟨u1,u2,rfl,r1,r2⟩:=r.two;cases r1;have:u2=cv:=by cases c with | ref p=>show FA? | ty n=>show FA? | GB=>show FA? | bl b=>show FA? | int i=>show FT? | str i=>show FT? | Y' i=>show FT? | ix i=>show FT?
 subst this;have⟨o,vs,g1,g2,g3⟩:=pt! a ha;show KR (Jqc f) Es! (Ea! g1 g2) e (λz=>nomatch z) λtk=>⟨bv b,H,I.tok tk,A!,q⟩
open E
open E FX
open N FX
open PySem PySem.Spec PyProof.Rows L2
def FR.no{P:Program}{w:World}{K:W.Frag}{mg:sw}{base:Heap}{k:Nat}{f:Addr}{fd:FuncData}{ps:AC}{sp:Sp}(F:s5! LI!):FR P w K mg AW! XM k f fd ps (qm! sp) :=⟨λvs H Q E q=>F.len vs H Q E0 q,λA outer s H args us vs Q E hr he hb hv hs=>I_ (JOM A BV! D9! E0 he hb hv hs) λr s' h=>by cases r with | ok fl=>cases fl<;>show h | error e=>have⟨_,_,_,_,_,z,_⟩:=h;show Sp!⟩
def Im{K:W.Frag}{v:Value}:Oi! K v v=D! q!:=by unfold W.kitOne;rw[AE (by simp)]
def Jt4:JBj Ov! BR! Ov!:=ZV
open E FX
open N FX
open PySem L2
def Fq(h:wE! C b r):y! (W.clsIn K C).isSome:=by have⟨cd,a,_⟩:=Option.bind_eq_some_iff.mp h;rw[a];rfl
open E FX
open N FX
open PySem PySem.Spec PyProof.Rows L2
inductive YK(h:Heap)(it d:Addr)(i n ep:Nat):B!
 | mk (own ok ov:Value) (f:Bool) (_:(own=IR\/∃a:Nat,own=Xe! a)) (_:Jo! it { cls:=GB! ST!,dict:=none,data:=.fields #[own,Cg! f,JO!,V! i 0,V! n 0,V! ep 0,ok,ov],slots:=#[] })
abbrev jC(h:Heap)(a:Addr)(k v:Value):B!:=JV! (JGC (#[k,v]))
open S
variable {prog:Program}{w:World}{A:Around}{E:Value->Shared->Prop}{s:Shared}{it d:Addr}{i n ep:Nat}
def YK.ty(x:Wc! Go):Vu! it ST!:=let⟨_,_,_,_,_,e⟩:=x;xM!
def YK.to(x:Wc! h)(k:∀o,TX! OO! it->JDD it):Wc! h':=let⟨a,b,c,f,g,e⟩:=x;⟨a,b,c,f,g,k _ e⟩
def Jua(h:Q (Fm! a) s):A9! (loadIfAlive a):=λ_ _ _=>h
def Jn0(h:∀h' e,Shared.TypeIs BT! lK! G9!->(JTm)->GC! e BT!):A9! (newExc (BR! G9!) []):=by
 have first:firstArgMember (BR! G9!) []=BU! IR:=by unfold firstArgMember;cases (Manifest.find? G9!).elim am λt=>t.mro.contains G9! || t.mro.contains "SystemExit" <;> rfl
 unfold newExc newTuple;rw[first];show ZR (CS (ZR (ZS (CS (h _ _ cv! (Cf! (JCm e))) UM!))) UM!)
def Jpk(hw:Wc! Go)(hQ:∀h',Wc! h'->JKo h' k v->(oW!)->cN! BT!) :
 A9! (Builtin.Dict_items.pairFromOwner LG! 6 k v):=by
 show F8?
 have il:it<s.heap.objs.size:=AU e0
 have JBA:s.heap.objs.size≠it:=EU il
 obtain⟨h1,eh⟩:∃h1,h1=wx! IS! ([k,v]:k!).toArray:=BN!
 have p1:JKo h1 k v:=JAF Cu!
 have k1:aA! lh!:=Cf! (JAF Hs!)
 have e1:=k1 it _ e0
 have fin:∀h2,Wc! h2->Heap.SameBut it h1 h2->cN! ge!:=λh2 x y =>
  hQ h2 x ((y.2 _ JBA).trans p1) (CJ! ((y.2 b hb).trans (JK! k1)))
 have free:d6! (do
  let old:=[<-field (IN it) 6,<-field LG! (6+1)]
  X0! LG! 6 k;X0! LG! (6+1) v
  JJ9 0 Uf;X0! LG! 1 (Cg! am)
  letGo old [K5!]
  return K5!) KW!:=by
  show HT? ok (ZR (C_ (x:=ov) e1 A! A! ?_))
  show I2? e1 (λg2 q2 b2=>JO0 q2 (λg3 q3 b3=>JO0 q3 (λg4 q4 b4=>JO0 q4 (λg5 q5 b5=>?_))))
  show O? gY! (ZS (wn g5 (JP5 Uf q5) ⟨?_,GW!⟩))
  .rw[b5.1,b4.1,b3.1,b2.1]
  .rw[C5! b5.2,C5! b4.2,C5! b3.2,C5! b2.2]
 unfold Builtin.Dict_items.pairFromOwner
 show O? uV! ?_
 rw[<-eh]
 show ZR ?_
 unfold Builtin.Dict_items.ownedTupleIsFree
 show HT? own ?_
 rcases ho with rfl|⟨a,rfl⟩
 .show ZS free
 .show Hm? (loadIfAlive ((a:Int).toNat))
  show O? Jua ?_
  cases ha:SG! (a:Int).toNat with
  | none=>show ZS free
  | some oa =>
    show HT? (Cg! f) ?_
    cases f with
    | true=>show ZS (ZS (wn h1 (JP5 a e1) (AC! gf!)))
    | false=>show ZR (EE e1 KB λg2 q2 b2=>ZS (ZS (wn g2 (JP5 a q2) b2)))
def Ji6(hv:JJU)(hm:Ln!)(hQ:∀h',YK h' Uf d 0 EC! ep->(JTm)->cN! BT!):cs! Oe! v:=by
 have⟨o1,e1,c1,f1⟩:=id hv;show F9?;show wpAny_pyIter_slot hv.typeIs F.slot_dict_items_iter (DA F.slot_dict_items_iter hv.typeIs F.entry_dict_items_iter ?_ (F.args_dict_items_iter_1 _));unfold Builtin.«dict_items.__iter__» Builtin.Dict_items.dictOf Builtin.Dict_items.newIterator;show Dx? (C_ (x:=JO!) e1 f1 A! (ZS (ZR (ZR (DO e2 f2 (ZR (HF e2 f2 ?_)))))));have own:JMB:=wP
 simp only[own,HW,DN,FZ];show CS (ZS ⟨_,A!,ST!,_,cv!,F.slot_dict_itemiterator_next.lookup,?_⟩) (by simp[sizeOk,Builtin.Dict_items.ownedTupleFields,CV]);show hQ _ ⟨IR,IR,IR,am,Q6!,(ZU _ rfl).trans (by simp[rawInt,Builtin.Dict_items.ownedTupleFields])⟩ NG!
def Ji5{es:Fc!}{Q:VH!}(hw:YK Go it d i EC! ep)(hm:Ln!)(hi:i<es.size)(hQ:∀h',JFF h' AB!->JKo h' es[i].key es[i].val->(oW!)->ZT! (JI! Uf)):ct!:=by
 have ty:=hw.ty;show F8?;show F9?;have kP:JMB:=wP
 unfold pyNext;show O? JJ (JSJ ty J_ (DA J_ ty F.entry_dict_itemiterator_next JMM (F.args_dict_itemiterator_next_1 _)));show Jm? (gL! e0 A! ?_);simp only[kP,HW];show KK? (jF! i8!);show EW?;show CV? e2 f2;show AL?;show EB? e2 f2;show AL?;show ZS ?_;simp only[Px! p6!,FZ,CZ,QP hi];show Jm? (XA ty ?_);show KK? (JJ9 3 (sB+1) >>= _);show I2? e0 (λh1 q1 b1=>?_);have w1:JFF h1 AB!:=⟨own,ok,ov,f,ho,by rw[show Bb! Aj!=sB+1 by rfl];simpa [rawInt] using q1⟩;have ty1:Shared.TypeIs KW! LG! ST!:=YK.ty (s:=KW!) w1;show O? EK (ZR (XA ty1 (ZR (XA ty1 ?_))));show Jpk (s:=KW!) w1 λh2 w2 p2 k2=>?_;have z1:h1.objs.size=s.heap.objs.size:=b1.1;dsimp only at p2 k2 ⊢;rw[z1] at p2 ⊢;show ZS (Dn! (ZS (hQ h2 w2 p2 (CJ! (k2 b o hb ((b1.2 b hb).trans e))))))
def Jmw{es:Fc!}{Q:VH!}(hh:KK!)(hw:YK Go it d i EC! ep)(hm:Ln!)(hi:es.size<=i)(hQ:∀h',(oW!)->nQ!):ct!:=by
 have ty:=hw.ty;show F8?;show F9?;have kP:JMB:=wP
 unfold pyNext;show O? JJ (JSJ ty J_ (DA J_ ty F.entry_dict_itemiterator_next JMM (F.args_dict_itemiterator_next_1 _)));show Jm? (gL! e0 A! ?_);simp only[kP,HW];show KK? (jF! i8!);show EW?;show CV? e2 f2;show AL?;show EB? e2 f2;show AL?;show ZS ?_;simp only[Px! p6!,FZ,CZ,TV hi];show O? ZR (JS ty (ZS ?_));show ZR (EE (k:=2) e0 KB λh1 q1 b1=>?_);show ZR (Jn0 λh2 x t2 k2=>wpAny_raiseNew_none hh (ZR (PJ t2 gM! (ZS (hQ h2 (CJ! (k2 b o ((b1.2 b hb).trans e))))))))
open E
abbrev cJ(h:Heap)(it:Addr)(es:Fc!)(as:Z!):B!:=∀(j:Nat)(a:Addr),as[j]?=D! a->it<a/\∃e:DictEntry,es[j]?=D! e/\jC h a e.key e.val
def cJ.to(x:eV! h)(k:v7! (it<b) C2!):eV! h' :=λj a e=>let⟨l,d,e1,e2⟩:=x j a e;⟨l,d,e1,k a _ l e2⟩
def cJ.more(x:eV! h)(hi:as.length<es.size)(l:it<a)(p:jC h a es[as.length].key es[as.length].val):cJ h it es (as++[a]):=λj b e=>by rcases Nat.lt_trichotomy j Sk! with hj|hj|hj;(.rw[LA hj] at e;show x j b e);(.subst hj;(have e':a=b:=bv!);subst e';show⟨l,_,k6!,p⟩);.show AH? (ER (by simp;assumption))
open S
def Vi(hh:KK!)(l1:S<it)(n1:d≠S)(n2:d≠it)(hz:es.size<=sizeLine)(res:Value) : ∀(k:Nat)(s:Shared)(as:Z!)(c:Nat),as.length+k=es.size->JFF Go Sk!->Ln!->Zv! S (dK! c)->eV! Go->as.Nodup -> (∀h' OL c',ue!->OL.Nodup->(JEC (b≠S) (b≠it) DL!)->JQl->cJ h' it es OL->R (.ok (.ret res)) BT!) -> sA! (JNs [h! S,h! it,res])
 | 0,s,as,c,hk,iw,rd,hS,ps,nd,q=>by show QL PySem.F.entry_extend_loop ?_;rw[QB IG _];show(Cv! (QW! Xc! it) (Jmw hh iw rd ((BM hk.symm)) λh' kp=>ZS (q h' as c (by assumption) nd (λb o _ hb e=>Mv! kp hb) (kp S _ (BN l1) hS) (ps.to (CJ! (mw! (EU hb)))))))
 | k+1,s,as,c,hk,iw,rd,hS,ps,nd,q=>by have hi:as.length<es.size:=AF EU! (BM hk);have al:it<s.heap.objs.size:=let⟨_,_,_,_,_,e⟩:=iw;B1!;show QL PySem.F.entry_extend_loop ?_;rw[QB IG _];show Cv! (QW! Xc! it) (Ji5 iw rd hi λh1 iw1 p1 k1=>?_);have iu:=k1 S _ (BN l1) hS;(have sz:(as.map Value.ref).toArray.size=as.length:=sK);show Cv! (JKm uf!) (JHC iu (ZS (Bv! JHw)) (KE sz (AA EU! (hk▸hz))) (by rw[Array.size_push,sz];lia));have up:ha! (b≠S) lh! (h1.update S (Xu! uf!)).get?:=CJ! ((CG _ _ i3!).trans e);show Vi hh l1 n1 n2 hz res k (KJ! (h1.update S (Xu! uf!))) (as++[s.heap.objs.size]) (c+1) (by simp;lia) (ac! ZE iw1.to (λo e=>up it o (EU l1) e)) (rd.at λo e=>up d o n1 (k1 d o n2 e)) ?_ ?_ ?_ λh' OL c' a1 a0 a2 a3 a4=>q h' OL c' a1 a0 (λb o hb hc e=>a2 b o hb hc (up b o hb (k1 b o hc e))) a3 a4;(.show(OP iu _).trans ?_;simp[seqObj]);(.show cJ.more (ps.to (CJ! (up b o (EU (TQ l1 hb)) (k1 b o (EU hb) e)))) hi al (up _ _ (EU (TQ l1 al)) p1));.show YD! ⟨nd,sK,λa ha b hb z=>?_⟩;show BW? (b=s.heap.objs.size);have⟨j,hj⟩:=G_.mp ha;have⟨_,_,_,e2⟩:=ps j a hj;show GO! AU e2 (P9! z e (DR _))
open E
open S
def Y7(hh:KK!)(hv:JJU)(hm:Ln!)(hz:es.size<=sizeLine)(h:∀h' as it,as.length=es.size->as.Nodup->s.heap.objs.size<=it->yE!->eV! h'->R (Ar! D4!) BT!) : xx! (collect (Ep! v)) R:=by
 have lv:v<s.heap.objs.size:=let⟨_,e,_⟩:=hv;B1!;have ld:d<s.heap.objs.size:=let⟨_,e,_⟩:=hm;B1!;unfold collect;show O? wpAny_runValue (QL PySem.F.entry_proto_collect ?_);rw[QB PySem.F.plain_proto_collect _];show Cv! (newList []) (CS (ZS ⟨plainId_quiet PySem.F.plain_list_iadd _,QL PySem.F.entry_list_iadd ?_⟩) UM!);rw[QB PySem.F.plain_list_iadd _];generalize xc:JMp ([]:k!).toArray=h0;have gS:AT h0.get? Uf (dJ! 0):=A0! xc Cu!
 have k0:aA! (GA! h0.get?):=Cf! (A0! xc Hs!)
 have xD:h0.IsItemsView v d:=let⟨o,e,r⟩:=hv;Ea! (k0 v o e) r;have hm0:PX h0 d es ep:=hm.at λo e=>k0 d o e;have z0:h0.objs.size=Pe!:=QV! xc LK
 have low:aA! (b<s.heap.objs.size):=Cf! B1!;obtain⟨S,hS⟩:∃S:Addr,S=s.heap.objs.size:=BN!;rw[<-hS] at gS z0 lv ld low ⊢;have lS:S<h0.objs.size:=U! z0 (NY _)
 show Ta! (F9! PW! _ (Builtin.List.listExtendWith (IN S) (IN v) (IN S)) _ _ ug!) ?_;have fin:∀(R':ls!),(∀h' OL c',ue!->OL.Nodup->yE!->JQl->cJ h' YE! es OL->R' (.ok (.ret (Ep! S))) BT!) -> ∀h1 c1,YK h1 YE! d 0 EC! ep->PX h1 d es ep->AT SG! S (dJ! c1)->(aA! lh!)->Og! PW! A (JNs [h! S,h! YE!,h! S]) R' KW!:=λR' q h1 c1 a1 a2 a3 a4 =>Vi hh lS (BN ld) (BN (TQ ld lS)) hz _ EC! KW! [] c1 KB a1 a2 (by simpa using a3) (λj a e=>k5!) EG λh' OL c' q1 q0 q2 q3 q4=>q h' OL c' q1 q0 (Cf! (q2 b o (BN (low b o e)) (BN (TQ (JK! low) lS)) (JK! a4))) q3 q4;unfold Builtin.List.listExtendWith;show ZR (gB! (T:=Sm!) (Heap.IsItemsView.typeIs (s:=ug!) xD) ?_);have n1:wT (Builtin.List.listSameRef (IN S) lL!):=by simp[Builtin.List.listSameRef,EU lv]
 have n2:Ad! (iW! Sm! == iW! B4!):=wP
 have n3:Ad! (iW! Sm! == JFH):=wP
 simp only[n1,n2,n3,Bool.or_false,DN,FZ];show ZR (Ji6 (s:=ug!) xD hm0 λh1 iw k1=>?_);show O? EK (W.kdx_hint (s:=KW!) (let⟨o,e,c,_⟩:=xD;Ea! (k1 v o e) c) ?_);have tM:=L! k1 gS;have loop:∀h2 c2,(ha! (b≠S) lh! h2.get?)->lB! S (dJ! c2) -> Og! PW! A (JNs [h! S,h! YE!,h! S]) (λq s'=>NM λh' OL c'=>q=.ok (.ret (IN S))/\y4!/\ue!/\OL.Nodup/\yE!/\JQl/\cJ h' YE! es OL) ge!:=λh2 c2 k2 g2 =>wn _ (λh' OL c' a1 a0 a2 a3 a4=>⟨h',OL,c',A!,A!,a1,a0,a2,a3,a4⟩) h2 c2 (iw.to λo e=>k2 _ o (EU lS) e) (hm0.at λo e=>k2 d o (BN ld) (k1 d o e)) g2 (Cf! (k2 b o (BN (low b o e)) (k1 b o (JK! k0))));show wpAny_ite_split (JW!) (λ_=>ZS (Bv! JHw));.show O? SJ (Cv! (JKm (·.push .none) >>= λ_=>JKm (·.pop)) (ZR (JHC tM (JHC (OP tM _) (ZS (Bv! JHw)) ?_ ?_) ?_ ?_)));(.show I_ (FS loop (Tq! (oO! (oO! e))) (OP (OP tM _) _)) λq s' y=>?_;have⟨h',OL,c',rfl,rfl,a1,a0,a2,a3,a4⟩:=y;show Cv! (load S) (th! a3 (ZS ?_));show h h' OL _ a1 a0 (CZ! hS (A_ lS)) a2 a4);all_goals (simp[seqObj,CV])
 .show I_ (loop h1 0 (λb o _ e=>e) tM) λq s' y=>?_;have⟨h',OL,c',rfl,rfl,a1,a0,a2,a3,a4⟩:=y;show Cv! (load S) (th! a3 (ZS ?_));show h h' OL _ a1 a0 (CZ! hS (A_ lS)) a2 a4
open E
open S
def Ji9{vs:k!}{ns:At}(p:WD!):ItemsAre (intKind B2! w) ns vs:=by induction p with | nil=>show R! | cons n t _ ih=>show SC (intKind_is B2! w n t) ih
def Jjx(x:OP! h a As!)(y:JEq):IsTupleKey (intKind B2! w) h ns a :=let⟨o,ho,hc,n,hd⟩:=x;⟨o,As!,n,ho,hc,hd,Ji9 y⟩
inductive QJ(h:Heap)(a:Addr)(q:zI!):B!
 | mk ka its t (_:jC h a (IN ka) JGe) (_:OP! h ka As!) (_:IntsAre Oc! H!)
def QJ.to(k:v7! C2! bX!)(x:QJ h a q):QJ h' a q :=let⟨ka,its,t,e1,⟨o,ho,hc,r⟩,e3⟩:=x;⟨ka,As!,t,FS k e1 A!,⟨o,k ka o ho hc,hc,r⟩,e3⟩
def Jss(hu:f9!)(x:QJ Go a p)(y:QJ Go b q)(same:g!=H!->pi=PP)(h:C (X3! g! H!) s) : F9! (model B2! w) A (JCC keyLt' (tuples' am) a) C (KG!) s:=by
 have⟨ka,its,t,e1,e2,e3⟩:=x;have⟨kb,sy,u,f1,f2,f3⟩:=y;show W.kat_lt e1 A! f1 A! (uW! (wpAny_eqBool_tuple hu (Jjx e2 e3) (Jjx f2 f3) (W.kat_go (λe=>W.kat_yes (uW! (tO! (W.kat_go (λ_=>W.kat_yes (W.kat_nil ?_)) GY!)))) λe=>W.kat_no (NE W.kat_one (HT.aR e2 f2 e3 f3 hu h)))));.have e:=BV e;rw[e,Sn] at h;show h
 .rw[same (BV e)] at z;simp at z
abbrev Mn(h:Heap):lV! (EN! zI!):=XO! (QJ h)
def Jdf{as:Z!}{L:EN! zI!}(p:Mn h as L):∃fs:k!,W.KatTups h vk! fs/\fs.length=as.length/\∀v∈fs,HK λka its=>v=QR! ka/\OP! h ka As!:=by induction p with | nil=>show⟨[],CM!,A!,λv hv=>by simp at hv⟩ | cons r _ ih =>have⟨ka,its,t,e1,e2,e3⟩:=r;have⟨fs,a1,a2,a3⟩:=ih;show⟨h! ka::fs,W.KatTups.cons e1 A! A! A! a1,by simp[a2],Ur!⟩;rcases ZM hv with rfl|hv;(.show⟨ka,As!,A!,e2⟩);.show a3 v hv
def Ja8(x:Mn h as L)(hi:X5!):HK λa q=>XJ!=D! a/\L[i]?=D! q/\JSq i IR=Ep! a/\e0!=H!/\QJ h a q:=by
 show CL? x;have⟨a,ha⟩:=ZX! as hi;show Gz? L (Xn!);show⟨a,q,ha,hq,?_,?_,A6 x i a q ha hq⟩;.rw[KJ,ZH,ha];rfl
 .rw[KJ,ZH,hq];rfl
def Jg0(hu:f9!)(ho:cZ! (dK! n))(XS:as.length<64)(x:Mn Go as L)(nd:JCZ)(h:JQ2 Sk! (JT7 (JUR NH! NH!)) o3!) : JPr:=by
 show CL? x;have eS:oy!=as.length:=ZA ..;have key:∀i,X5!->∃h:i<(BX! (·.1)).length,e0!=(BX! (·.1))[i]:=λi hi=>⟨mA! ZA,k8! uh!⟩;have one:∀i j,X5!->j<as.length->e0!=NH! j []->i=j:=λi j hi hj e=>by have⟨l1,e1⟩:=FM i hi;have⟨l2,e2⟩:=FM j hj;rw[e1,e2] at e;show(NZ nd).mp e
 show Jbe (lt:=yj! NH! NH!) ho (le! XS) ⟨λi j k _ _ _=>ur,λi j hi hj WC e=>Jd1 (λz=>WC (one i j (by show eS▸hi) (by show eS▸hj) z)) e⟩ (λh2 h' kp Q hQ=>?_) (le! h);have x':Mn h' as L:=Ax (λb q y=>y.to λb o e c=>mw! (λz=>by rw[z,ho] at e;cases e;show Ct! (show XN! B4!=XN! Er! from c) TD)) x;have⟨fs,f1,f2,f3⟩:=Jdf x';show W.kat_kind (s:=BT!) (T:=io!) f1 (KE f2 (eS▸(A_ h2))) (Ur!) A! (hQ _ λi j hi hj C hC=>?_);.have⟨ka,its,rfl,o,e,c,_⟩:=f3 v hv;have z:W.Looks PW! h' (JDL ka) o.cls:=(gd! e).andThen .now;rw[c] at z;show z
 .rw[eS] at hi hj;have⟨a1,q1,g1,g2,g3,g4,g5⟩:=Ja8 x' hi;have⟨a2,q2,k1,k2,k3,k4,k5⟩:=Ja8 x' hj;unfold W.kas_ask;rw[g3,k3];dsimp only at hC;rw[g4,k4] at hC;show Jss (s:=BT!) hu g5 k5 VT! hC;have e:=one i j hi hj (by rw[g4,k4,z]);subst e;rw[g2] at k2;cases k2;rfl
open E
abbrev lay(H:Hp):JTO->Hp
 | []=>H
 | p::r=>QY! (lay H r) g! pi
def z_:zJ! (b∉ci ps.map->lay H ps b=H b)
 | [],_=>rfl
 | p::r,h=>by have h1:b≠g!:=λz=>h (lP! CT!);change(upd (lay H r) g! (FB pi)) b=_;rw[Ad h1];show z_ (mZ! h)
def Jko:zJ! (AT! ps.map->Xx! (lay H ps g!=D! (FB pi)))
 | [],_,p,hp=>GG! hp
 | q::r,nd,p,hp=>by show AM?;show Eg?;(.show Ab);.have ne:g!≠H!:=JFT ⟨p,hp,z⟩;change(upd (lay H r) H! (FB PP)) g!=_;rw[Ad ne];show Jko PM.2 p hp
open S
abbrev Jzu(X:E!)(AB:x!)(a:Addr):B!:=Ab! OW! a/\a≠X.env.locals/\(QB! (c≠a))/\aV! (g!≠a)
def Qah(I:I!)(h:XU!):Jzu X AB a :=let x:=I.UQ (H':=Oh!) h A!;⟨Heap.get?_none_of_le (AA I.sz h),LE!,x.2.2.2.2.1,x.2.2.2.2.2⟩
def Jkr:zJ! (I!->AT! ps.map->(Xx! (Jzu X AB g!/\JBv/\∀H',ZR! H' g! (FB pi)))->JBg o2!)
 | [],I,_,_=>I
 | p::r,I,nd,h=>by show AM?;have⟨⟨a1,a2,a3,a4⟩,a5,a6⟩:=Go! p;show Jbk (Jkr I PM.2 (AN! (h q (AH! hq)))) (KE (z_ PM.1) a5) a1 a2 a3 a4 (a6 _)
open E
inductive RecAt(H:Hp)(a:Addr)(q:EE!):B!
 | mk ka (_:ch! JHL) (_:eb!)
def Jwr{P:Program}{w:World}{H:Hp}{h1:Heap}{n:Nat}{as:Z!}{L:Y!}(p:H0! (λa q=>n<=a/\HK λka t=>jC h1 a (IN ka) JGe/\eb!) as L) : ∃ps:JTO,ci ps.map=as/\(Xx! (n<=g!/\∀H',EX P w H' h1 g! (FB pi)))/\H0! (λp q=>∃ka,pi=JHL/\eb!) ps L:=by induction p with | nil=>show⟨[],A!,λp hp=>by(cases hp),R!⟩ | @cons a q _ _ r _ ih =>have⟨la,ka,t,e1,e2⟩:=r;have⟨ps,b1,b2,b3⟩:=ih;show⟨(a,JHL)::ps,jp AI b1,Eb!,SC (FM! ka e2) b3⟩;show Eg?;(.show⟨la,λH'=>⟨by show DI? 2;rw[CV];show NI!,[h! ka,V! PP t],r6! A! dQ!,JN1 e1⟩⟩);.show b2 p hp
open S
variable {X:Cx Kx}
inductive Nt(xs:C!)(H:Hp)(Q:VK):B!
 | mk v d (L rs:Y!) (_:xs=[h! v]) (_:BE! v (uj v d)) (_:ad! d L) (_:L.length<64) (_:rs.Perm L) (_:IN!) (_:∀(r:Addr)(as:Z!)(H':Hp),XV->cE!->JDW r->pl! H'->TR! r)
def Pj(hc:BK!)(hu:dP!):oU! Nt:=by
 show F5?;have⟨v,d,L,rs,rfl,hv,hd,XS,pm,pw,q⟩:=h;have⟨u,rfl,rx⟩:=vals1 rv;show H?;have⟨z,lo,ys,rel,o,es,ep,g1,g2,g3,g4,g5⟩:=JGv (Dl L);have vw:JJU:=pt! v hv;have hes:es.size=ys.length:=MW g4;have hyl:ys.length=L.length:=by have:=RD!;show BP?;show this.symm
 have ent:∀(j:Nat)(e:DictEntry)(q:EE!),es[j]?=D! e->L[j]?=D! q->HK λka t=>e.key=h! ka/\e.val=V! PP t/\eb!:=λj e q h1 h2=>by rw[gg! g4 j] at h1;cases hy:ys[j]? with | none=>rw[hy] at h1;cases h1 | some y =>rw[hy] at h1;cases h1;have⟨r1,r2,r3⟩:=A6 rel j wu! y (Lo! h2) hy;have⟨t,r3⟩:=r3;show⟨y.2.1,t,A!,r3,r2⟩
 have ndL:JCZ:=(pm.map (·.1)).nodup_iff.mp (List.Pairwise.imp (λ{a b} (h:LB a b) (z:a=b)=>JLx) pw);show JQ7 (by show F3?;show Kd? Y7 JL9 vw JPd (by rw[hes,hyl,CV];show m8!) (λh1 as it hl sY hit kp prs=>?_);show I3? { s with heap:=h1,toks:=s.toks };(have iB:as.length=L.length:=X!);(have fct:H0! (λa q=>XU!/\HK λka t=>jC h1 a (IN ka) JGe/\eb!) as L:=Ec iB (gh! (by have⟨la,e,e3,e4⟩:=prs j a e1;have⟨ka,t,k1,k2,k3⟩:=ent j e q e3 e2;rw[k1,k2] at e4;show⟨A_ (AF hit la),ka,t,e4,k3⟩)));have⟨ps,b1,b2,b3⟩:=Cd! Jwr P Bm! w X.w fct;have ie:∀a,XU!->Q8!:=Oz! (XX! ha);have I2:HS! o2! { s with heap:=h1,toks:=s.toks }:=Jkr I1 (KE b1 sY) λp hp=>⟨Qah I JHg,ie _ JHg,(b2 p hp).2⟩;(have sm:EP! o2!:=Sj! (by rw[z_ (λz=>?_)];(.show e);.have⟨p,hp,rfl⟩:=ZN z;rw[ie _ JHg] at e;cases e));(have JAa:Dm! (RecAt (lay H ps)) as L:=by rw[<-b1];show Ec (CY! (AD! b3)) (gh! ?_);rw[ZH] at e1;cases hp:ps[j]? with | none=>rw[hp] at e1;cases e1 | some p =>rw[hp] at e1;cases e1;have⟨ka,k1,k2⟩:=A6 b3 j p q hp e2;show⟨ka,jp (Jko (KE b1 sY) p (ZP hp)) k1,U9! k2⟩);(have JAd:qy! Mn h1 R1!:=Ec (CY! iB) (gh! (by rw[ZH] at e2;cases hq:L[j]? with | none=>show DY? hq | some q0 =>rw[hq] at e2;cases e2;have⟨_,ka,t,k1,k2⟩:=A6 fct j a q0 e1 hq;have⟨its,rv,it2,_⟩:=fv! (ED! k2);show⟨ka,CH!,t,k1,it2,ZS! (intsAre_of (ns:=[q0.1.1,q0.1.2]) rv)⟩)));(have eK:Mn! (BX! R1!).map BX! (λq=>[q.1.1,q.1.2]):=UU!);(have ndK:AT! (BX! R1!).map:=by show Hh? ((BX! λq=>([q.1.1,q.1.2]:At))=xa! λt=>[lc,AX!]);rw[eK,e];show List.Pairwise.map _ (λa b h z=>h (by have⟨a1,a2⟩:=a;have⟨c1,c2⟩:=b;simp at z;rw[z.1,z.2])) ndL);show JR? (by rw[ZA,CV];lia);have g1:AT (h1.push (seqObj "list" (as.map Value.ref).toArray 0)).get? HB! (dK! 0):=Cu!;have JAc:qy! Mn JUb R1!:=Ax (λa q y=>y.to λb o e _=>Hs!) JAd;show KG? g1 (Jg0 (by change X.A.units+1+1<cLine;lia) g1 i! JAc ndK λp pp po h2 c wj e=>cV!);show JC?;have ij:lay H ps HB!=none:=dG!;have inr:∀i∈p,X5!:=λi hi=>Ck! (pp.mem_iff.mp hi);(have eR:Id! (JMF)=rs:=by show Nc (lt:=λa b:T2×Int=>LB a.1 b.1) (λa z=>by rw[E4] at z;lia) (λa b h1 h2=>by rw[E4] at h1 h2;lia) ?_ ?_ (CZ! (EW (f:=DM!) (R:=LB)) pw);(·(have e2:(At! Sk!).map (JMF)=L:=by show En?;rw[ZH];by_cases hj:gR!;(.rw[show qj!=D! j by simp[iB,hj]];simp[hj]);.rw[show qj!=none by simp[iB];show G1! Dr!,ER (Vw! G1!)];rfl);have e7:=pp.map JMF;rw[e2] at e7;show e7.trans pm.symm);.rw[EW];show List.Pairwise.imp_of_mem (λ{i j} hi hj z=>?_) po;have li:=pR!;have lj:=inr j hj;rw[eK] at z;simpa [LB,Px! uh!,Px! gR!] using z);(have eV:(Id! o3!)=p1! D4!:=by rw[AX];show DF λi hi=>?_;have:=pR!;simp[this]);(have JAZ:Dm! (RecAt (Y9! o2! HB! p1!)) (Id! aS!) rs:=by rw[<-eR];show Ec (Bi! ZA ZA) (gh! ?_);rw[ZH] at e1 e2;cases hp:p[j]? with | none=>rw[hp] at e1;cases e1 | some i =>rw[hp] at e1 e2;cases e1;cases e2;have li:=DQ! inr i hp;have⟨ka,k1,k2⟩:=A6 JAa i (as.getD i 0) (L.getD i ((0,0),0)) (by simp[li]) (by simp[Px! uh!]);show⟨ka,Ai ij _ _ k1,Ai ij _ _ k2⟩);show JD? (iw! I2.laid HB! (.BK (p1! CK!)) C7! (λb o hb=>wj b o (BN (AU hb)) (ZT _ hb)) CC! ⟨?_,ER! Id! aS! D4!,c,Px _,?_⟩) (q _ (Id! aS!) _ (Ah sm (Ai ij)) hn Ab JAZ);(.rw[ZA,ZA,pp.length_eq,DT,CV];lia);.rw[<-eV];show e)
open E
def Vb(f:α->β):∀(xs:Q!)(j:Nat),(D5! f).eraseIdx j=p2! f
 | [],_=>rfl
 | _::_,0=>rfl
 | x::xs,j+1=>Ui! (f x :: ·) (Vb f xs j)
open S
variable {prog:Program}{w:World}{K:Type}[DecidableEq K]{knd:HeapKind prog w K}{A:Around}{E:Value->Shared->Prop}{s:Shared}
def Jch{d a:Addr}{xs:IC!}{k:K}{p:tS!}{j:Nat}{Q:E9! (HV! DictEntry)}(hu:qS!)(bY:r8!)(hm:rf!)(hz:Fj!)(hj:Qb! MF! p)(hQ:∀h' o es ep,JFU->o.ExactDict->NY!->JJ5 p2!->WJ!->Q (D! (fm! knd (k,p))) (tp! JT5)) : A9! (Builtin.Dict.takeOut d Bf!):=by
 have⟨o,es,ep,ho,hc,hd,he,his,hn⟩:=hm;unfold Builtin.Dict.takeOut;show EK (ZR (knd.pyHash hu bY (ZR (wpAny_dictFind_heap (s:=yq!) hu bY ho hd he his hn (λno=>AJ! hj (no j p)) λi q hi=>?_))));obtain rfl:=idxH_unique hn hi hj;rw[hj] at hi;cases hi;show ZR (DO (s:=yq!) ho hd ?_);rw[gg! he i,hj];show ZR (wpAny_updateDictKeys (hz:=U! (MW he) hz) (s:=yq!) ho hd (ZS (hQ _ _ _ _ (EH _ ho (QV (JB hd _))) (hc.mapDictKeys _) (JB hd _) ?_ P3!)));have e1:(es.eraseIdxIfInBounds i).toList=es.toList.eraseIdx i:=sK
 rw[e1,he];show L! Vb _
def Jo6{d a:Addr}{xs:IC!}{k:K}{p:tS!}{j:Nat}{Q:E9! PySem.Fin}(hu:qS!)(bY:r8!)(hm:rf!)(hz:Fj!)(hj:Qb! MF! p)(hQ:∀h' o es ep,JFU->o.ExactDict->NY!->JJ5 p2!->WJ!->Q (.done (.ret pi)) (tp! JT5)) : A9! (Builtin.«dict.pop» (Hl! [JO!,Br!])):=by
 have ty:=hm.typeIs;have⟨o,es,ep,ho,hc,hd,he,his,hn⟩:=id hm;have ne:es.isEmpty=false:=by have h1:=MW he;have h2:Se!:=ES! hj;cases h3:es.isEmpty with | false=>rfl | true=>rw[OA] at h3;lia
 unfold Builtin.«dict.pop» Builtin.Dict.keyAndDefault;show IL? ty;dsimp only;rw[AD (show ¬y! (keyPart (D4! a)).isSome from AO)];show ZR (DO ho hd (eL! ZS));show D0? ne;show ZR (Jch hu bY hm hz hj λh' o' gU jr a1 a2 a3 a4 a5=>?_);show ZR (gY! (ZS (hQ h' o' gU jr a1 a2 a3 a4 a5)))
open E
open S
variable {κ:Type}[DecidableEq κ]
def Xa:∀{kvs:By!} {k:κ} {v:V} {j:Nat},AT! Fu!->Qb! (kvs[j]?) v->Dx Db k=kvs.eraseIdx j
 | [],_,_,j,_,h=>C0!
 | p::r,k,v,0,nd,h=>by show AZ? (p=(k,v));show AM?;rw[Jna (by rw[h]),Xb (by rw[h] at PM;show PM.1)];rfl
 | p::r,k,v,j+1,nd,h=>by show AZ? (Qb! (r[j]?) v);show AM?;have ne:¬g!=k:=JFT ⟨(k,v),ZP h,Fx!⟩;rw[Jb2 ne,Xa PM.2 h];rfl
def Jjw:∀{kvs:By!} {k:κ} {v:V},c6!->∃j:Nat,Qb! (kvs[j]?) v
 | [],k,v,h=>NJ!
 | p::r,k,v,h=>by show Av?;(.rw[N4 e] at h;show⟨0,by rw[<-e,<-ZO h];rfl⟩);.rw[N5 e] at h;have⟨j,hj⟩:=Jjw h;show⟨j+1,by simpa using hj⟩
open E
open S
variable {X:Cx Kx}{AB:List (Addr×Obj)}{σ:L2.St}{H:Hp}{s:Shared}{A:Around}{E:Value->Shared->Prop}{a b:Addr}
def Jg5{kvs:BI!}{xs:Lx!}(p:J6!):EY! D5! Fu!:=py! yz r.1.symm
def Jxc{kvs:BI!}{k:Ko!}{v:V}{Q:Os}(hu:N8!)(I:I!)(e:WH!)(eb:VD!)(l:c6!)(h:∀w' s',JBf a bD! s'->FB! v w'->Q w' s'):WB! tv! [Br!,B9!]:=by
 show Ks? ml;have hz:Fj!:=Q9! RD!
 have⟨j,hj⟩:=Jjw l;have hjx:Se!:=NE! RD! hj
 have⟨x,hx⟩:=A4 hjx;have⟨r1,r2,r3⟩:=A6 rel j _ _ hj hx;have⟨k',p⟩:=x;have r1:k=k':=r1;subst r1;have nd:AT! Fu!:=by have⟨_,_,_,_,_,_,_,_,nd⟩:=id dd;rw[<-Jg5 rel];show nd
 have eD:AT! p2!:=by rw[<-Vb,Jg5 rel];show nd.sublist (AC! List.eraseIdx_sublist)
 show DA ND Fv! PySem.F.entry_dict_pop (Jo6 (HI hu) (Kz Au! eb) dd hz hx λh' o es ep a1 a2 a3 a4 a5=>Dn! (FS h ?_ r3)) (AC! PySem.F.args_dict_pop_2);rw[Xa nd hj];show Ph I JTj a5 (EW! a1) ⟨?_,hd,tU! j,KT.keeps (Jdg j rel) y2!,o,es,ep,a1,a2,a3,a4,eD⟩;.show AA (by rw[List.length_eraseIdx];split<;>lia) z
 .rw[Ad (JNv e)];show ec
abbrev Jvd(td ty:TE):TE:=JPx (YL λkvs k v b=>b7! a wv Db/\Uo!/\Kj! H2 wQ!/\c6!/\Q v (NM! a wv bD!))
def Kv(hu:Jy!)(ho:Ls!)(he:dS!)(m:JRD "pop"):JNR "pop" Jvd:=by show M?;show Eb? ND PySem.F.type_dict_pop;show C1?;subst ex;show s?;show E8?;show Es?;rw[Xr!];show E5? (λiv s2 ⟨y,H2,I2,ry,kvs,k,v,b,ea,ey,eb,l,q2⟩=>K' ?_);subst ey;obtain rfl:iv=D4! b:=ry;show Jxc hu I2 ea eb l (JQD _)
open E
abbrev MZ(l:Q0!)(a:Addr)(h:G!):Q0!:=db λq=>sG!
def T4(l:Q0!)(a:Addr)(h:G!):(MZ l a h).map Ic!=db Ic!:=by
 unfold MZ;rw[AX];show Ai?;change(sG!).2.1=Tk;by_cases e:Tk=a;.rw[AE e];show Bn!
 .rw[AD e]
def Joa(l:Q0!)(a:Addr)(h:G!):(MZ l a h).map (Nv!)=db Nv!:=by
 unfold MZ;rw[AX];show Ai?;change(tk (sG!).1,AA! (sG!).2.1)=_;by_cases e:Tk=a;.rw[AE e,<-e]
 .rw[AD e]
def Jp5(m:q∈MZ l a h):(∃q0∈l,q0.2.1=a/\q=(q0.1,a,h))\/(q∈l/\Tk≠a):=by
 unfold MZ at m;have⟨q0,h0,e⟩:=Gg!;by_cases e1:q0.2.1=a;.rw[AE e1] at e;show GE ⟨q0,h0,e1,Bn!⟩
 .rw[AD e1] at e;rw[<-e];show AD? h0 e1
open S
def BD.a_(x:bi)(hq:ui!)(l:G!):nY! Tk Bk (JSz Tk l):=by
 have⟨_,_,_,d1⟩:=x.bJ;have⟨n1,n2,n3,n4⟩:=FT! d1;have mem:Tk∈CV!:=by unfold BX;show JJY
 have np:=x.UO mem;show AR?;show IS? n1.symm n2.symm ?_ n4.symm Nc! ?_;.rw[Ad n3.symm];change BE! na (wv ((MZ re Tk l).map Nv!));rw[Joa];show x.dl
 .rcases Jp5 hr with⟨q0,_,e1,e2⟩|⟨h1,h2⟩;(.rw[e2];show Ab);.rw[Ad h2];show x.hl r h1
 ·(have e2:fP! (JSz Tk l):=by unfold BX;rw[T4]);rw[e2];show BY!
open E
abbrev B0(l:G!)(t:T2):G!:=if HC! then l else l++[t]
abbrev Iw(l:G!)(t:T2):G!:=DC! (Tt! (u≠t))
def Jm4(l:G!)(t:T2):JRt (q=t)=Tn! HC! t:=by
 by_cases h:HC!;.rw[AE h];cases e:dE! (q=t) with | none=>show I? (BP.mp e t h) KB | some u =>have:=F' e;(have:u=t:=by show Y?);rw[this]
 .rw[AD h];show Sl! (G7! (by have:¬u=t:=λz=>h (z▸hu);show Y?))
def Hi(l:G!)(t:T2):Ce (db DV!) (tk t)=Xs! HC! (HU! D8! q!):=by
 rw[D9 (k:=YF!) (f:=Qj!),Jm4];by_cases h:HC!;.rw[Gd!,Gd!];rfl
 .rw[ID!,ID!];rfl
def Fj(l:G!)(t:T2):JDH DV! (tk t) D8! q!=(B0 l t).map DV!:=by
 unfold B0;by_cases h:HC!;.rw[AE h];unfold putK;rw[N6,Hi,Gd!,AE (Ih! (y! (D! (D8! q!)).isSome)),AX];show Ai?;change(SW! (tk q=tk t) (tk q,D8! q!) (tk q,D8! q!))=_;by_cases e:tk q=tk t;(.rw[AE e]);.rw[AD e]
 .rw[ID!,Lz (k:=YF!) (f:=Qj!) _ (λq hq z=>ZY! h hq),ZF];rfl
def Lc(l:Q!)(k:C4!)(f:IH!)(t:T2):Dx (db a7!) (tk t)=(DC! (AG! bi!)).map a7!:=by
 unfold Dx;rw[LR];congr 1;show FU λq _=>?_;change Fd! (Aa! (tk (k q)≠tk t)) bi!;by_cases e:k q=t;.rw[e];simp
 .have e2:¬tk (k q)=tk t:=Zi! zW;simp[e,e2]
abbrev Bg(l:Y!)(t:T2)(v:Int):Y!:=B3! DS! (db JHq) JK5
def Ex(l:Y!)(t:T2)(v:Int):JDH IK! (tk t) wp v=Uj! IK!:=by
 unfold Bg;by_cases h:DS!;.rw[AE h];unfold putK;(have e1:y! ((l.map IK!).any λkv=>Mr! kv.1 tk t):=by show C5? (ZN h);show N_.mpr ⟨wu!,BL hq,z6!⟩);rw[e1,BG!,AX,AX];show Ai?;change(SW! (TP!=tk t) (TP!,xz v) wu!)=(tk (j7! (H!,v)),xz (v4! (H!,v)).2);show AA?;(.rw[AE e,AE (by rw[e])]);.rw[AD e,AD (Zi! zW)]
 .rw[ID!,Lz (k:=DM!) (f:=Jd!) _ λq hq z=>np! Z8!,ZF];rfl
open S
open E
abbrev isT (H:Hp) (tb:T2):DY!->A3!
 | .ref a=>@decide (hY! a tb) (Classical.propDecidable _)
 | _=>false
open S
open E
open S
variable {prog:Program}{w:World}{A:Around}{R:Result->Shared->Prop}{s:Shared}{l:Addr}{items:Array Value}{n:Nat}{x:Value}
open E
open S
open E
open S
open E
open S
open E
def Jyn:JF! ML! O0!:=ZV
abbrev Ff(c:Int)(d:Addr):DP!:=nz! O0! d (TO! ML! c)
def Oq(c:Int)(d:Addr):Ff c d=([(ML!,xz c),(O0!,AA! d)]:DP!):=by grind [Az,V,Jyn,Ff]
def F7(c:Int)(d:Addr):HT! (Ff c d).lookup (E7! ML!) V! c:=by unfold Ff;rw[Bj,AD Jyn,Bj,BG!]
def Fs(c:Int)(d:Addr):AT (Ff c d).lookup (E7! O0!) (IN d):=by unfold Ff;rw[Bj,BG!]
def Dj(c:Int)(d:Addr){m:Str}(h1:¬m=O0!)(h2:¬m=ML!):Ab! (Ff c d).lookup m:=by unfold Ff;rw[Bj,AD h1,Bj,AD h2];all_goals rfl
def Jl9(c y:Int)(d:Addr):Az ML! (V! y) (Ff c d)=Ff y d:=by grind [Oq,V,Az,Ff]
abbrev kvsOf(ls:j!):Bz!:=MM! λl=>(AV! AY!,AA! l.2)
structure KS(C:Addr)(H:Hp)(p d:Addr)(c:Int)(ls:j!):B! where
 ob:zG! (Mt! (Ff c d))
 dc:Ky! JDQ
 le:Ii! (AY!<=c)
 nd:AT! MM!
def KS.keep(x:KS C H p d c ls)(h1:∀o,Pn! o->md! H')(h2:∀o,Ky! o->TX! H' d):KS C H' p d c ls :=⟨QS! (h1 _ e),h2 _ x.dc,x.le,BY!⟩
def KS.ne(x:KS C H p d c ls):p≠d:=by show AR?;show Q5 e x.dc Wt!
def O1(ls:j!):Ak! HD! ls=ls.length:=ZA ..
def O0:JMx HD! ls=(ls.find? JLD).map λl=>AA! l.2:=by
 unfold Ce kvsOf;rw[P',gS!];congr 1;congr 1;funext l;change Fd! (Mr! (Zy! AY!) AV! n) (AY!=n);by_cases e:AY!=n;.rw[e];simp
 show IF? Sr!
def Jwt(h:zN!):JMx HD! ls=none:=JH0 (JED h)
def Jhk{l1 l2:j!}{n:Int}{t:Addr}(nd:Np! WA!):(WA!).find? (JLD)=D! (n,t):=by
 rw[ZF,AI] at nd;have h:∀l∈l1,¬AY!=n:=YG! (bz! (dV! AY! (BL hl) n Hp!) (this e))
 rw[List.find?_append];have e1:l1.find? (JLD)=none:=UK! (Fy! (JED h))
 rw[e1];simp
def Jho(nd:Np! WA!):Dx (HD! (WA!)) (AV! n)=HD! (KX!):=by
 rw[ZF,AI] at nd;have h1:∀l∈l1,¬AY!=n:=YG! (dV! AY! (BL hl) n (CT!) e);have h2:∀l∈l2,¬AY!=n:=YG! ((IW! (Cm! nd).2.1).1 (by have m:=BL (f:=λx:Int×Addr=>Ag!) hl;rw[e] at m;show m));have all:∀ls:j!,(Ii! (¬AY!=n))->Dx (HD! ls) mK!=HD! ls:=λls h=>by show Xb Qn!;unfold kvsOf at m;rw[AX] at m;have⟨l,hl,e⟩:=Gg!;show h l hl (Sr! e)
 unfold kvsOf;rw[ZF,AI,ZF];unfold Dx;rw[LV,FF];have e0:Uk! (((AV! (n,t).1,AA! (n,t).2):Key×V).1≠aN!):=sK
 rw[e0];have a1:=all l1 h1;have a2:=all l2 h2;unfold Dx kvsOf at a1 a2;rw[a1,a2];rfl
def zy(h:zN!):EA! (HD! ls) mK! (CK! t)=HD! (ls++[(n,t)]):=by rw[Ib _ (Jwt h)];unfold kvsOf;rw[ZF];rfl
structure ET where
 share:Ch
 hs:F!
 po:F!
 iq:F!
 fi:F!
 en:F!
 pd:F!
 c:Ch
 ls:j!
 qs:cr
 OJ:j!
 JC:j!
 GQ:j!
def Kg:JF! Ey! Ez!:=ZV
def Ny:JF! BW! Ez!:=ZV
def Mr:JF! BW! Ey!:=ZV
def Qs:JCL Ez!:=ZV
def Nz:JCL Ey!:=ZV
def Ta:JCL BW!:=ZV
def Ms:l0! Ez!:=ZV
def Kh:l0! Ey!:=ZV
def N2:l0! BW!:=ZV
def Qt:l0! Ij!:=ZV
def Qu:cT! Ez!:=ZV
def N3:cT! Ey!:=ZV
def Tb:cT! BW!:=ZV
def Jap:cT! Ij!:=ZV
def Qv:cT! MN!:=ZV
abbrev Fe(W:ET):DP!:=[(Ez!,T! B6!),K7! Ey! CN!,K7! BW! Bp!,K7! Ij! CO!,K7! MN! HE!,K7! O1! Fz!]
def Kf(W:ET):HT! (Fe W).lookup (E7! Ez!) V! B6!:=by unfold Fe;rw[Il]
def Ds(W:ET):da! Ey! CN!:=by unfold Fe;rw[Bv Kg,Il]
def D7(W:ET):da! BW! Bp!:=by unfold Fe;rw[Bv Ny,Bv Mr,Il]
def Sy(W:ET):da! Ij! CO!:=by unfold Fe;rw[Bv Qs,Bv Nz,Bv Ta,Il]
def Jno(W:ET):da! MN! HE!:=by unfold Fe;rw[Bv Ms,Bv Kh,Bv N2,Bv Qt,Il]
def Jnp(W:ET):da! O1! Fz!:=by unfold Fe;rw[Bv Qu,Bv N3,Bv Tb,Bv Jap,Bv Qv,Il]
def Cj(W:ET)(h:wT (([Ez!,Ey!,BW!,Ij!,MN!,O1!]:AC).contains m)):Ab! (Fe W).lookup m:=by simp only[QA,Bool.or_eq_false_iff,DX] at h;have⟨h1,h2,h3,h4,h5,h6,_⟩:=h;unfold Fe;rw[Bv h1,Bv h2,Bv h3,Bv h4,Bv h5,Bv h6];rfl
def Ju7(W:ET):nz! O1! Fz! (Y4! MN! HE! Ij! CO! (Y4! BW! Bp! Ey! CN! (TO! Ez! B6!)))=Fe W:=by unfold Fe;rw[Em];rw[Dx! Kg,Em];rw[Dx! Ny,Dx! Mr,Em];rw[Dx! Qs,Dx! Nz,Dx! Ta,Em];rw[Dx! Ms,Dx! Kh,Dx! N2,Dx! Qt,Em];rw[Dx! Qu,Dx! N3,Dx! Tb,Dx! Jap,Dx! Qv,Em]
abbrev B5:yK! Z!
 | []=>[]
 | q::l=>rV!++B5 l
def Ir:∀(l m:cr),B5 (l++m)=B5 l++B5 m
 | [],m=>rfl
 | q::l,m=>by change rV!++B5 (l++m)=(rV!++B5 l)++B5 m;rw[Ir l m,BH]
def EB:y9! (b∈B5 l↔∃q∈l,b=H!\/b∈BX PP)
 | []=>⟨λh=>by simp[B5] at h,λ⟨q,h,_⟩=>C0!⟩
 | q::l=>by change b∈rV!++B5 l↔_;rw[List.mem_append,BU,EB];show q?;(.rintro(h|⟨r,hr,h⟩);(.show⟨q,CT!,h⟩);.show⟨r,ZD _ hr,h⟩);.rintro⟨r,hr,h⟩;rcases ZM hr with rfl|hr;(.show J?);.show L? (UY! h)
abbrev Cd(p:Addr)(W:ET):Z!:=[p,W.hs,W.po,W.pd,W.iq,W.fi,W.en]
abbrev Bu(p:Addr)(W:ET):Z!:=QF!++B5 BC!
structure AW(CW CH CP:Addr)(H:Hp)(p:Addr)(W:ET):B! where
 ob:zG! (.ins CW dx (Fe W))
 hs:BE! CN! (EO! W.qs.map a1!)
 ho:∀q∈W.qs,BD CH H H! PP
 po:KS CP H Bp! W.pd W.c HF!
 iq:JAI CO! W.OJ
 fi:JAI HE! W.JC
 en:JAI Fz! W.GQ
 nd:(Bu p W).Nodup
abbrev JQ(p:Addr)(W:ET)(H H':Hp):B!:=WN! Ga!
open S
variable {CW CH CP p:Addr}{H H':Hp}{W:ET}
def AW.keep(x:D2!)(k:dj! kA!):hm! H' W:=by have t:∀{b},bU!->kA!:=λh=>M4!;show⟨QS! JEI,mj! x.hs,JTy (FS k (an! (PX! hb)) e),x.po.keep (λo e=>JEI) (λo e=>JEI),mj! EH!,mj! x.fi,mj! Ik!,BY!⟩
def AW.same(x:D2!)(s:XV):hm! H' W:=x.keep (XW! (Jb! s))
def AW.some_at(x:D2!)(hb:kA!):∃o,Hf!/\(∀xs,o≠FB xs)/\∀ob u,o≠.IQ ob u:=by
 show Bg?;.show DA?;show Df?;(.show AR?;show⟨_,e,TS!,TU!⟩);(.show Ch? x.hs);(.have⟨dx,e⟩:=x.po.ob;show⟨_,e,TS!,TU!⟩);(.show Ch? x.po.dc);(.show Ch? EH!);(.show Ch? x.fi);.show Ch? Ik!
 .show Dg?;show Gx?;(.have⟨dx,e⟩:=(x.ho q hq).ob;show⟨_,e,TS!,TU!⟩);.show De? (x.ho q hq).MV;show⟨_,e,TS!,TU!⟩
def AW.df(x:D2!)(e:JTk):Ga!:=λm=>by have⟨o,e',h,_⟩:=m1!;show g?;cases e';show h _ A!
def AW.RF(x:D2!)(e:An!):Ga!:=λm=>by have⟨o,e',_⟩:=m1!;show g?;cases e'
def JQ.FQ(x:D2!)(f:M5!):BB! :=⟨Xw! (f a _ e (x.df e)),λa ob u e=>f a _ e λm=>by have⟨o,e',_,h⟩:=m1!;show g?;cases e';show L! h A!⟩
def Jwi{A X X' B:Z!}(h:(A++(X++B)).Nodup)(hx:X'.Nodup)(k:∀b∈X',b∈X\/(b∉A/\b∉B)):(A++(X'++B)).Nodup:=by
 show C7? (Cm! h);have⟨b1,b2,b3⟩:=Cm! a2;show YD! ⟨a1,YD! ⟨hx,b2,λy hy z hz e=>?_⟩,λy hy z hz e=>?_⟩;.show C? (k y hy);(.show b3 y h z hz e);.show h.2 (e▸hz)
 .show AE?;(.show C? (Gk! k);(.show a3 y hy z (DK! h) e);.show v6 (e▸hy));.show a3 y hy z (FH! hz) e
def AW.step(x:D2!){i:Nat}{q:Addr}{G G':CN}(hi:cM!)(S:BD CH H' q G')(f:ZW q G H H')(nw:Rq!) : hm! H' { W with qs:=Wu! }/\M5!:=by
 have⟨IP,_⟩:=ZJ hi;have e1:W.qs=JDb++HW!::JDV:=by have:=GZ i BC!;rw[<-this];congr 1;(.rw[GZ]);.rw[GZ];show(List.drop_eq_getElem?_toList_append (l:=BC!) (i:=i)).trans (Ds! hi)
 have e2:Wu!=JDb++HY!::JDV:=jp List.set_eq_take_append_cons_drop (AE IP)
 generalize JDb=l1 at e1 e2;generalize JDV=l2 at e1 e2;have hm:HW!∈W.qs:=ZP hi;have nd:=x.nd;unfold Bu at nd;rw[e1,Ir] at nd;have eA:QF!++(B5 l1++B5 (HW!::l2))=(QF!++B5 l1)++((q::CV!)++B5 l2):=mX!
 rw[eA] at nd;show C7? (Cm! nd);have⟨b1,b2,b3⟩:=Cm! a2;have apart:∀b,(bU!\/JN4)->b≠q/\iT!:=ut (by (have no:b∉q::CV!:=λm=>by rcases hb with hb|hb|hb;(.show Wx! a3 (DK! hb) cn!);(.show Wx! a3 (FH! hb) cn!);.show Wx! b3 m hb);show⟨λz=>no (lP! CT!),mZ! no⟩)
 have kp:dj! (bU!\/JN4):=CJ! (f b o e (Pp! apart) (apart b hb).2);have t:∀{b},bU!->b∈QF!\/JN4:=λh=>M7!;have hsm:W.qs.map (a1!)=(Ss! i HY!).map a1!:=by rw[e2,e1,ZF,ZF];rfl
 show⟨⟨QS! JMu,?_,Nc!,x.po.keep (λo e=>JMu) (λo e=>JMu),JJG EH!,JJG x.fi,JJG Ik!,?_⟩,Ib! ?_⟩;.have:=FS kp (t (b:=CN!) ZB!) x.hs;show N? hsm;show this
 .have hr:r∈Wu!:=hr;rw[e2] at hr;(have oth:r∈l1\/r∈l2->BD CH H' W! r.2:=λh=>by (have hW:r∈W.qs:=lO! (Ot! (λz=>Cs! z) λz=>DJ! (AH! z)));show(x.ho r hW).keep (CJ! (mw! (Ot! (λz=>d! (S! (O2! ⟨r,z,hb⟩))) λz=>d! (d! (O2! ⟨r,z,hb⟩))))));show Bh?;(.show oth (S! hr));.rcases ZM hr with rfl|hr;(.show S);.show oth (d! hr)
 .change(QF!++B5 (Ss! i HY!)).Nodup;rw[e2,Ir];(have eB:QF!++(B5 l1++B5 (HY!::l2))=(QF!++B5 l1)++((q::BX G')++B5 l2):=mX!);rw[eB];show Jwi nd (MH! ⟨λm=>S.UO m A!,S.nd⟩) GW!;show B8?;(.show S! (CT!));.show C? (C5! nw);(.show E? (AH! h));.have no:=x.RF h;unfold Bu at no;rw[e1,Ir] at no;show d! ⟨λm=>no ?_,λm=>no ?_⟩;(.show G2?;(.show Cs! m);.show DJ! cn!);.show DJ! (FH! (ZC (q::CV!) m))
 .have LI:b∉B5 BC!:=λm=>hb (FH! m);show f b o e (λz=>LI (O2! (BM! hm (GE z)))) λz=>LI (O2! (BM! hm cC!))
def AW.gy(x:D2!):(W.po≠W.pd/\W.po≠p/\W.po≠W.hs/\W.po≠W.iq/\W.po≠W.fi/\W.po≠W.en)/\(W.pd≠p/\W.pd≠W.hs/\W.pd≠W.iq/\W.pd≠W.fi/\W.pd≠W.en)/\(W.iq≠p/\W.iq≠W.hs/\W.iq≠W.fi/\W.iq≠W.en)/\(W.fi≠p/\W.fi≠W.hs/\W.fi≠W.en)/\(W.en≠p/\W.en≠W.hs):=by have nd:=cB! BY!;simp only[Cd,BB,BU,CL,GY,not_or,EG,and_true,not_false_eq_true] at nd;have⟨⟨a1,a2,a3,a4,a5,a6⟩,⟨b1,b2,b3,b4,b5⟩,⟨c1,c2,c3,c4⟩,⟨d1,d2,d3⟩,⟨e1,e2⟩,f1⟩:=nd;show⟨⟨c1,LN! a2,LN! b1,c2,c3,c4⟩,⟨LN! a3,LN! b2,d1,d2,d3⟩,eA! (LN! a4) (LN! b3),⟨LN! a5,LN! b4,f1⟩,⟨LN! a6,OZ! b5⟩⟩
def AW.KU(x:D2!)(hb:bU!)(hq:q∈W.qs):b≠H!/\b∉BX PP:=by have h:=C5! (Cm! BY!).2.2;show⟨λz=>h _ (O2! (PX! Q6!)) z,λz=>h _ (O2! (PX! cC!)) A!⟩
def AW.LZ(x:D2!)(S:KS CP H' Bp! W.pd c ls)(f:iV! (b≠W.po) (b≠W.pd) IE!) : hm! H' { W with c:=c,ls:=ls }/\M5!:=by
 have⟨⟨a1,a2,a3,a4,a5,a6⟩,⟨b1,b2,b3,b4,b5⟩,_⟩:=x.gy;show⟨⟨QS! (fV! e a2 b1),fV! x.hs a3 b2,JTy (f b o e ?_ ?_),S,fV! EH! a4 b3,fV! x.fi a5 b4,fV! Ik! a6 b5,BY!⟩,Ib! (f b o e ?_ ?_)⟩;show Cr? Bp!
 show Cr? W.pd
 .rintro rfl;show hb (DK! ZB!)
 show FH?
def AW.JA9(x:D2!):JNW CO! { W with OJ:=l } CO!:=by
 have⟨⟨a1,a2,a3,a4,a5,a6⟩,⟨b1,b2,b3,b4,b5⟩,⟨c1,c2,c3,c4⟩,_⟩:=x.gy;show JZ? (b≠W.iq) CO!
 show Ko? c1 c2 a4 b3 Ab (xS! x.fi c3) (xS! Ik! c4);show Cr? CO!
 show FH?
open E
abbrev Yx(W:ET)(h:Int):B!:=h<0\/zQ!
abbrev NA(W:ET)(h:Int)(q:Addr)(G:CN):B!:=0<=h/\Ba! (W.qs[h.toNat]?)
def NA.at(i:CX!)(x:D2!):BD CH H q G:=DQ! x.ho HW! SZ
def NA.lt(i:CX!):0<=h/\h<W.qs.length:=by have⟨z,_⟩:=ZJ SZ;have:=i.1;show⟨i.1,X!⟩
def NA.UK(i:CX!):L2.UK (W.qs.map a1!) h=D! (CK! q):=Do i.1 (Lo! SZ)
def lookup_mem:∀{l:GV!},JLp->(y,k)∈l
 | [],h=>C0!
 | (a,b)::l,h=>by rw[IA] at h;by_cases e:y=a;(·(have q1:AU! (y==a):=b1! (NV a));rw[q1] at h;have h:b=k:=ZO h;rw[e,h];show CT!);.have q1:Ad! (y==a):=IV! e;rw[q1] at h;show ZD _ JDk
def uh{l:GV!}{cl:CF!}{y:Str}(hc:∀p∈l,pi=OT!\/pi=Eq!->aU! g!)(h:JMs):Lv!:=by
 show CG?;.show hc _ JDk (S! A!)
 .show hc _ JDk (d! A!)
def J1r{a b c:Str}{cl:CF!}{y:Str}(h:Qf! ([NN!,NO!,(c,NameKind.globalImplicit)]:GV!).lookup ([NN!,NO!,(c,NameKind.globalImplicit)]:GV!).lookup):Lv! :=r2! (by show DB?;rcases hp with rfl|rfl|rfl<;>rcases hk with hk|hk<;>cases hk)
def J1s{a b c d e f:Str}{k1 k2 k3 k4:NameKind}{cl:CF!}{y:Str}(hc:oZ!)(hd:aU! d)(he:aU! e)(hf:aU! f)(h:Qf! ([NN!,NO!,(c,k1),(d,k2),(e,k3),(f,k4)]:GV!).lookup ([NN!,NO!,(c,k1),(d,k2),(e,k3),(f,k4)]:GV!).lookup):Lv! :=r2! (by show DB?;rcases hp with rfl|rfl|rfl|rfl|rfl|rfl;(.show Gf?);show HO?;(.show hc);(.show hd);(.show he);.show hf)
inductive j5(K:W.Frag)(H:Hp):JHA
 | BE {a:Addr} {xs:C!} {ds:LW!}:Dz!->xc! Rep ds->j5 K H Bf! (MI! ds)
open S
open E
structure Lies(H:Hp)(L:Z!):B! where
 nd:L.Nodup
 all:∀b∈L,yW!
def Lies.keep(x:p3!)(k:r7!):Lies H' L:=⟨BY!,ut (let⟨o,e⟩:=C5! x.all;Jb! k)⟩
def Lies.new(x:p3!)(h:An!)(h':∃o,IE!)(k:r7!):Lies H' (b::L) :=⟨MH! ⟨λm=>(by show Ap? (x.all b m);rw[h] at e;cases e),BY!⟩,Ia! (by rcases ZM hc with rfl|hc;(.show h');.show Ap? JJO;show k c o e)⟩
open S
def Jpe(he:RV!)(ht:JUT es (do
  let ov <-aO!
  eF!
  let(f,first) <-fe!
  JUU JSI):=by rfl) :
 wF! JR9 es (λσ H _=>ta σ H KG!):=by
 show M?
 show QM (pl:=pl) (TW! he (λu s1 ⟨x,H1,I1,rx,q⟩=>q.elim)) ht
def Jma{X:E!}(he:RV!)(c:SB!)(hm:qM!)(ha:N6!)(gE:L1!:=by rfl)(TY:Rs!:=by rfl)(ht:JIy (do
  let ov <-aO!
  eF!
  let(f,first) <-fe!
  JNn):=by rfl) :
 JGn (λσ H _=>Tv! ta (NM λa dx fs=>Bg!/\e4!/\oR!/\FK! t KG!)):=by
 show M?
 show FW?
 show Cz?
 subst ex
 show s?
 show Kg?
 show tJ! (λus s2 ⟨vs,H2,I2,r,q2⟩=>q2.elim)
open E
def Lies.add(x:p3!)(nd:X.Nodup)(h:∀b∈X,An!)(h':∀b∈X,∃o,IE!)(k:r7!):Lies H' (X++L) :=⟨YD! ⟨nd,BY!,λb hb c hc e=>by have⟨o,z⟩:=JJO;rw[<-e,C5! h] at z;cases z⟩,Ia! (by rcases ZI hc with hc|hc;(.show h' c hc);.show Ap? JJO;show k c o e)⟩
def Lies.perm(x:p3!)(p:L.Perm L'):Lies H L':=⟨p.nodup_iff.mp BY!,ut (x.all b (uS! hb))⟩
abbrev Kp(p:Addr)(H H':Hp):B!:=WN! Ig!
def Kp.trans(a:Kp p H H1)(b:Kp p H1 H2):Kp p H H2:=λc o e h=>b c o (a c o e h) h
def mQ:Kp p H JEG:=λb o' e h=>h8! (Ad h)
def Kp.ex(k:Kp p H H')(hp:∃o,md! H'):r7!:=Cf! (by by_cases z:b=p;(.rw[z];show hp);.show⟨o,FI! k z⟩)
def Jye(h:¬x=y):yP!:=AL (GN! h YH!)
def bH(k:Vc! tb)(hv:Uy! (D! (bn wd)):=by rfl)(ne:¬wd=c:=by show BO?):sB! (Ki (UG iS (Bt i) oE!)):=⟨_,hv,A!,_,A!,lR! (Jye ne) Bn⟩
def mZ(k:Vc! ta)(hv:Uy! (D! (bn c)):=by rfl):sB! (Ki (UG iS (Bt i) oE!)):=⟨_,hv,A!,_,A!,lR! (AR A!) B3⟩
def AW.WS(x:D2!)(e:JEy)(h:b≠W.hs):Ga!:=λhb=>by show Bg?;(.show DA?;show Df?;(.show C9?;show g?;cases e');(.show h A!);(.have⟨dx,e'⟩:=x.po.ob;show g?;cases e');(.have e':=x.po.dc;show g?;cases e');(.have e':=x.iq;show g?;cases e');(.have e':=x.fi;show g?;cases e');.have e':=x.en;show g?;cases e');.show Dg?;have ne:=(x.ho q hq).WT e;show hb.elim ne.1 ne.2
abbrev Jyv(G:CN):Bz!:=[(o! YI!,T! G.BQ),ng! A6! G.h,ng! Aw! na,ng! Cl! WF,ng! DB! G.r,(o! EF!,T! G.AY),(o! EG!,T! Ie!)]
inductive LstAt(H:Hp)(b:Addr)(ts:G!):B!
 | mk (as:Z!) (_:Yy! GU!) (_:IM!)
def BS.keep(k:BB!)(x:IM!):Wb!:=Ax (λ_ _ e=>Mp! e) x
structure vU(H:Hp)(p:Addr)(G:CN):B! where
 ob:Pn! (Af! (Jyv G))
 dh:LstAt H G.h Ax!
 dO:ad! WF BL!
 dl:VC! na re
 dr:ad! G.r AO!
 hl:Ox! (LstAt H Tk BF!)
 nd:(p::CV!).Nodup
open S
variable {p:Addr}{H H':Hp}{G:CN}
def Gi{α β:UF}{f:α->β}:JJm f (∀{a b:α},a∈l->b∈l->f a=f b->a=b)
 | [],_,_,_,ha,_,_=>JCo
 | x::l,nd,a,b,ha,hb,e=>by show Dh?;rcases ZM ha with ha|ha<;>rcases ZM hb with hb|hb;(.rw[ha,hb]);(.show EC? ⟨b,hb,QV! e ha⟩ nd.1);(.show EC? ⟨a,ha,mV! hb⟩ nd.1);.show Gi nd.2 ha hb e
open E
@[reducible]abbrev HL:=Q0!
abbrev LW(l:HL):EN! (T2×G!):=db WM!
abbrev JU(l:HL)(t:T2)(h:G!):HL:=db (JTL fT!)
abbrev EM(l:HL)(t:T2):G!:=((If! (AG! Cr!)).map Il!).getD []
def Vk(l:HL)(t:T2):(LW l).find? (AG! Cr!)=(If! (AG! Cr!)).map WM!:=mx! P'
def Jhj(l:HL)(t:T2):EM l t=(((LW l).find? (AG! Cr!)).map CI!).getD []:=by unfold EM;rw[Vk,gS!];rfl
def Jfe(l:HL)(t:T2)(h:G!):LW (JU l t h)=(LW l).map (JTL (H!,h)):=by
 unfold LW JU;rw[AX,AX];show Ai?;change(j7! fT!,(v4! fT!).2.2)=SW! Cr! (H!,h) (H!,BF!);show AA?;.rw[AE e,AE e]
 .rw[AD e,AD e]
def Jod(l:HL)(t:T2)(h:G!):(JU l t h).map Ic!=db Ic!:=by
 unfold JU;rw[AX];show Ai?;change(v4! fT!).2.1=Tk;show AA?;.rw[AE e]
 .rw[AD e]
def Joc(l:HL)(t:T2)(h:G!):EY! (JU l t h).map db:=by
 unfold JU;rw[AX];show Ai?;change j7! fT!=H!;show AA?;.rw[AE e]
 .rw[AD e]
def Ox(m:q∈JU l t h):(Cr!/\BF!=h)\/q∈l:=by
 have⟨q0,h0,e⟩:=Gg!;show D? (q0.1=t);.rw[Bk!] at e;subst e;show E? (Py! c)
 .rw[Gh!] at e;subst e;show L? h0
def Sr(h:DS!):∃a,ax!=D! (t,a,EM l t):=by cases e:dE! Cr! with | none =>show G3?;show E0?;show I? e2 (by show Y?) | some q =>(have h1:Cr!:=by have:=F' e;show Y?);show f? Tk;(have:EM l t=BF!:=by unfold EM;rw[e];rfl);rw[this,<-h1]
def Ja0(ka:w7! Ic!)(kt:cd!)(f:ax!=D! (t,a,hl))(h:G!):MZ l a h=JU l t h:=by
 have m:=BI f;unfold MZ JU;show DF BQ!;show AA?;.have:=Gi kt hq m e;rw[this,BG!,BG!]
 .have:¬Tk=a:=λz=>e (by rw[Gi ka hq m z]);rw[AD this,AD e]
structure HG(M G:CN):B! where
 BQ:M.BQ=G.BQ
 AY:M.AY=G.AY
 BF:M.BF=G.BF
 hand:uj!
 AJ:M.AJ=G.AJ
 AK:M.AK=G.AK
 holds:LW Im!=LW re
def HG.EM(x:BJ!)(t:T2):FX.EM Im! t=FX.EM re t:=Cy! Jhj Jhj YJ!
structure Ok(G:CN)(n:Nat):B! where
 hn:G.hand.Nodup
 hz:G.hand.length<=n
 on:AT! HG!
 oz:G.AJ.length<=n
 ke:JJP
 rn:AT! MO!
 rz:G.AK.length<=n
 ln:Ox! (q.2.2.Nodup/\q.2.2.length<=n)
 new:kY! (aI!/\kZ!)
 hk:O3! pI!
 lk:JSc pI!
 rk:T2! MO! kb!
def Ok.mono(x:AR!)(h:n<=m):Ok G m :=JRR x.hn (AA x.hz h) (AA x.oz h) (AA x.rz h) (AN! ⟨(In! q hq).1,AA (In! q hq).2 h⟩) x.hk
abbrev KP(G:CN):CN:={ G with BF:=Hd! }
abbrev XQ(G:CN)(a:Addr):CN:={ G with AY:=FG!,hand:=NR!,AJ:=Rk!,holds:=Ub! }
def EF:u∈B0 l t↔u∈l\/u=t:=by
 unfold B0;by_cases h:HC!;.rw[AE h];show⟨S!,λz=>Sp! id λz=>lP! h⟩
 .rw[AD h];simp
def IY:u∈Iw l t↔u∈l/\u≠t:=by unfold Iw;rw[AG];simp
def Uw(t:T2)(h:l.Nodup):(B0 l t).Nodup:=by
 unfold B0;by_cases e:HC!;.rw[AE e];show h
 .rw[AD e];show Gq h e
def Mf(l:G!)(t:T2):(B0 l t).length<=l.length+1:=by
 unfold B0;by_cases e:HC!;.rw[AE e];show DU _
 .rw[AD e];simp
open S
def Ok.KP(x:AR!):Ok (KP G) n:=JRR x.hn x.hz x.oz x.rz In! x.hk
def Ok.hand(x:AR!)(h1:l.Nodup)(h2:l.length<=n)(h3:∀t∈l,pI!):Ok uX! n:=JRR h1 h2 x.oz x.rz In! h3
def Ok.holds(x:AR!)(h1:l.Nodup)(h2:l.length<=n)(h3:∀t∈l,pI!):Ok (JS0 t l) n:=by
 show⟨x.hn,x.hz,x.on,x.oz,(Joc ..).trans x.ke,x.rn,x.rz,BQ!,x.new,x.hk,BQ!,Io!⟩;.show Eh?;(.rw[e];show⟨h1,h2⟩);.show In! q hq
 .show Eh?;(.rw[e];show h3);.show x.lk q hq
def Ok.XQ(x:AR!)(a:Addr):R0! T8!:=by
 have nw:JLF:=λm=>by have:=(x.new _ m).2;show AJ! this (by change ¬G.AY<G.AY;show uk! _)
 have eo:ci cc!=Mo!++[(G.BQ,G.AY)]:=Vd!
 show⟨?_,?_,?_,?_,?_,x.rn,by have:=x.rz;change G.AK.length<=n+1;show CC Dr!,BQ!,?_,?_,?_,Io!⟩;.show Gq x.hn λm=>nw (x.hk _ m A!)
 .change(NR!).length<=n+1;rw[ZE];have:=x.hz;change G.hand.length+1<=n+1;show EV Dr!
 .change Np! wb!;rw[eo];show Gq x.on nw
 .change(wb!).length<=n+1;rw[ZE];have:=x.oz;change G.AJ.length+1<=n+1;show EV Dr!
 .change(G.holds++[(FD!,a,xN!)]).map (λ(q:T2×Addr×List T2)=>H!)=cc! Bl!;rw[eo,ZF,x.ke];rfl
 .show Bf?;(.show⟨(In! q hq).1,CC (In! q hq).2⟩);·(have:q=(FD!,a,[]):=by simpa using hq);rw[this];show⟨EG,Bu!⟩
 .intro t ht;show G4? cc!;change aI!/\AX!<FG!;rw[eo] at ht;show Ce?;(.have:=x.new t ht;show⟨St!,by have:=this.2;show BW this⟩);·show IK?;rw[this];show AS? (Mz! (G.AY<FG!) GJ!)
 .intro t ht e;change FC! cc!;rw[eo];show Ce?;(.show Cs! (x.hk t ht e));.show DJ! ht
 .intro q hq t ht e;change FC! cc!;rw[eo];show Bf?;(.show Cs! (x.lk q hq t ht e));·show JS?
def Ok.fresh(x:AR!):(O3! (t≠FD!))/\(∀q∈G.AJ,qd!)/\Ox! qd!:=by
 have nw:JLF:=λm=>by have:=(x.new _ m).2;show AJ! this (by change ¬G.AY<G.AY;show uk! _)
 show⟨λt ht e=>Li! nw (x.hk t ht (by rw[e])),λq hq e=>Li! nw (BL hq),λq hq e=>nw (lG! e x.ke (BL hq))⟩
def Ok.PU(x:AR!):G.holds.length<=n:=by show AP? x.ke;show ES?;rw[this];show x.oz
def Ok.get(x:AR!)(t:T2):(EM re t).Nodup/\(EM re t).length<=n/\∀u∈JFL,u.1=G.BQ->u∈Mo!:=by unfold EM;cases e:Pj! G.holds.find? Cr! with | none=>show⟨EG,Bu!,G7! (GG! hu)⟩ | some q =>have m:=BI e;show⟨(In! q m).1,(In! q m).2,x.lk q m⟩
def Ok.find(x:AR!)(h1:Ip!)(h2:aI!):∃a,cp! Cr!=D! (t,a,JFL):=LF! Sr x.ke (x.hk t h1 h2)
def HG.JU(x:BJ!)(t:T2)(l:G!):HG { M with holds:=JU Im! t l } (JS0 t l) :=⟨Iq!,x.AY,x.BF,Df!,DD!,Dg!,by change LW (FX.JU Im! t l)=LW (FX.JU re t l);rw[Jfe,Jfe,YJ!]⟩
def HG.mk2(x:BJ!)(a b:Addr):HG (KP (XQ M a)) (KP (XQ G b)):=by
 show⟨Iq!,?_,?_,?_,?_,Dg!,?_⟩;.change M.AY+1=FG!;rw[x.AY]
 .change M.BF+1=Hd!;rw[x.BF]
 .change M.hand++_=G.hand++_;rw[Df!,Iq!,x.AY]
 .change M.AJ++_=G.AJ++_;rw[DD!,Iq!,x.AY]
 .change LW (M.holds++[((M.BQ,M.AY),a,[])])=LW (G.holds++[(FD!,b,[])]);unfold LW;rw[ZF,ZF,show M.holds.map (WM!)=Fw! WM! from x.holds,Iq!,x.AY];rfl
open E
abbrev Aj(l:Y!)(t:T2):Ch:=JLy
def Ic(l:Y!)(t:T2)(v:Int):ci Uj!=B3! DS! aL! (aL!++[t]):=by
 unfold Bg;by_cases h:DS!;.rw[Gd!,Gd!,AX];show Ai?;change j7! (H!,v)=H!;show AA?;(.rw[AE e]);.rw[AD e]
 .rw[ID!,ID!,ZF];rfl
def Ok.qz(x:AR!)(hf:Gb!)(v:Int):R0! { G with hand:=Hu!,AK:=oJ! }:=by
 have x1:=x.mono (DU n);show⟨Uw _ x.hn,by have:=hh! Mf;have:=x.hz;change(B0 Ax! tb).length<=n+1;lia,x1.on,x1.oz,x1.ke,?_,?_,x1.ln,x1.new,Qr!,x1.lk,?_⟩;.change AT! (Bg AO! tb v).map;rw[Ic];show Gp?;(.rw[Gd!];show x.rn);.rw[ID!];show Gq x.rn h
 .have h0:=Ui! List.length (Ic AO! tb v);have:=x.rz;change(Bg AO! tb v).length<=n+1;rw[ZA] at h0;rw[h0];show Gp?;(.rw[Gd!,ZA];show CC Dr!);.rw[ID!,ZE,ZA];change G.AK.length+1<=n+1;show EV Dr!
 .show Ae?;(.show x.hk t ht e);.show Ct! (A0! ht e) hf
 .change T2! (Bg AO! tb v).map kb!;rw[Ic];intro t ht;show Gp?;(.rw[Gd!] at ht;show Io! t ht);.rw[ID!] at ht;show Ce?;(.show Io! t ht);·(have:t=tb:=by simpa using ht);rw[this];show hf
open S
def Jqq(G:CN)(a:Addr):BX (KP T8!)=CV!++[a]:=by unfold BX XQ KP;simp
open E
def O9(h:DS!):JL5 Lc!:=by cases e:dE! Cr! with | none =>show G3?;show E0?;show I? e2 (by show Y?) | some q =>(have h1:Cr!:=by have:=F' e;show Y?);(have:Lc!=PP:=by unfold Aj;rw[e];rfl);rw[this,<-h1]
def Jkg(h:DS!)(v:Int):EY! Uj! db:=jp Ic Gd!
def Jf1(h:DS!)(v:Int):(Bg l t v).length=l.length:=UW! (Gz! List.length (Jkg h v)) ZA ZA
open S
def Ok.AJ(x:AR!)(h:IA!)(v:Int):Ok (gk! oI!) n:=by
 have e:=Jkg h v;show⟨x.hn,x.hz,by change AT! bN!;rw[e];show x.on,by change(Bg BL! tb v).length<=n;rw[Jf1 h];show x.oz,by change EY! Fw! bN!;rw[e];show x.ke,x.rn,x.rz,In!,?_,?_,?_,Io!⟩;.change T2! bN! _;rw[e];show x.new
 .change O3! (aI!->FC! bN!);rw[e];show x.hk
 .change JSc (aI!->FC! bN!);rw[e];show x.lk
abbrev KQ(M G:CN):B!:=HG { M with BF:=G.BF } G
open E
def Vw(f:α->Ch):∀{l:Q!} (x:Int),w7! f->Ee! DC! (λe=>f e==x) 1
 | [],_,_=>Bu!
 | a::l,x,nd=>by show Dh?;rw[FF];by_cases e:f a=x;(.have no:(DC! λe=>f e==x)=[]:=List.filter_eq_nil_iff.mpr (Sh! (NK! nd.1 ⟨b,hb,by rw[e];simpa using z⟩));rw[AE (by simpa using e),no];show ZG _);.rw[AD (by simpa using e)];show Vw f x nd.2
open S
variable {prog:Program}{w:World}{K:Type}[DecidableEq K]{knd:HeapKind prog w K}{A:Around}{E:Value->Shared->Prop}{s:Shared}
abbrev Tame(knd:HeapKind B2! w K):B!:=∀{A:Around} {E:Os} {s:Shared} {k:K} {a:Addr} {Q:lr!},r8!->(∀b,Q b s)->cs! Builtin.Dict.quietEq a
def Jjd{id:String}{d:Addr}{ob:Obj}{es:Fc!}{ep:Nat}{xs:IC!}{Q:E9! Fc!}(tm:Tame knd)(g:Zv! d ob)(dat:ob.data=.dict es ep)(ent:JJ5 D5!)(keys:∀x∈xs,knd.is Go Ag! LE!)(hh:H3! D5! (λx=>knd.hash Ag!))(q:Q es s):A9! (Builtin.Dict.entriesForEmpty id d):=by
 have hn:H3! O4! (λe=>e.hash):=Dq! ent AX hh
 unfold Builtin.Dict.entriesForEmpty;show ZR (DO g dat RY!);rw[<-Array.forIn_toList];show Km? (s'=s/\∀e∈rest,e∈es.toList) (A8! (λe he=>he));.rintro e rest b s' ⟨rfl,sub⟩;have me:=ZN! sub e;rw[ent] at me;have⟨x,hx,ex⟩:=ZN me;(have ek:e.key=h! LE!:=by rw[<-ex];rfl);rw[ek];show ZR (tm (keys x hx) λbq=>?_);(have small:¬(es.filter yb!).size > 1:=by have h1:=Vw (λz:DictEntry=>z.hash) e.hash hn;(have h2:(es.filter yb!).size=Ak! es.toList.filter yb!:=QV! DY Array.toList_filter);rw[h2];show CQ.mpr h1);cases bq with | true =>simp only[Bool.not_true,DN,FZ];show ZS (A8! (JI3 sub)) | false =>simp only[Bool.not_false,HW];rw[AD small];show ZS (A8! (JI3 sub))
 .rintro b s' ⟨rfl,_⟩;show ZS q
def T3{d a:Addr}{xs:IC!}{k:K}{v:Value}{Q:Fb!}(room:qS!)(key:r8!)(m:rf!)(z:Fj!)(q:JSh (om! (jv! k a v)) WJ!):A9! (dictSetHashed d Bf! (knd.hash k) v):=by
 have⟨ob,es,ep,g,ex,dat,ent,keys,nd⟩:=m;have sz:=MW ent;unfold dictSetHashed;show EK (ZR (wpAny_dictFind_heap room FM g dat ent keys nd (λno=>?_) λj p hj=>?_));.show O? SJ (wpAny_updateDictKeys (hz:=U! sz z) g dat (q _ ⟨_,_,ep+1,JGu g JB dat,ex.mapDictKeys _,JB dat _,?_,H9!,?_⟩ P3!));(.rw[JOi,ZF,<-ent];simp[entryOfKey]);(.rw[JOi] at hx;rcases ZI hx with hx|hx;(.show JOp (keys x hx));·(have e:x=(k,a,v):=by simpa using hx);rw[e];show JOp FM);.rw[JOi,ZF];show Gq nd (not_mem_keys_of_get no)
 .show O? SJ (ZR (wpAny_updateDict g dat (wpAny_point (q _ ⟨_,_,ep,JGu g Obj.data_mapDict dat,ex.mapDict _,Obj.data_mapDict dat _,?_,H9!,?_⟩ P3!))));(.rw[gl! (ul! nd hj)];have e:=modify_map_putAt (fm! knd) (λe:DictEntry=>{ e with val:=v }) k v bI! nd hj;rw[<-ent] at e;rw[<-e];simp);(.rw[gl! (ul! nd hj)] at hx;have⟨y,hy,e⟩:=ZN hx;(have e1:Ag!=AK!/\LE!=y.2.1:=by rw[<-e];unfold putAt;show D? (AK!=k);(.rw[AE c];show AS? A!);.rw[AD c];show AS? A!);rw[e1.1,e1.2];show JOp (keys y hy));.rw[gl! (ul! nd hj),keys_map_putAt];show nd
abbrev Ei(xs more:IC!):IC!:=more.foldl (λacc x=>JKO acc) xs
def Q7(xs more:IC!){i:Nat}{x:K×tS!}(h:more[i]?=D! x):Ei xs (Ir! AB!)=JKO (Ei xs (Ir! i)):=by unfold Ei;rw[gm!,h,QW];rfl
def Jfb(xs:IC!)(k:K)(a:Addr)(v:Value):(storedH xs k a v).length<=Qs!:=by cases e:IX! xs k with | none=>rw[storedH_new e,ZE];show Ao! | some p=>rw[gl! e,ZA];show DU _
def Nl:∀(more xs:IC!),Ja! Ei xs Bo! (xs.length+more.length)
 | [],xs=>Ao!
 | x::r,xs=>JO7 Ei (jv! Ag! LE! x.2.2) r (Nl r _) (Jfb xs Ag! LE! x.2.2) Ei (jv! Ag! LE! x.2.2) r (xs.length+(r.length+1))
def U7:∀(more xs:IC!),Np! (xs++more)->Ei xs Bo!=xs++more
 | [],xs,_=>Ec! AM xs
 | x::r,xs,nd=>by (have e:IX! xs Ag!=none:=by cases c:IX! xs Ag! with | none=>rfl | some p =>exfalso;unfold atKey at c;cases f:xs.find? (λy=>Aa! (AK!=Ag!)) with | none=>rw[f] at c;cases c | some y =>(have h1:AK!=Ag!:=ZS! (F' f));have h2:=BI f;rw[ZF,AS] at nd;show nd.2.2 _ (BL h2) _ (BL (CT!)) h1);change Ei (JKO xs) r=xs++x::r;rw[storedH_new e];(have e2:xs++[(Ag!,LE!,x.2.2)]++r=xs++x::r:=mX!);rw[U7 r _ (lf! e2),e2]
def Jix{id:String}{d o:Addr}{xs more:IC!}{Q:Fb!}(tm:Tame knd)(room:qS!)(ne:d≠o)(lo:Ad! (o==sysModules))(hd:rf!)(ho:s.heap.DictOfH knd o Bo!)(z:B5! (xs.length+more.length))(hh:xs=[]->nV! (λx=>knd.hash Ag!))(q:JSh (om! (Ei xs Bo!)) WJ!):A9! (Builtin.Dict.mergeDict id d o):=by
 have⟨od,esd,epd,gd,exd,aJ,JBZ,JIn,ndd⟩:=_root_.id hd;have⟨oo,TZ,epo,go,exo,VR,dF,ax,ndo⟩:=_root_.id ho;have so:=MW dF;unfold Builtin.Dict.mergeDict Builtin.Dict.showsAll;rw[AD (by simpa using ne),AD (U! lo AO)];show CV? go VR;dsimp only;split;.show ZR (DO gd aJ ?_);split;(.rename_i em;(have ex:xs=[]:=by have h1:=MW JBZ;rw[OA.mp em] at h1;show DB.mp h1.symm);subst ex;have em':Ei [] Bo!=more:=U7 Bo! [] ndo;rw[em'] at q;show ZR (Jjd tm go VR dF ax (hh A!) ?_);split;(·(have zz:TZ.size<=zD!:=by rw[so];have:B5! (0+more.length):=z;show AA Nm! (lz! z));show ZR (wpAny_updateDictKeysTo gd aJ (ZS (q _ ⟨_,_,epd+1,JGu gd JB aJ,exd.mapDictKeys _,JB aJ _,dF,H9!,ndo⟩ P3!)) zz);show JOQ (ax x hx) P3!);.rename_i nz;(have e0:more=[]:=by have:TZ.size=0:=OA.mp (by simpa using nz);show N? so;show DB.mp this);subst e0;show ZS (q _ hd (AC! gf!)));.show ZR (HF go VR (ZR (DO go VR RY!)));rw[VT];simp only[Std.Legacy.Range.size,Nat.sub_zero,Nat.add_sub_cancel,Nat.div_one];show Km? (HK λh' j=>y4!/\rest=YK! j (TZ.size-j)/\j<=TZ.size/\om! (Ei xs (Ir! j))/\WJ!) ⟨Go,0,A!,sK,Bu!,hd,gf! _ _⟩;(.rintro i rest b s' ⟨h',j,rfl,hr,hj,XG,sb⟩;(have lt:Su!:=by show D? Su!;(.show c);.show EL? (VB (G1! c)));(have er:i=j/\rest=YK! (j+1) (TZ.size-(j+1)):=by show FR?;show KY! hr);have⟨rfl,er⟩:=er;have go':Zu! o oo:=q8! sb.2 go;have⟨x,hx⟩:=nX! Bo!;show EV? DO BT! go';rw[gg! dF i,hx];have kx:=JOQ (ax x (ZP hx)) sb;(have zl:B5! (Ei xs (Ir! i)).length:=by have h1:=Nl (Ir! i) xs;show I6? (cI! Ir!<=more.length);lia);show O? EK (T3 (s:=BT!) room kx XG zl λh2 hd2 n6=>?_);have go2:lB! o oo:=q8! n6.2 go';show EV? HF ge! go2;show AL?;show ZS ⟨h2,Aj!,A!,er,lt,U! (Q7 xs Bo! hx) hd2,sb.trans n6⟩);.rintro b s' ⟨h',j,rfl,hr,hj,XG,sb⟩;(have ej:j=TZ.size:=by show D? Su!;(.show FR?;cases hr);.lia);rw[ej,so,BY] at XG;show ZS (q h' XG sb)
 .show ZR (HF go VR (ZR (DO go VR RY!)));rw[VT];simp only[Std.Legacy.Range.size,Nat.sub_zero,Nat.add_sub_cancel,Nat.div_one];show Km? (HK λh' j=>y4!/\rest=YK! j (TZ.size-j)/\j<=TZ.size/\om! (Ei xs (Ir! j))/\WJ!) ⟨Go,0,A!,sK,Bu!,hd,gf! _ _⟩;(.rintro i rest b s' ⟨h',j,rfl,hr,hj,XG,sb⟩;(have lt:Su!:=by show D? Su!;(.show c);.show EL? (VB (G1! c)));(have er:i=j/\rest=YK! (j+1) (TZ.size-(j+1)):=by show FR?;show KY! hr);have⟨rfl,er⟩:=er;have go':Zu! o oo:=q8! sb.2 go;have⟨x,hx⟩:=nX! Bo!;show EV? DO BT! go';rw[gg! dF i,hx];have kx:=JOQ (ax x (ZP hx)) sb;(have zl:B5! (Ei xs (Ir! i)).length:=by have h1:=Nl (Ir! i) xs;show I6? (cI! Ir!<=more.length);lia);show O? EK (T3 (s:=BT!) room kx XG zl λh2 hd2 n6=>?_);have go2:lB! o oo:=q8! n6.2 go';show EV? HF ge! go2;show AL?;show ZS ⟨h2,Aj!,A!,er,lt,U! (Q7 xs Bo! hx) hd2,sb.trans n6⟩);.rintro b s' ⟨h',j,rfl,hr,hj,XG,sb⟩;(have ej:j=TZ.size:=by show D? Su!;(.show FR?;cases hr);.lia);rw[ej,so,BY] at XG;show ZS (q h' XG sb)
open E
def Jh3{prog:Program}{w:World}{K:UF}[DecidableEq K](knd:KeyKind B2! w K):Tame (fn! knd):=λhk q=>by unfold Builtin.Dict.quietEq;show ZR (tz! (IsTupleKey.typeIs hk) F.slot_tuple_eq.lookup (ZS (q _)))
abbrev O6(w:World)(k:Ko!):Ch:=gn! (go! (k.map (Jy0 w)))
abbrev F2(kvs more:BI!):BI!:=more.foldl (λacc kv=>EA! acc kv.1 kv.2) Db
def Jqb{more:BI!}{ms:Lx!}(p:KT H Bo! ms):∀{kvs:BI!} {xs:Lx!},J6!->KT H jw! (Ei xs ms):=by induction p with | nil=>show id | @cons p q _ _ h t ih =>intro kvs xs r;have e:H!=g!:=h.1.symm;have r1:=KT.put r g! h.2.1 h.2.2;change KT H (F2 (ez! g! pi) _) (Ei (jv! H! Tk BF!) _);rw[e];show ih r1
def Jtl{kvs:BI!}{xs:Lx!}(p:J6!):(D5! λx=>(tupleKind (Bp P w)).hash Ag!)=Fu! qD!:=py! yz (Ds! W!)
def U6:∀(more kvs:BI!),(F2 kvs more).length<=um!
 | [],_=>Ao!
 | q::r,kvs=>JO7 F2 (ez! H! PP) r (U6 r _) (Gr Db H! PP) F2 (ez! H! PP) r (kvs.length+(r.length+1))
open S
variable {X:Cx Kx}{AB:List (Addr×Obj)}{σ:L2.St}{H:Hp}{s:Shared}{A:Around}{E:Value->Shared->Prop}
def Jbs{id:String}{d o:Addr}{kvs more:BI!}{Q:E9! PySem.Fin}(hu:f9!)(I:I!)(ed:nr!)(eo:nl! o Bo!)(ne:d≠o)(z:B5! um!)(hh:kvs=[]->nV! (λq=>O6 X.w H!))(q:∀s',JBf d jw! s'->Q (.done (.ret IR)) s'):Zg! (Builtin.Dict.updateFrom id d (IN o) [] IR):=by
 have⟨zd,ld,xs,rd,dd⟩:=ml Au! ed;have⟨zo,lo,ms,ro,dO⟩:=Pd Au! eo;show Di? rd;show G5? ro;unfold Builtin.Dict.updateFrom;show Ag? gB! dO.typeIs;show Da?;show ZR ?_;unfold Builtin.Dict.merge Builtin.Dict.readDirectly;show O? ZR (PJ dO.typeIs isSubtype_dict_dict ?_);simp only[Bool.not_true,DN,FZ];show ZR (tz! dO.typeIs F.slot_dict_iter.lookup dL!);simp only[NV,HW];show O? ZS (Jix (Jh3 _) hu ne lo dd dO i! (Um!) λh' cH sb=>?_);.rw[Jtl ro];show hh ?_;rw[e] at l1;show DB.mp l1
 .have⟨ob,es,ep,g,h2,h3,h4,_,h5⟩:=cH;(have I':JBf d jw! BT!:=by show Ph (t':=C7!) I (KE ed Xi!) sb ⟨ob,g⟩ ⟨?_,ld,_,(Jqb ro rd).keeps y2!,ob,es,ep,g,h2,h3,h4,h5⟩;(.have:=U6 Bo! Db;show AA Dr! Dr!);.rw[Ad (JNv ed)];show ec);show Hm? (Builtin.Dict.addKeywords d []);show ZR (ZS (ZS (q _ I')))
open E
open S
variable {X:Cx Kx}
inductive Jyj(w:World)(x:V)(vs:C!)(H:Hp)(Q:VK):B!
 | mk (d o:Addr) (kvs more:BI!) (_:x=JO!) (_:vs=[h! o]) (_:nr!) (_:nl! o Bo!) (_:d≠o) (_:B5! um!) (_:(kvs=[]->nV! qD!)) (_:Q Av! (jM! d jw!))
def Jtb(hu:Jy!):jB X "dict.update" (Jyj X.w):=by show Ab?;have⟨d,o,kvs,more,rfl,rfl,ed,eo,ne,z,hh,q⟩:=h;show H?;show Bm?;cases ru;have⟨_,_,xs,rd,dd⟩:=ml Au! ed;show DA PySem.F.slot_dict_update Fv! PySem.F.entry_dict_update ?_ (AC! PySem.F.args_dict_update_2);unfold Builtin.«dict.update» Builtin.Dict.selfAndRest;show IL? Fv!;show Jbs (id:="dict.update") (Ta! (X.A.in1.units<cLine) (HI (knd:=Bp Bm! X.w) hu)) I ed eo ne z hh λs' I'=>⟨_,A!,Av!,_,I',A!,q⟩
inductive Jhx(w:World)(xs:C!)(H:Hp)(Q:VK):B!
 | mk (o:Addr) (more:BI!) (_:xs=[h! o]) (_:PM! o wv Bo!) (_:nV! qD!) (_:Qe! (jM! p (F2 [] Bo!)))
def Jjl(hu:dP!):IE X (BR! DZ!) (Jhx X.w):=by
 show X?;have⟨o,more,rfl,eo,hh,q⟩:=h;show Aw?;show H?;show callType_codes (Q₁:=λobj EZ=>obj=K5!/\EZ=KJ! (IS! (hX! DZ! .dict (#[])))) F.kt_called_dict (F.kt_typeCall_dict_1 _) F.entry_dict_init (kt_code_dict_new _ Bj!) ?_;rintro obj EZ ⟨rfl,rfl⟩;show Ci?;have I1:=JNl wv (Od! (ZT _ z)) Jhn;show FN? Uf Uf wv;have⟨_,_,xs,rd,dd⟩:=ml I1.EI e1;show S? Fv! (F.args_dict_init_2 _ _);unfold Builtin.«dict.__init__» Builtin.Dict.selfAndRest;show IL? Fv!;have ne:s.heap.objs.size≠o:=λz=>by rw[<-z,hn] at eo;cases eo
 have eo1:vn! Uf wv [] o wv Bo!:=Op ne.symm eo
 have⟨zo,_⟩:=ml Au! eo;have oM:X.A.in1.in1.units<cLine:=by (have h1:X.A.in1.in1.units=X.A.units+1+1:=by first|rfl|simp[units_in1]);lia
 show Jbs (id:="dict.__init__") oM I1 e1 (Am! eo1) ne (KE BR (IT zo _)) (λ_=>hh) λs' I'=>⟨A!,K5!,_,by rw[Ja] at I';show I',A!,q _ hn⟩
open E
abbrev hN(a b:Nat):Ch:=gn! (go! [pE! a,pE! b])
def Jl{as:Q!}{bs:C1!}(p:rF!){a:α}{b:β}(r:R a b):XO! R (as++[a]) (bs++[b]):=uL p (LJ! r)
def Rh{α:UF}(b:VZ!){ts:Q!}{i:Nat}{t:α}(h:ob!):(HH! AB!).filter b=d8! b++H4! (y! (b t)) [t] []:=by rw[gm!,h,LV];cases e:b t<;>simp[e]
def Jv(b:VZ!)(ts:Q!)(i:Nat):Ak! d8! b<=ts.length:=Qy!
inductive L_(p:Addr)(b:T2->A3!)(ts:G!)(H:Hp)(i:Nat)(ys:C!)(H2:Hp):B!
 | mk (bs:Z!) (_:ys=JP! En!) (_:FJ!) (_:Hi!) (_:BS H2 bs (d8! b))
open S
variable {p:Addr}{b:T2->Bool}{ts:List T2}{H:Hp}{tt:TT}{caps:List (Str×Nat)}{σ:L2.St}{Q:Hp->Prop}
def L_.start(hp:Kv!):L_ p b ts H 0 [] (hk! []):=⟨[],A!,Ai hp,Ab,R!⟩
def yY(hp:Kv!)(hz:ke!)(ht:JKa){i:Nat}{ys:C!}{H2:Hp}{a:Addr}{t:T2}{N:JH!}(pv:JOF)(hi:ob!)(ha:JT0)(n:∀ys H',L_ p b ts H AB! ys H'->N ys H') : JT9 (λc H4=>B3! (c=true) (Bt 0 (Z2! K6!) H4 (JRj wK!)) (N ys H4)):=by
 have⟨bs,ey,sm,JG,th⟩:=pv;have e1:=Rh b hi;have ln:ys.length<=ts.length:=by rw[ey,ZA,AD! th];show Jv b ts i
 show ht H2 a t _ sm ha (ZP hi) ?_;cases c:b t with | false =>rw[c] at e1;show Da?;show n ys H2 ⟨bs,ey,sm,JG,by rw[e1];simpa using th⟩ | true =>rw[c,BG!] at e1;rw[AE A!];(have s2:EP! (TT! H2 (pH! a)):=λd o e=>vz! hp (sm d o e));(have kt:DH H2 (TT! H2 (pH! a)):=FN! JG);show⟨_,A!,JG,Za! Bz (AA ln hz),L! n ⟨bs++[a],jP! ey,s2,Ab,?_⟩⟩;rw[e1];show Jl (KZ! kt th) (NE kt.BE ha)
def Mi{K:W.Frag}{l:Addr}{as:Z!}(hp:Kv!)(hz:ke!)(hl:BE! l GU!)(th:IM!)(ht:JKa)(k:JQ3 O5!) : Ff! (FV! (FP! (VZ K l).stop Dv! (VZ K l).go (VZ K l).RU (JEA H3 JOL DW!))):=by
 show G6?;show Es (K:=K) (a:=l) (p:=p) (xs:=c9!) (be:=be) (K1! JOF) (L_.start hp) (λi ys H2 _ pv=>?_) (λi x ys H2 N hx pv n=>?_) λys H2 pv=>?_;.have⟨bs,_,sm,JG,_⟩:=pv;show⟨Ms! sm hl,JG⟩
 .show AU?;cases ea:XJ! with | none=>show Hs? | some a =>rw[ea] at hx;show IA?;subst hx;have⟨t,et⟩:=ZX! ts JNc;show J6? et;have⟨bs,e0,sm,JG,XO⟩:=id pv;show yY hp hz ht pv et (NE sm ha) n
 .have⟨bs,ey,sm,JG,XO⟩:=pv;rw[ZA,lt,BY] at XO;show JRQ
def Qh{α:UF}{d:Addr}{l:Q!}{key:C4!}{val:IH!}{ob:Obj}(hp:Kv!)(hz:l.length<=900)(hd:JEE (wv (db rR!)))(ht:∀(H2:Hp) (a:Addr) (t:T2) (Q':Jf!),FJ!->JT0->t∈db FM->Q' (b t) H2->JT9 Q')(k:JQ3 (l.map FM).filter) : Ff! (FV! (FP! (gu d (db rR!) ob).stop Dv! (gu d (db rR!) ob).go (gu d (db rR!) ob).RU (JEA H3 JOL DW!))):=by
 have bL:Ee! db FM 900:=CY! hz
 show S? (λi m ys H2=>m=l.length-i/\i<=l.length/\L_ p b (PZ! FM) H i ys H2) ⟨l.length,sK,Bu!,L_.start hp⟩;show Bo?;have⟨bs,ey,sm,JG,XO⟩:=id pv;have hd2:=U9! hd;show f? JG;by_cases IP:un!;.show GV? ⟨hd2,CY! IP⟩;have⟨e,a,kk,v,ex,ek,ha⟩:=y;subst e ex;rw[ZH] at ek;have⟨q,hq⟩:=A4 IP;rw[hq] at ek;have ek:(tk (FM q),val q)=(kk,v):=ZO ek;have e1:kk=tk (FM q):=y5! ek;rw[e1,y_] at ha;show yY (N:=λzs H'=>∃m',m'<l.length-i/\(m'=l.length-AB!/\Aj!<=l.length/\L_ p b (PZ! FM) H AB! zs H')) hp bL ht pv (Lo! hq) ha ix!
 .have e:i=l.length:=DS hi (G1! IP);subst e;show EA? ⟨hd2,CY! Ao!⟩;(have e2:(l.map FM).take l.length=db FM:=QV! (ZA (f:=FM)) BY);rw[e2] at XO;show JRQ
open E
abbrev OO(nx:JGU):No->G!->AP! G! G!
 | 0,ahead,found,R=>ahead=[]/\R=found
 | n+1,ahead,found,R=>HK λa t=>ahead=bg!/\((t∈found/\OO nx n a E0! R)\/(t∉found/\OO nx n (a++nx t) (JJ!) R))
def OO.len:kf! (ep!->ahead.length<=n)
 | 0,_,_,_,h=>lQ! Ao!
 | n+1,_,_,_,⟨a,t,e,h⟩=>by rw[e,ZE];rcases h with⟨_,h⟩|⟨_,h⟩;(.have:=h.len;change kg!<=n+1;show EV Dr!);.have:=h.len;show N? ZE;change kg!<=n+1;lia
def OO.sub:kf! (ep!->(∀t∈found,Dh!)/\YL! Dh!)
 | 0,_,_,_,h=>by rw[v6,h.2];show⟨λ_ z=>z,λ_ z=>hv!⟩
 | n+1,_,_,_,⟨a,t,e,h⟩=>by rw[e];show G7?;(.show⟨h.sub.1,Nb!⟩;show A4?;(.show h.sub.2 u hu);·(have:u=t:=by simpa using hu);rw[this];show h.sub.1 t ht);.show⟨Us! h.sub.1 mU!,Nb!⟩;show A4?;(.show h.sub.2 u mU!);.show h.sub.1 u (FH! hu)
def OO.closed:kf! (ep!->(∀t∈found,kc! (u∈found\/u∈ahead))->∀t∈R,kc! (u∈R))
 | 0,_,_,_,h,c=>by rw[h.2];rw[v6] at c;show λt ht u hu=>(c t ht u hu).elim id λz=>hv!
 | n+1,_,found,_,⟨a,t,e,h⟩,c=>by rw[e] at c;show G7?;(.show h.closed λs hs u hu=>?_;show d? (c s hs u hu);(.show E? z);.show d? (ZI z);(.show L? z);·(have:u=t:=by simpa using z);rw[this];show E? ht);.show h.closed λs hs u hu=>?_;rcases ZI hs with hs|hs;(.show d? (c s hs u hu);(.show E? (DK! z));.show d? (ZI z);(.show L? (DK! z));.show E? (FH! z));·(have:s=t:=by simpa using hs);rw[this] at hu;show L? (FH! hu)
def OO.least{nx:JGU}{S:AQ!}(cl:∀t,S t->kc! (S u)):kf! (ep!->(∀t∈found,S t)->(YL! (S t))->∀t∈R,S t)
 | 0,_,_,_,h,f,_=>U! h.2 f
 | n+1,_,_,_,⟨a,t,e,h⟩,f,g=>by rw[e] at g;have gt:=g t (FH! KB);show G7?;(.show h.least cl f (Us! g mU!));.show h.least cl (Nb!) Nb!;(.show A4?;(.show f u hu);·(have:u=t:=by simpa using hu);rw[this];show gt);.show A4?;(.show g u mU!);.show cl t gt u hu
def Na:∀{l:Q!},l≠[]->HK λa t=>l=bg!
 | [],h=>Wv!
 | [x],_=>CB! [] x
 | x::y::l,_=>by have⟨a,t,e⟩:=Na (l:=y::l) KB;show⟨x::a,t,cG!⟩
def OO.ex{nx:JGU}{keys:G!}{B:Nat}(sub:∀t,kc! (u∈keys))(sz:∀t,Ak! nx t<=B):∀(m:Nat)(ahead found:G!),(YL! (t∈keys))->Ak! uo! (hb! (t∉found))*(B+1)+ahead.length<=m->HK λn R=>n<=m/\ep!
 | m,ahead,found,ha,hm=>by by_cases e:ahead=[];(.show⟨0,E0!,Bu!,e,A!⟩);have⟨a,t,ea⟩:=Na e;(have l1:ahead.length=kg!:=GH! ea ZE);have oZ:∀u∈a,u∈keys:=Us! ha (KE ea (Cs! hu));have ht:t∈keys:=ha t (KE ea mL!);match m,hm with | 0,hm=>show I? hm i! | m+1,hm =>by_cases hf:t∈found;(.have⟨n,R,h1,h2⟩:=OO.ex sub sz m a E0! oZ (uQ! (l1▸hm));show⟨n+1,R,Vw! EV,a,t,ea,Ks! hf h2⟩);·(have lt:JIU<JTz (u∉found):=by (have e1:(uo! (Tt! (u∉JJ!)))=(uo! (Tt! (u∉found))).filter (Tt! (u≠t)):=by rw[List.filter_filter];show FU λu _=>?_;by_cases c1:u∈found<;>by_cases c2:u=t<;>simp[c1,c2]);rw[e1];show List.length_filter_lt_length_iff_exists.mpr ⟨t,N1! ht (by simpa using hf),sK⟩);have l2:=sz t;(have key:JIU*(B+1)+FQ! (a++nx t)<=m:=by rw[ZE];have:(JIU+1)*(B+1)<=JTz (u∉found)*(B+1):=EJ _ lt;show w? Nat.add_mul Nat.one_mul;lia);have⟨n,R,h1,h2⟩:=OO.ex sub sz m (a++nx t) Pw! (G7! ((ZI hu).elim (oZ u) (sub t u))) FM;show⟨n+1,R,Vw! EV,a,t,ea,GM! hf h2⟩
abbrev QF(hl:HL)(t:T2):G!:=(EM hl t).filter JES
abbrev Mx(G:CN):G!:=oN! JC0
abbrev startT(G:CN):G!:=(JLE).filter (hb! JCI)
abbrev keepR(G:CN)(R:G!):CN:={ G with AJ:=JCq Zl!,holds:=JCr Zl! }
abbrev DK(G:CN)(t:T2):A3!:=Aa! Ip! || Pj! up! aH!
abbrev HZ(G:CN):CN:=YM! (F0! λq=>iQ!)
open S
def Vt(s:hl.Sublist re):(BX { G with holds:=hl }).Sublist (BX G):=by unfold BX;show((((s.map _).cons₂ _).cons₂ _).cons₂ _).cons₂ _
def BD.di(x:bi){hl:HL}(s:hl.Sublist re):Hk! (PO! na Fc hl) { G with holds:=hl }:=by show Bn?;show Ck? na;show AR?;show IS? a2 b1 Ab c1.symm (AN! (Op (d1 q (s.subset hq)).2.2.1 (x.hl q (s.subset hq)))) (x.nd.sublist (Vt s))
open E
def Jqp{d:Addr}{kvs:BI!}{ob:Obj}{g:TG}{tb:TS}{D:Ends}{σ:L2.St}{H:Hp}(Pv:JCX)(h0:Vl!)(hf:wl! gq! (Ky! (as! wv Db)))(hs:∀i a k v σ H,JGo->GR! wQ!->Pv i σ H->x1! Bf!)(hd:xu! MB!) : em! UQ! (bH! (XF! (gu d Db ob).stop (gu d Db ob).go UQ! (gu d Db ob).RU)):=by
 show Cg? (kvs.length-i) gq! MB!;rintro i m σ H ⟨rfl,hi,pv⟩;have fz:=hf i σ H hi pv;by_cases IP:gP!;.show Co? ⟨fz,IP⟩ (kvs.length-AB!);have⟨e,a,k,v,ex,ek,ha⟩:=y;subst e ex;show hs i a k v σ _ ek ha pv
 show GT? (i=kvs.length) ⟨fz,Ao!⟩ (cS! pv)
abbrev Fb(l m:G!):G!:=m.foldl B0 l
def U9:∀{m l:G!} {t:T2},t∈Fb l m↔HC!\/t∈m
 | [],l,t=>by simp[Fb]
 | u::m,l,t=>by change t∈Fb Ww! m↔_;rw[U9,EF,BU,or_assoc]
def Yt:zS! (Ja! Fb l m (l.length+m.length))
 | [],l=>Ao!
 | u::m,l=>JO7 Fb Ww! m (Yt m Ww!) (Mf l u) Fb Ww! m (l.length+(m.length+1))
def Ys:zS! ((l++m).Nodup->Fb l m=l++m)
 | [],l,_=>Ec! AM l
 | u::m,l,nd=>by (have nu:u∉l:=λz=>by rw[AS] at nd;show nd.2.2 u z u (CT!) A!);(have e2:l++[u]++m=l++u::m:=mX!);change Fb Ww! m=_;(have e3:B0 l u=l++[u]:=by unfold B0;rw[AD nu]);rw[e3,Ys m _ (lf! e2),e2]
def Ky:zS! (F2 (db DV!) (m.map DV!)=(Fb l m).map DV!)
 | [],l=>rfl
 | u::m,l=>by change F2 (EA! (PZ! DV!) (tk u) JG3) (m.map DV!)=_;rw[Fj];show Ky m Ww!
def Q9{α:UF}{l:Q!}{k:C4!}{f:IH!}{t:T2}:Fd! ((If! (AG! (k q=t))).map f).isSome zL!:=Qy!
def Vh{H:Hp}{d a:Addr}{α:UF}{l:Q!}{k:C4!}{f:IH!}{t:T2}(hd:Rd H d (wv (db a7!)))(ha:JD1):∃o,GJ H d Bf! o/\o.isSome=Aa! zL! :=BM! (JQS (tk t) hd A!) (U! D9 Q9)
def Jkp(a:Q!)(t:α):(bg!)[FQ! bg!-1]?=D! t:=ah! ZE
def Je1(th:BS H as (bg!)):HK λ(bs:List Addr)(c:Addr)=>as=bs++[c]/\BS H bs a/\hY! c t:=by
 show CL? th;have ne:as≠[]:=λz=>by rw[z] at hl;simp at hl
 have⟨bs,c,e⟩:=Na ne;subst e;have l2:bs.length=a.length:=by rw[ZE,ZE] at hl;simpa using hl
 show⟨bs,c,A!,?_,?_⟩;·(have go:∀{xs:Z!} {ys:G!} {x:Addr} {y:T2},xs.length=ys.length->BS H (xs++[x]) (ys++[y])->BS H xs ys:=by intro xs;induction xs with | nil=>intro ys x y h _;(cases ys with | nil=>show R! | cons _ _=>simp at h) | cons x0 xs ih=>intro ys x y h q;cases ys with | nil=>simp at h | cons y0 ys =>cases q with | cons h1 q=>show SC h1 (ih U1! q));show go l2 th
 .show A6 th bs.length c t KB (Vp! l2)
def R7{as:Z!}{ts:G!}{bs:Z!}{us:G!}(p:IM!)(q:BS H bs us):BS H (as++bs) (ts++us):=uL p q
def K0{α:UF}(k:C4!)(l:Q!){ts:G!}{i:Nat}{t:T2}(h:ob!):JUf (HH! (Aj!))=(l.filter λq=>decide (k q∉Vq!)).filter (AG! bi!):=by rw[List.filter_filter,gm!,h];show FU λq _=>?_;by_cases c1:k q∈Vq!<;>by_cases c2:k q=t<;>simp[c1,c2]
def Er(k:C4!)(l:Q!)(f:T2->A3!):(DC! λq=>f (k q)).map k=(l.map k).filter f:=JCy
def Pq{α:UF}{l:Q!}{k:C4!}{f:IH!}{t:T2}(h:zL!):∃v,JJ0=D! v:=by rw[D9];have:=Q9 (l:=l) (k:=k) (f:=f) (t:=t);show N? (AR h);show LN.mp this
abbrev Av(G:CN)(ts:G!):CN:={ G with AJ:=JCq Jm!,holds:=JCr Jm! }
def Jje(G:CN):Av G []=G:=by
 have a1:JCq (K8! xN!)=G.AJ:=JHm
 have a2:JCr (K8! xN!)=G.holds:=JHm
 unfold Av;rw[a1,a2]
def IZ{α:UF}{k:C4!}{l:Q!}(nd:w7! k){q:α}(hq:q∈l):k9! If! (k r=k q)=D! q:=by cases e:If! (To! (k r=k q)) with | none=>show E0?;show BC? | some r =>(have h1:k r=k q:=dM!);rw[Gi nd (BI e) hq h1]
abbrev C6(hand:G!)(qs:HL):G!:=qs.foldl (λl q=>Fb l BF!) Is!
def MX:∀{qs:HL} {hand:G!} {t:T2},t∈C6 Is! qs↔t∈hand\/∃q∈qs,aH!
 | [],hand,t=>by simp[C6]
 | q::qs,hand,t=>by change t∈C6 (Fb Is! BF!) qs↔_;rw[MX,U9,or_assoc];simp
def Re:∀{qs:HL} {hand:G!},(∀q∈qs,q.2.2.length<=B)->Ja! C6 Is! qs (hand.length+qs.length*B)
 | [],hand,_=>by simp[C6]
 | q::qs,hand,h=>by have h1:Ja! C6 (Fb Is! BF!) qs _:=Re (Ex! (h r (AH! hr)));have h2:=Yt BF! Is!;have h3:=Go! q;change Ja! C6 (Fb Is! BF!) qs (hand.length+(qs.length+1)*B);rw[Nat.add_mul,Nat.one_mul];lia
def Jeg(hand:G!){qs:HL}{i:Nat}{q:JSK}(h:qs[i]?=D! q):C6 Is! (qs.take AB!)=Fb (C6 Is! (qs.take i)) BF!:=by unfold C6;rw[gm!,h,QW];rfl
def Jm0(G:CN)(t:T2):(XL! (r9!))=DK G t:=by
 unfold DK;by_cases h:r9!;.rw[AR h];rcases MX.mp h with h|⟨q,hq,h⟩;(.simp[h]);.show Ez? up! (PX! h7!);rw[this];simp
 .rw[AL h];have h1:t∉G.hand:=λz=>h (MX.mpr (Am! z));(have h2:wT (Tu! up! aH!):=by rw[List.any_eq_false];intro q hq z;show h (MX.mpr (Bc! (PX! z8!))));simp[h1,h2]
def Jei{α:UF}{b:VZ!}{ts:Q!}{i:Nat}{t:α}(h:ob!):(HH! AB!).filter b=d8! b++H4! (y! (b t)) [t] []:=Rh b h
def Qb(b:VZ!)(ts:Q!)(i:Nat):Ak! d8! b<=ts.length:=Jv b ts i
def Q4:∀{l:Q!} {i:Nat} {t:α},l.Nodup->l[i]?=D! t->t∉l.take i
 | [],_,_,_,h=>C0!
 | x::l,0,t,_,_=>sK
 | x::l,i+1,t,nd,h=>by show Dh?;show AZ? (l[i]?=D! t);rw[uq!];intro z;show d? (ZM z);(.show ZY! nd.1 (ZP h));.show Q4 nd.2 h z
abbrev LJ(H:Hp):lV! Y!:=Qg! (λa q=>∃c,ch! [h! c,T! PP]/\hY! c H!)
def LJ.keep(k:BB!)(x:LJ H as bs):LJ H' as bs:=Ax (Sv! (by have⟨c,e1,e2⟩:=h9;show⟨c,JDI,c0!⟩)) x
def Jkq{H:Hp}{val:T2->V}:∀{l:G!} {as:Z!},uE H (PZ! (λq=>(tk q,val q))) as->BS H as l
 | [],as,h=>by cases h;show R!
 | t::l,as,h=>by cases h with | cons h1 h2=>show SC (A0! y_ h1) (Jkq h2)
def Jbz{α:UF}(k:C4!){l:Q!}{ks R:G!}(h:X6! (k q∈ks)):JUf JKh=DC! (AG! (k q∈R)):=FU (AN! (by show D? (k q∈R);(·(have:k q∉JKh:=λz=>by show B5? z;simp[c] at this);simp[c]);.have:k q∈JKh:=N1! (FT! h) k7!;simp[c,FT! h]))
def Jel{G:CN}{R:G!}(ke:JJP):Av G (oN! xK!)=di!:=by
 have h1:=Jbz (DM!) (l:=BL!) (ks:=Mo!) (R:=R) (AN! (BL hq));have h2:=Jbz (Pk!) (l:=re) (ks:=Mo!) (R:=R) (AN! (A0! ke (BL hq)))
 unfold Av keepR;rw[h1,h2]
def Qa1(ts:G!)(h:b∈BX DI!):Qk!:=by have:(BX DI!).Sublist (BX G):=Vt (G:=gk! (Av G ts).AJ) IU;show this.subset h
open S
def Jo3(h:kh!)(v:Int):Bg l t v=JK5:=by unfold Bg;rw[AD h]
def E9(h:kh!):Lc!=0:=by unfold Aj;rw[Sl! JNY];rfl
open E
def Jll(h:(BX G).Nodup):H3! Fw! Ic!:=by unfold BX at h;simp only[BB] at h;show h.2.2.2.2
open S
variable {p:Addr}{H H':Hp}{G:CN}
open E
def Jg6(l:HL):EY! db (LW l).map:=mx! AX
def Vl(l:HL)(R:G!):LW (DC! ll!)=(LW l).filter ll!:=mx! LR
open S
variable {G M:CN}{n:Nat}{R:List T2}
def KQ.keys(x:Lz!):EY! M.holds.map Fw!:=Cy! Jg6 Jg6 kd!
def KQ.nx(x:Lz!):QF Im!=QF re:=by funext t;unfold QF;rw[Fr! (EM Im! t=JFL) (HG.EM x t),x.keys]
def KQ.start(x:Lz!):Sw! M=Sw! G:=by unfold startT Mx;rw[show uj! from x.hand,zU!,x.keys]
def KQ.keepR(x:Lz!)(R:G!):KQ (FX.keepR M R) JCW:=by
 show Jl? ?_ Dg! ?_;.change M.AJ.filter _=MQ! _;rw[zU!]
 .change LW (M.holds.filter ll!)=LW (Tu! gp! Zl!);rw[Vl,Vl,kd!]
def Jbq(G:CN)(t:T2):DK G t=(Aa! Ip! || Pj! (LW re).any (t∈PP)):=by unfold DK LW;rw[List.any_map];rfl
def KQ.DK(x:Lz!)(t:T2):FX.DK M t=FX.DK G t:=by rw[Jbq,Jbq,show uj! from x.hand,kd!]
def KQ.HZ(x:Lz!):KQ (FX.HZ M) (FX.HZ G):=by show Jl? DD! ?_ YJ!;change M.AK.filter (λq=>FX.DK M H!)=F0! (λq=>FX.DK G H!);rw[show M.AK=G.AK from x.AK];show FU λq _=>x.DK H!
def Jwj(ok:AR!){q:JSK}(hq:ui!){t:T2}(ht:aH!)(e:JCI):t∈QF re H!:=by
 have nd:mG!:=JLa
 have f:=IZ (k:=Pk!) nd hq;have:EM re H!=BF!:=by unfold EM;rw[f];rfl
 unfold QF;rw[this];show AG.mpr ⟨ht,bv!⟩
def Ok.keepR(ok:AR!)(st:∀t∈Sw! G,Dh!)(cl:∀t∈R,∀u∈QF re t,u∈R):Ok JCW n:=by
 have mem:∀t,Hw!->Dh!->FC! JHP:=λt h1 h2=>U! (JNj Dh!) (N1! h1 z5!)
 have sub:∀t,FC! JHP->Hw!:=λt h=>UI! h;show⟨ok.hn,ok.hz,JCg ok.on.sublist,dA! ok.oz,?_,ok.rn,ok.rz,eI! O6!,Ay! (YN! t (sub t ht)),Qr!,λq hq t ht e=>?_,ok.rk⟩;.show Ij? Zl! JHP;rw[Er (Pk!) re (jI! Dh!),JNj Dh!,Ka!]
 .have h1:=JIG;show mem t h1 (st t ?_);unfold startT;show AG.mpr ⟨Cs! ht,by rw[Ka!];simpa using h1⟩
 .have⟨YU,VU⟩:=L6! hq;have h1:=ok.lk q YU t ht e;show mem t h1 (cl H! (by simpa using VU) t (Jwj ok YU ht (KE Ka! h1)))
def Ok.HZ(ok:AR!):Ok (FX.HZ G) n :=⟨ok.hn,ok.hz,ok.on,ok.oz,Ka!,JCg ok.rn.sublist,dA! ok.rz,O6!,YN!,ok.hk,ok.lk,Ay! (ok.rk t (UI! ht))⟩
def Jlw(G:CN):∀t∈Sw! G,JCI:=zW!
def Jpz(hl:HL)(t:T2):∀u∈QF hl t,u∈ci HI!:=G7! (JTb hu)
open E
open S
open E
open S
open E
def Tv(h:n<=100000):gG!:=nR!
abbrev lF:At->A3!
 | []=>true
 | [_]=>true
 | x::y::l=>JAL&&lF (y::l)
def Jnr:∀{l:At} {x:Int},y! (lF (x::l))->∀y∈l,x<y
 | [],_,_,y,hy=>by simp at hy
 | z::l,x,h,y,hy=>by unfold lF at h;rw[HD] at h;have h1:=BV v6;rcases ZM hy with rfl|hy;(.show h1);.show Int.lt_trans h1 (Jnr h.2 y hy)
def Jnq:∀{l:At},y! (lF l)->l.Nodup
 | [],_=>EG
 | [x],_=>sK
 | x::y::l,h=>by have h':=h;unfold lF at h';rw[HD] at h';show MH! ⟨λm=>uk! _ (Jnr h x m),Jnq h'.2⟩
abbrev jK:EN! (Nat×Nat):=(At! 12).flatMap λn=>cg! 60 (λj=>(n,j))
abbrev dZ:At:=jK.map λp=>hN g! pi
abbrev uK(x:Int):At->At
 | []=>[x]
 | y::l=>B3! (x<y) (x::y::l) (y::uK x l)
def Jbm(x:Int):∀l:At,(uK x l).Perm (x::l)
 | []=>.refl _
 | y::l=>by unfold uK;split;(.show .refl _);.show JPY (Jbm x l).cons l
abbrev uP:At->At
 | []=>[]
 | x::l=>uK x (uP l)
def Jay:∀l:At,(uP l).Perm l
 | []=>.refl _
 | x::l=>(Jbm x (uP l)).trans ((Jay l).cons x)
def Jsp:y! (lF (uP dZ)):=ZV
def Jsq:dZ.Nodup:=(Jay dZ).nodup_iff.mp (Jnq Jsp)
abbrev ZQ(t:T2):B!:=0<=lc/\lc<12/\0<=AX!/\AX!<60
def Jm1(ht:ZQ t)(hu:ZQ u)(e:sJ! t=sJ! u):t=u:=by
 have gO:∀v:T2,0<=v.1->0<=v.2->sJ! v=hN kI! kJ!:=λv h1 h2=>by change gn! (go! [hashInt v.1,hashInt v.2])=gn! (go! [pE! kI!,pE! kJ!]);rw[BO h1,BO h2]
 have⟨a0,a1,a2,a3⟩:=ht;have⟨b0,b1,b2,b3⟩:=hu;rw[gO t a0 a2,gO u b0 b2] at e;have m:∀v:T2,0<=v.1->v.1<12->0<=v.2->v.2<60->(kI!,kJ!)∈jK:=λv h0 h1 h2 h3 =>Sx! ⟨kI!,mp!,ih! kJ! mp!⟩;have:=Gi (f:=λp:Nat×Nat=>hN g! pi) Jsq (m t a0 a1 a2 a3) (m u b0 b1 b2 b3) e;have e1:=Ui! Prod.fst this;have e2:=Ui! Prod.snd this;simp only at e1 e2;show On! i! i!
def Jhe:∀{ts:G!},ts.Nodup->(YO! (ZQ t))->H3! KV! (λt=>sJ! t)
 | [],_,_=>EG
 | t::ts,nd,hr=>by show Dh?;show MH! ⟨Qn!,Jhe nd.2 (Us! hr (AH! hu))⟩;have⟨u,hu,e⟩:=Gg!;show nd.1 ((Jm1 (hr t Hp!) (hr u (AH! hu)) Bn!)▸hu)
def Vm{w:World}{l:G!}(nd:l.Nodup)(hr:∀t∈l,ZQ t):((db DV!).map qD!).Nodup:=U! AX (Jhe nd hr)
abbrev Jrl(o:Obj):B!:=bX!/\tf!/\HK λxs k=>o.data=.seq xs k
open S
inductive R4(K:W.Frag)(xs:C!)(H:Hp)(Q:VK):B!
 | mk p ys (_:nK!) (_:JH3) (_:∀l o,P5!->Jrl o->cO! l l (.IQ o (FB ys)))
def Yo{X:E!}:IE X (BR! Er!) (R4 Kx):=by show X?;have⟨p,ys,rfl,hq,q⟩:=h;show Aw?;show H?;show Gt?;show C3?;show call_tuple_list KI! (λh' kp=>?_) (by simp only[BG]<;>show hlen▸hz);show JB? kp;have I2:wn! gD! (.IQ (JGC CH!) (FB ys)) (kK! h'.push CH!) :=rs! C7! NG! (Om! (EX Bm! X.w _ _ _ (.IQ _ (FB ys))) ⟨Cu!,hz,As!,r',l8!⟩);show⟨h! gD!,_,I2,A!,FS q xY! (JQP A!)⟩
open E
open S
open E
open S
open E
open S
variable {X:Cx Kx}
open E
def Jra{z:Str}{p:Addr}{tt:TT}{te:TE}{caps:Cb!}{σ:L2.St}{H:Hp}{Q:Gi!}(Pv:No!)(h0:OL!)(hl:∀i ys H2,i<=z.length->vr!->Hi!)(hs:∀i c ys H2 (N:JH!),w1! (gI!=D! c) (JPK (Z2! (li! (one c))) (Z2! (li! (one c)))))(hd:JSX MG!) : Ff! (FV! (FP! (m8 z).stop Dv! (m8 z).go (m8 z).RU (UJ! H3 M6! DW!))):=by
 show DR? (z.length-i) (i<=z.length) MG!;show Bo?;show f? jH!;by_cases IP:i<z.length;.show GV? IP;have⟨e,c,hc,ex⟩:=y;subst e ex;show hs i c ys _ (wh! (z.length-i) (z.length-AB!) (Aj!<=z.length)) hc pv ix!
 show He? (i=z.length) wg!
def Jto(c:Nat):(JPh (E7! gr!) (one c) (Str.length gr!))=F5 c:=by rw[StrLaws.found_one,OR];rw[decide_eq_true_iff];have e:(gr!:Str).cps.toList=[48,49,50,51,52,53,54,55,56,57]:=rfl;rw[e,show [48,49,50,51,52,53,54,55,56,57]=YK! 48 10 from rfl,List.mem_range'_1];simp only[F5,HD,decide_eq_true_eq];lia
def JBS{a b:Str}{cl:CF!}{y:Str}(h:Qf! ([NN!,NO!]:GV!).lookup ([NN!,NO!]:GV!).lookup):Lv!:=by
 simp only[IA,List.lookup_nil] at h;split at h;.simp at h
 .split at h<;>simp at h
abbrev uG(P:Program)(w:World)(K:W.Frag)(a:Addr)(kvs:Bz!):B!:=US!/\∃vs,FU!/\∀h:Eo!,b2!->h.DictOf Zq! a vs
open S
variable {X:Cx Kx}{x:Str}{a:Addr}{kvs:List (Key×V)}{e:Expr}{ty:TE}{p apos IX:Pos}
abbrev Jvh(kvs:Bz!)(ty:TE):TE:=JCx (λy H2=>∃k,y=kV k/\Q ((Ce kvs k).getD Av!) H2)
def Jpg{X:E!}(hu:Jy!)(hg:Gs!)(hm:VJ! Bf!)(D:uG Bm! X.w Kx a Db)(he:dS!)(m:M1 X i5! "get" apos e IX)(hd:D1!:=by decide):CS! (.Call (SY! i5! "get" apos) [e] [] IX) (Jvh Db ty):=by
 show M?;have⟨hn,vs,rel,dk⟩:=D;show OG m.base m.mE m.line DV FV VA (Gs I hg hm ?_ hd);have dd:=dk Go Es!;show S? Fv! (λb eb=>?_);.cases eb;have⟨o,_,_,e,ex,_⟩:=dd;show IM?
 rw[Xr!];show HC A! (HU (II (TW! he (λiv s2 ⟨y,H2,I2,ry,k,ey,q2⟩=>K' ?_))));subst ey;have d2:=dk Xd! I2.PN;show RG FV d2.typeIs JM (AC! SN) (meets_dict_get Lt! a OE! hn) (BM! d2.mapOf ⟨_,H2,I2.tok _,bc! (show FB! Av! IR from rfl),q2⟩)
open E
abbrev fm(b:Bool):Str:=vf! DA! Cn!
abbrev pR(K:W.Frag)(p:Str×FL!)(q:Key×V):B!:=JLT g!/\∃t,PP=Ep! t/\∀H,Dp! t (p.2.map qa!)
def Jkz{K:W.Frag}:∀{l:U5!} {kvs:Bz!} {v:Str} {fs:FL!},Dm! (pR K) l Db->AT l.lookup v fs->∃t,Ce Db (L3! v)=D! ZM!/\∀H,Dp! t (OQ! qa!)
 | _,_,_,_,.nil,h=>C0!
 | (a,gs)::l,q::kvs,v,fs,.cons ⟨e,t,e2,k⟩ r,h=>by rw[IA] at h;cases c:v==a with | true =>rw[c] at h;cases h;show⟨t,?_,k⟩;unfold Ce;rw[CU,AR (show JLT v by rw[e,Sd! c])];change Ix PP=_;rw[e2] | false =>rw[c] at h;(have ne:¬JLT v:=λz=>by rw[e] at z;show b6! (Ec! Sum.inr.inj z) ne_of_beq_false c);have⟨t',q1,q2⟩:=Jkz r h;show⟨t',?_,q2⟩;unfold Ce at *;rw[CU,AL ne];show q1
abbrev ON(H:Hp)(v:V)(a:Arg):B!:=match a with
 | .n i=>v=My!
 | .t i j=>∃t,v=JM!/\h0! (i,j)
def ON.same{H H':Hp}(s:XV){v:V}{a:Arg}(h:ON H v a):ON H' v a:=by cases a with | n i=>show h | t i j=>have⟨t,e1,e2⟩:=h;show⟨t,e1,L! s e2⟩
def ON.put{H:Hp}{v:V}{a:Arg}{p:Addr}{ys zs:C!}(h:ON H v a)(hp:PY! p ys):ON (hk! zs) v a:=by cases a with | n i=>show h | t i j =>have⟨t,e1,e2⟩:=h;show⟨t,e1,Op (Q5 e2 hp Wt!) e2⟩
def Uk:∀(i:Nat){fs:FL!}{ws:AC}{as:lE!}{f:Bool}{w:Str}{a:Arg},Uz! JOK->fs[i]?=D! f->ws[i]?=D! w->Jh f w=D! a->Gh (fs.take AB!) (ws.take AB!)=D! (as++[a])
 | 0,f0::fs,w0::ws,as,f,w,a,h,h1,h2,h3=>by show Bl?;subst h1 h2;simp[Gh] at h ⊢;subst h;rw[h3];rfl
 | 0,[],_,_,_,_,_,_,h1,_,_=>by simp at h1
 | 0,_::_,[],_,_,_,_,_,_,h2,_=>by simp at h2
 | i+1,[],_,_,_,_,_,_,h1,_,_=>by simp at h1
 | i+1,_::_,[],_,_,_,_,_,_,h2,_=>by simp at h2
 | i+1,f0::fs,w0::ws,as,f,w,a,h,h1,h2,h3=>by show Bl?;rw[uq!,uq!] at h ⊢;unfold Gh at h ⊢;cases e:Jh f0 w0 with | none=>show Ah? | some b =>show AC?;cases e2:JOK with | none=>show Az? e2 | some bs =>rw[e2] at h;cases h;rw[Uk i e2 h1 h2 h3];rfl
def E8{l:GV!}{cl:CF!}{y:Str}(h:y! (l.all (λp=>pi != OT!&&pi != Eq!)))(h2:JMs):Lv!:=by
 have key:∀k,JLp->AU! (k != OT!&&k != Eq!):=λk e=>bz! (N'.mp h (y,k) (lookup_mem e)) this
 rcases h2 with e|e;.show EU?
 .show EU?
def Jq9{K:W.Frag}{l1 l2 p:Addr}{xs zs:C!}{te:TE}{caps:Cb!}{σ:L2.St}{H:Hp}{Q:Gi!}(Pv:No!)(h0:OL!)(hlen:xs.length=zs.length)(hl:JS8 (DC K H2 l1 xs/\DZ K H2 l2 zs/\Hi!))(hs:∀i x z ys H2 T (N:JH!),Pr!->zs[i]?=D! z->vr!->b4! T->(∀ys H,Pv (Aj!) ys H->N ys H) -> vh! (Ix x::vX! z) (NM! T FB [x,z]) wK!)(hd:We!) : Ff! (FV! (FP! (p_ K l1 l2).stop Dv! (p_ K l1 l2).go (p_ K l1 l2).RU (NM λa u v=>Bg!/\DC K H3 a [u,v] /\ vh! r5! H3 M6!))):=by
 show DR? Xf! fw! Eu!;show Bo?;have⟨q1,q2,q3⟩:=jH!;show f? q3;show DO?;.have⟨x,hx⟩:=A4 IP;have⟨z,hz⟩:=nX! zs;show d! ⟨⟨xs,zs,x,z,q1,q2,hx,hz⟩,λv H3 y=>?_⟩;have⟨T,x',z',hT,rfl,rfl,y1,y2⟩:=y;have ex:=y1 xs q1;have ez:=y2 zs q2;show⟨T,x',z',A!,Ac! Ab,hs i x' z' ys H2 T (wh! Xf! wY! (Aj!<=xs.length)) ex ez pv hT ix!⟩
 show Cj?
abbrev J1q(K:W.Frag)(tl:TE):TI:=JTv (∃a,Bg!/\(((∃xs,JGO)/\R (VZ K a) H1)\/((∃xs,V7! H1)/\R (XI K a) H1)))
def Jv7{X:E!}{tg l:Expr}{tl:TE}(hl:WZ!):JNC J1q:=by
 show AJ?;show A2?;rintro v s1 ⟨x,H1,I1,r1,a,e,q⟩;subst e;cases r1;have fp:∀b∈[s1.heap.objs.size],Jq X AB H1 b:=ut (by show BW? (b=s1.heap.objs.size);subst e;show xk! I1.fresh)
 rcases q with⟨⟨xs,hq⟩,q⟩|⟨⟨xs,hq⟩,q⟩;.show Hg?;show UE Of! ⟨_,_,K5? Jas fp⟩
 .show DN? fv!;show tk! (show nZ! tl! from p) ⟨_,_,K5? Tc fp⟩
def Mj{K:W.Frag}{a p:Addr}{xs:C!}{tt:TT}{te:TE}{caps:Cb!}{σ:L2.St}{H:Hp}{Q:Gi!}(Pv:No!)(h0:OL!)(hl:pe! (V7! H2))(hs:so!)(hd:We!) : Ff! (FV! (FP! (XI K a).stop Dv! (XI K a).go (XI K a).RU (UJ! H3 M6! DW!))):=by
 show EX?;show Cq?
 show Cj?
abbrev FG(i:Int):Str:=(fy! i:String)
abbrev Br(t:T2):Str:=bM! "." qg!
abbrev Fh(ws:AC):Str:=B3! (ws=[]) "none" (bM! " " ws)
abbrev i'(K:W.Frag)(H:Hp)(v:V)(t:T2):B!:=∃a,Qi!/\JHI
def Gc{K:W.Frag}{H H':Hp}(s:XV){a:Addr}{xs:C!}(h:Dz!):V7! H':=(JX s).sq h
def i'.same{K:W.Frag}{H H':Hp}(s:XV)(h:JMU):Jz! i' t:=let⟨a,e,q⟩:=h;⟨a,e,Gc s q⟩
abbrev Sm(i:Int):B!:=0<=i/\i<=100000
def Ca(i:Int)(h:Sm i):Ee! FG i 9:=(Jhq v6 (by have:=h.2;show JCV this)).l
def Cc{i:Int}(h:Sm i):i.natAbs.log2<1920:=by
 have h1:i.natAbs<2 ^ 20:=by have:=v6;have:=h.2;lia
 rcases Nat.eq_zero_or_pos i.natAbs with e|e;.rw[e];decide
 .show B_ ((Nat.log2_lt (EU e)).mpr h1) TD
abbrev zA(n:Int)(k:Str)(h g:Int):Str:=bM! ":" [FG n,k,FG h,FG g]
def pH{K:W.Frag}{H:Hp}{v:V}{ds:LW!}(h:am! v MI! ds):HK λa xs=>Qi!/\Dz!/\JJs:=by cases h with | BE s l r=>show⟨_,_,A!,s,Ec l r⟩
def HY.th{K:W.Frag}{H:Hp}{v:V}{t:T2}(h:am! v QR t):JMU:=by have⟨a,xs,rfl,s,p⟩:=pH h;cases p with | cons r1 p=>cases p with | cons r2 p=>cases p;cases r1;cases r2;show⟨a,A!,s⟩
def Jke{K:W.Frag}{H:Hp}:∀{xs:C!} {ts:G!},Wz! xs KV! QR->xc! i' ts
 | _,[],.nil=>R!
 | _,_::_,.cons r p=>SC r.th (Jke p)
def Jox{K:W.Frag}{H:Hp}{v:V}{hs:G!}{os:B0!}{rs:Y!}(h:HY K H v st!):YL λb x1 x2 x3=>v=B9!/\Dp! b [x1,x2,x3]/\JEx x1 X7! QR/\JEx x2 De! pO/\JEx x3 KT! yo:=by have⟨b,xs,rfl,sb,pb⟩:=pH h;cases pb with|cons z1 pb=>cases pb with|cons z2 pb=>cases pb with|cons z3 pb=>cases pb;show⟨b,_,_,_,A!,sb,z1,z2,z3⟩
def AW.iM{CW CH CP CD pw p dx:Addr}{H:Hp}{W:ET}{v:V}(x:AW CW CH CP H pw W)(hp:JTq JEU):p∉Bu pw W:=λhb=>by show Bg?;(.show DA?;show Df?;(.show AR?;rw[hp] at e;cases e);(.have e:=x.hs;rw[hp] at e;cases e);(.have⟨dx,e⟩:=x.po.ob;rw[hp,Oq] at e;cases e);(.have e:=x.po.dc;rw[hp] at e;cases e);(.have e:=x.iq;rw[hp] at e;cases e);(.have e:=x.fi;rw[hp] at e;cases e);.have e:=x.en;rw[hp] at e;cases e);.show Dg?;show Gx?;(.have⟨dx,e⟩:=(x.ho q hq).ob;rw[hp] at e;cases e);.show De? (x.ho q hq).MV;rw[hp] at e;cases e
inductive FmL(K:W.Frag)(w:World):AP! U5! lD!
 | nil:FmL K w [] []
 | cons {v:Str} {fs:FL!} {r:U5!} {es:lD!} {t:Addr} {tk:Tok} {its:BP!} {n:Nat}:AT Ob! t ⟨io!,KM,.seq As! n,#[]⟩->Gw! (OQ! qa!) Oc!->FmL K w r es->FmL K w ((v,fs)::r) (⟨PyData.keyHash w.params v,bn v tk,JM!⟩::es)
def Jk1{P:Program}{w:World}{K:W.Frag}:∀{l:U5!} {es:lD!},(∀p∈l,p.2.length<=10)->FmL K w l es->HK λ(kvs:List (Key×V))(vs:List (Key×Value))=>FU!/\Pairs Zq! es vs/\(∀e∈es,∃k,CA! yQ! k e.key/\e.hash=(Bp P w).hash k)/\Mn! Sb! db (λp=>(L3! g!:Key))/\Dm! (pR K) l Db
 | _,_,_,.nil=>⟨[],[],R!,R!,eY!,A!,R!⟩
 | (v,fs)::l,_,hl,.cons (t:=t) (tk:=tk) (its:=its) lk hv r=>by have⟨kvs,vs,h1,h2,h3,h4,h5⟩:=Jk1 (P:=P) (JI1 hl) r;have hk:y! (yQ! (L3! v) (bn v tk)):=Q6 P w v tk;have hle:=ZN! hl (v,fs);have sz:vx!:=CV;show⟨(no!,JM!)::kvs,(no!,JM!)::vs,SC Bj! h1,SC hk A! h2,Na!,Cy! AI AI h4,SC (ag! t (λH=>?_)) h5⟩;(.rcases ZM he with rfl|he;(.show⟨no!,hk,A!⟩);.show h3 e he);·(have e:fs.length=its.size:=by simpa using AD! hv);have JVx:XP! 10:=hle;show L? ⟨Aj?,lk,A!,A!,by omega,hv⟩
def forms_mk{w:World}{K:W.Frag}{FA:Addr}{es:Fc!}{ep:Nat}(lk:AT Ob! FA ⟨GB! DZ!,KM,.dict es ep,#[]⟩)(h:FmL K w FT es.toList)(hs:Ad! (FA==sysModules))(P:Program):JRZ:=by have⟨kvs,vs,h1,h2,h3,h4,h5⟩:=Jk1 (P:=P) ZV h;show⟨Db,⟨hs,vs,h1,λhp X=>⟨_,es,ep,L! X lk,JGD,A!,λe he=>h3 e (by simpa using he),h2,?_⟩⟩,h5⟩;rw[h4];show AI?
abbrev fmB:FL!->k!->A3!
 | [],[]=>true
 | b::fs,.str x _::us=>x==fm b&&fmB fs us
 | _,_=>false
def fm_vals:∀{fs:FL!} {us:k!},CA! fmB fs us->eM! OQ! qa!
 | [],[],_=>R!
 | b::fs,.str x t::us,h=>by have h:=OI.mp h;have e:x=fm b:=Sd! v6;subst e;show SC dQ! (fm_vals h.2)
def Zw:entryFor table "proto.unchain"=D! Builtin.«proto.unchain»:=entryFor_of_tree (by kernel_rfl)
open S
variable {prog:Program}{w:World}{A:Around}{E:Value->Shared->Prop}{s:Shared}
def Jmq{it l ex:Addr}{i:Nat}{items:BP!}{oe:Obj}{vs:BP!}{Q:VH!}(hh:A.handled=cQ!)(YS:JE8 ex)(oK:kW!)(w8:JG6 IR)(WB:ex≠it)(hit:s.heap.IsListIter it l i)(hl:s.heap.IsList l Ol!)(hx:items[i]?=none)(hQ:∀h',JO5->nQ!):ct!:=by
 show Gy?;have⟨ol,oQ,_,nl,oU⟩:=hl;show Ca? Sn! slot_listiter_next slot_listiter_next Sn! entry_listiter_next args_listiter_next;show Hz?;show H1? JU!;show HY? (AU! (D4! l==Value.none));rw[AD (show ¬(AU! (D4! l==Value.none)) from AO)];show Hy?;show Jt?;simp only[CZ,hx];show O? SJ (ZR (HR ho hd KB RY!));show F1?;show ZR (CS (Cv! JCS (PZ (a:=KL!) JLW JIO)) UM!);show F2?;show Hw?;rw[show A.in1.handled=cQ! from hh];obtain⟨h2,eh2⟩:∃h2,h2=(Op! it (X1! λx=>x.setIfInBounds 0 KL!)).push { cls:=iW! Er!,data:=Data.seq #[] }:=BN!;have eb2:Heap.ExtBut it Go h2:=l9! eh2 (zB! _)
 rw[<-eh2];have x2:lB! ex oe:=eb2 ex oe WB YS;have nx:ex≠h2.objs.size:=BN (AU x2);obtain⟨vn,evn⟩:∃vn,vn=(#[QR! (Op! it (X1! λx=>x.setIfInBounds 0 KL!)).objs.size,Value.none,Value.none,Value.none,KD! am,Value.none]++ownMembersOf (XN! G9!) []):=BN!;have vn2:2<vn.size:=Dq! evn Array.size_append (B_ (show 2<6 by decide) (AV 6 _))
 rw[<-evn];show CC? (ite (AU! (QR! ex != QR! ur!)) _ _);rw[AE (by simp[bne_iff_ne,nx])];have x3:=ZT JP3 x2;have y3:AT (h2.push JP3).get? ur! JP3:=Cu!;show O? EK (runValue_entry Zw ?_);show Cv! (field (IN ex) 2) (C_ x3 oK w8 ?_);show ZS (Dn! (ZR (HR (a:=ur!) y3 A! vn2 (uP! ?_))));show ZR (PJ (T:=G9!) (b:=q!) (Kq! (EH _ y3 A!)) gM! ?_);show ZS (hQ _ λb o' hb e=>?_);have e2:=eb2 b o' hb e;show((Heap.SameBut.update ..).2 b (BN (AU e2))).trans (ZT _ e2)
open E
structure Ju3(ex:Addr)(P:Program)(w:World)(K:W.Frag)(tg:Expr)(J:It)(fp:Z!)(it:Addr)(tn:oA!):B! where
 mem:it∈fp
 obj:∀i h,tn i h->JKx C2!
 keep:∀i h h',tn i h->(D7! (∀o,C2!->iI!))->tn i h'
 item:sE! (gs! cQ!) (∀(i:Nat)(AB:x!)(s:Shared)(σ:L2.St)(H:Hp)(E:Os),re! (J.go i H ->
  s0! (∃u,r=b8! /\
   F9! jN! X.A su! (JQr J.RU (qx! Xd!) JTM) E s1)))
 done:sE! (gs! cQ!) (∀(i:Nat)(AB:x!)(s:Shared)(σ:L2.St)(H:Hp)(E:Os),re! (J.stop i H ->
  s0! (r=none/\vU! s1)))
 self:∀(A:Around)(i:Nat)(s:Shared)(Q:Os)(E:Os),tn i Go->GC! it s->JRg P (iB! Oe!)
inductive J17(ex:Addr)(X:E!)(AB:x!)(σ:L2.St)(tg:Expr)(R:VF!)(lY:Value)(s2:Shared):B!
 | mk (it:Addr) (fp:Z!) (tn:oA!) (J:It) (H':Hp) (_:lY=h! it) (_:JTa) (_:Ju3 ex Bm! X.w Kx tg J fp it tn) (_:tn 0 Xd!) (_:(D7! JF2)) (_:R J H')
abbrev yZ(ex:Addr)(X:E!)(tg iter:Expr)(wi:TI):B! :=
 ∀(AB:x!)(s:Shared)(σ:L2.St)(H:Hp)(R:VF!),bO! (wi σ H R ->
  ao! is! (λv s1=>JEZ (Oe! v) (J17 ex X AB σ tg R)))
abbrev pL(ex:Addr)(K:W.Frag)(a:Addr):It:=⟨(VZ K a).go,(VZ K a).RU,λi H=>(∃xs,Fe!/\xs.length<=i)/\∃C,BE! ex qE!⟩
def Jh1{ex:Addr}{P:Program}{w:World}{K:W.Frag}{tg:Expr}(a it:Addr):Ju3 ex P w K tg (pL ex K a) [it] it (λi h=>ti! it a i) where
 mem:=sK
 obj:=MA! (by
  show A0?
  subst e
  show Cw?
  show JL?)
 keep:=JOW
 item:=by
  show v?
  show e?
  show Fs?
  show D4?
  show Ed?
  show o?
  show KN? wpAny_pyNext_list_item Of!
  show Hl?
  show Dc?
  show KM? I.U_
 done:=by
  show v?
  show e?
  have⟨⟨xs,hq,hx⟩,C,hC⟩:=hg
  show D4?
  show o?
  show Cx?
  have⟨o,vs,g1,g2,g3,g4⟩:=pt! ex hC
  show Jmq hc g1 g3 g4 (λz=>by rw[z,f0] at hC;cases hC) st Of! q3! W5!
 self:=Wf! wpAny_pyIter_listiter
abbrev Jw2(ex:Addr)(K:W.Frag)(tl:TE):TI:=JQs JGO (pL ex K a)
def Jpb{ex:Addr}{X:E!}{tg l:Expr}{tl:TE}(hl:WZ!):yZ ex X tg l (Jw2 ex Kx tl):=by
 show AJ?;show A2?;show Ao?;show Ft?;subst e;cases r1;show Hg?;show UE Of! ?_;show⟨JJ? Jh1⟩;show CT?
 show Hq?
open S
variable {tS:Addr}{X:Cx Kx}{elt iter:Expr}{x:Str}{px pos:Pos}{ifs:List Expr}{sc:Scope}{cl:List (Str×Addr)}{caps:List (Str×Nat)}{wi:TI}{tt:TT}{te:TE}
def Jji{AB:x!}{σ:L2.St}{H:Hp}{s:Shared}{Q:VK}{use:eK!}{RQ:Os}(hc:gs! (A1! tS))(hi:yZ tS X (Fo! x px) iter wi)(J':J8!)(JE:J3!)(H_:GZ!)(IF:J9!)(hx:Gm!)(KG:Fi!)(has:KA!)(LY:Fh!)(hN:bS!)(ht:d0!)(he:dz!)(I:I!)(h:JON Q)(fin:fh!)(hs:KC!) : fi! N3! (Fo! x px):=by
 show wpAny_comprehension_free A! hs J' H_ IF JL7;have⟨it,fp,tn,J,H2,e,I2,T,dy,f2,hW⟩:=h2;subst e;show CS ?_;have aQ:b4! Si!:=dG!;show CN? o8! Wn! (I2.hJ (t':=s2.toks) (As!:=[]) R! Dw!);have⟨W,⟨m0,w0⟩,turn⟩:=hW Si! aQ;have xn:D7! (b≠s2.heap.objs.size):=Sh! (by have⟨o,e,_⟩:=se! dy;show GO! AU e JHD)
 have f3:bb! o8!:=ut (JHu (by rw[Ad (xn b hb)];show Pp! f2));have iQ:tn 0 (s2.heap.push JSW):=sf! dy Hs!;obtain⟨D,hD⟩:∃D,D=s2.heap.objs.size:=BN!;obtain⟨H3,xg⟩:∃H3,H3=ef! Si!:=BN!;obtain⟨s3,ji⟩:∃s3:Shared,s3=Wn!:=BN!;have c7:tn 0 s3.heap:=U! ji iQ
 rw[<-xg] at I3 f3 w0;rw[<-ji] at I3;rw[<-hD] at turn;change wC! _ (Wn!:OS!);rw[<-ji,<-hD];show wpAny_newFunctionEnv JE (by intro y hy;simp at hy) (λh1 xN oO=>?_) H_;have ok:=Jrc (N:=x::Cg be) I3 f3 (Mu! (let⟨o,e,_⟩:=se! c7;c1!)) H_ KG has;show Ef?;have J4:=Jxh (t':=qi!) I3 ok KG LY bt xN oO;have nY:tn 0 h1:=sf! c7 (JOE oO.2);show JX? (D7! (Jq d1! [] H' b)) (by show⟨C5! hn,?_,λz=>ok.UR b hb z,Ts!,yi! (f3 b hb).2.2.2.2.1,Eb!⟩;(.show Pp! ok.YY);.show Ee?;rw[AM] at VW;show(f3 b hb).2.2.2.2.2 p VW)
 have loop:∀s4:OS!,s4={ s3 with heap:=h1,toks:=qi! } -> Og! TZ! X.A (.compLoop N3! 0 LG! H2! (JQO Oo!)) (compPost TZ! X.A X.xe use RQ H2! Oo!) s4:=by rintro s4 rfl;show Jb5 (λk s'=>YL λi v0 ys H'=>JLn (Inv d1! [] JHn H' s') Gy! (W i k ys H')) ?_ m0 ⟨0,KM,[],H3,J4,nY,iY! f3,w0⟩;rintro k s5 ⟨i,v0,ys,H5,I5,cO,YX,w5⟩;obtain⟨hD5,stop|⟨go,step⟩⟩:=G0! i k ys H5 w5;(.have⟨stop,q⟩:=stop;show Fg? T.done d1! stop;rintro r s6 ⟨hr,I6⟩;subst hr;have⟨mm,tG,_⟩:=I6.loc;show wn _ D H5 s3 s6 H3 A! I3 (Jlg I3 f3 I6) I6.free ⟨mm,tG⟩ q);.show Fg? T.item d1! go;rintro r s6 ⟨u,hr,h6⟩;subst hr;show FO h6 ?_;rintro _ s7 ⟨y,H7,I7,r7,y7,jR,UI⟩;have I7':=JLb I7.pinned UI jR;show FO (By (X:=JQc ZC!) (i:=0) hN A! (Am! bt) (Bc! bt) _ s7 JHn H7 y u (qW! JCh) I7' r7 Bj!) ?_;rintro _ s8 ⟨vV,H8,I8,e8,e8'⟩;subst e8;subst e8';(have back:∀{nK:L2.St} {H9:Hp} {s9:Shared},Inv d1! ([]++Pz fp s7.heap) nK H9 s9->qx! s9.heap/\D7! (FE! H9):=λ{nK H9 s9} I9=>by show⟨JPS jR I9.pin,GW!⟩;show J5? jR;show JLf I9.pin);show Ff? ht s8 I8 (step y _ y7);rintro ok s9 ⟨H9,I9,q9⟩;cases ok with | false =>simp only[DN,FZ] at q9 ⊢;have⟨m',hm,w9⟩:=q9;show⟨m',hm,Aj!,Ix y,ys,H9,I9.MA,lg! I9,mN! I9,w9⟩ | true =>simp only[HW] at q9 ⊢;show Ff? he s9 I9 q9;rintro xv bF ⟨v,cx,I10,wK,kX,IP,m',hm,vg⟩;show FO (Fm (X:=JQc ZC!) _ bF _ cx H2! [v] H2! [xv] (λ_ H'=>H'=ZU! cx D (ys++[v])) I10 A! (LJ! wK) ⟨D,ys,v,A!,A!,kX,IP,A!⟩) ?_;rintro _ sJ ⟨_,m_,j_,_,yJ⟩;subst yJ;show⟨m',hm,Aj!,Ix y,ys++[v],_,j_.MA,lg! j_,mN! j_,vg⟩
 show codeAny_compStart_list n0! (T.self _ 0 _ _ _ nY n0!)
def Jpi(hc:gs! (A1! tS))(hi:yZ tS X (Fo! x px) iter wi)(J':J8!)(JE:J3!)(H_:GZ!)(IF:J9!)(hx:Gm!)(KG:Fi!)(has:KA!)(LY:Fh!)(hN:bS!)(ht:d0!)(he:dz!)(hs:KC!:=by intro _;rfl):CS! N3! (p7 wi be tt te):=JRd (Jji (use:=KM) hc hi J' JE H_ IF hx KG has LY hN ht he I h (?_) hs)
open E
structure uR(P:Program)(w:World)(K:W.Frag)(mg:sw)(base:Heap)(k:Nat)(f:Addr)(fd:FuncData)(ps:AC)(sp:F!->C!->ZG!):B! where
 len:∀ex vs H Q,sW!->f2!
 run:∀(ex:Addr)(A:Around)(outer:Ca!)(s:Shared)(H:Hp)(args:Args)(us:k!)(vs:C!)(Q:VK),Rf!->qO!->jm! D9! xv!->Nw!->sW! ->
  JGB (A.mark (JI! ex)) (JGK D9!) (CR XM BV! P w H s Q E0) s
open S
variable {P:Program}{w:World}{K:W.Frag}{mg:Str->Option Value}{base:Heap}{sp:Addr->List V->Hp->VK->Prop}
def Jw6{k:Nat}{f:Addr}{name qual:Str}{params:Arguments}{body:bw!}{scope:Scope}{dV kV doc pm EO ct oc:Value}{an od:Nj!}{eC:JOh}{N ps:AC}(lk:JPi (.func (s6!)))(TH:JPa)(S:JQA)(len:∀ex vs H Q,sW!->f2!)(UW:∀(ex:Addr) (A:Around) (outer:Ca!) (s:Shared) (H:Hp) (vs:C!) (Q:VK),xr! (x6! EO)->sW! -> JUQ (SW JQm body t)) : JRL (k+1) f (s6!) ps sp:=by
 show⟨len,λex A outer s H args us vs Q hr e0 hb r bM=>?_⟩;have hl:=aw! len bM;have KX:Jx!:=qT! e0.mod.YR.keeps;have lim:s.heap.NoLimit:=qT! e0.mod.nolimit.keeps;have H_:∀y∈Xm! us,hg! Ok! AK!\/(lC! Ok! AK!/\JFI (f4! Qh! ts! []).lookup AK!):=λ⟨n,v⟩ hy=>by show BB? (S.par n (LQ hy).1);(.show E? q);.show AD? q (FS tr! _ (Am! q))
 show codeAny_call_function hr.depth (NE KX lk) A! S.co S.gen A! (W.codeRec_of KX TH) (hb _ _ _ _ ?_);show wpAny_newFunctionEnv_cells S.kind H_ λenv he s1 x=>?_;subst he;show⟨lim.keeps x.toInCall.keep,codeAny_func ?_⟩;have⟨t,ht,hq⟩:=UW ex A BV! s H vs Q (hr.deeper _) bM;have I:JN9 JQm:=zg (Jbl S hr.hd e0 hl r x);show FH (ht [] s1 (start N vs) H _ I hq) (λfl s' hs=>?_) λe s' hs=>hs.elim;have fin:∀{GA:L2.St} {H':Hp} {v:V} {u:Value},JIi JQm->C3!->Jt!->JP8 :=λ{GA H' v u} J rv q=>⟨v,H',J.os,J.bare,J.base,J.EI,rv,q⟩;cases fl with | ret u =>have⟨v,GA,H',J,rv,q⟩:=hs;show wn J rv q | next =>have⟨GA,H',J,q⟩:=hs;show wn (v:=V.GB) (u:=KL!) J A! q | brk =>show FB? | cont =>show FB?
def Cx.Ok.ofX{Y:E!}{ex:Addr}(ok:(bp Y ex).Ok)(h:Y.A.handled=none):Y.Ok:=JTI (λ_=>h)
abbrev Jvl(sp:F!->C!->ZG!)(ex:Addr)(t:TA):TE:=nq! (sp ex vs H1 Q)
def Jf7{Y:E!}{k:Nat}{f ex:Addr}{fd:FuncData}{ps:AC}{x:Str}{e:Expr}{es:IB!}{t:TA}{p pos:Pos}(F:uR Y.prog Y.w Kx Y.mg Y.base k f fd ps sp)(hr:DW k Y.A)(hg:Gl (bp Y ex) x)(hm:FA! Y.mg NL!)(hk:CA! SX! Kx NL!)(hb:JFe)(ha:PA (bp Y ex) ZD! t)(cU:D1!:=by decide)(he:Fn! (e::es) Y.env=Mx! (eval e Y.env)::Fn! es Y.env:=by rfl)(TY:wT (ci (L8! AS! (Fn! es Y.env)).any):=by rfl) : PE (bp Y ex) (.Call i5! ZD! [] AS!) (Jvl sp ex t):=by
 show M?;show FU?;show Kh? Y.base hk;show Ik? (us.length=ps.length) Xl! q
 show WQ (p0! (F.run ex Y.A Y.stack s1 H1 aq! us vs Q hr (O4 I1 (Cx.Ok.ofX I1.ok hr.hd)).iC (by have:=hb s1 us I1.PN (b9! hl);show BA? AM) r q));cases r with | error e=>show hq.elim | ok fl =>cases fl with | ret u=>show I1.after hq | next=>show Ba? | brk=>show Ba? | cont=>show Ba?
open E
inductive Jsl(x:V)(vs:C!)(H:Hp)(Q:VK):B!
 | mk l (bs:FL!) (n:Nat) (_:Un!) (_:vs=[bv q!]) (_:BE! l (EO! En! D8!)) (_:bs.idxOf q!=n) (_:n<bs.length) (_:QD! n)
def Jex:∀{bs:FL!} {us:k!},eM! En! D8!->us=En! KD!
 | [],_,.nil=>rfl
 | b::r,_,.cons e q=>by cases e;rw[Jex q];rfl
def Jmm{X:E!}:jB X "list.index" Jsl:=by
 show Ab?;have⟨l,bs,n,rfl,rfl,hH,hi,hn,q⟩:=h;show H?;show Bm?;cases ru;have⟨z,its,k,r,hl,e⟩:=I.XZ hH;have ei:=Jex r;subst ei;have hz:bs.length<=sizeLine:=z8!
 have sz:vx!:=CV;show IT? F.slot_list_index F.entry_list_index F.args_list_index_2 (PySem.SeqAt.list_indexAt l (K2! En! KD!) k KM #[] JG2 (λy=>y == mP!) n (by simpa using hn) i! ?_ ?_) ⟨e,?_,NU! Hv!⟩;.subst hi;have:=List.getElem_idxOf hn;simp only[List.getElem_toArray,List.getElem_map,this];rfl
 .intro m hm hmn;(have hm':m<bs.length:=by simpa using hm);have:=HJ! List.not_of_lt_findIdx p (· == true) xs bs i m (by rw[<-hi] at hmn;show hmn);simp only[List.getElem_toArray,List.getElem_map];cases c:bs[m] with | false=>rfl | true=>show N? c;show BC?
 .intro y hy;(obtain⟨b,_,rfl⟩:∃b,b∈bs/\KD! b=y:=by simpa using hy);have:=PySem.SeqAt.EqAt.bool_bool (A:=X.A.in1) (s:=s) b q!;cases b<;>show this
def Jjg{ex:Addr}{C:Addr}{K:W.Frag}{a p:Addr}{xs:C!}{tt:TT}{te:TE}{caps:Cb!}{σ:L2.St}{H:Hp}{Q:Gi!}(Pv:No!)(h0:OL!)(hl:JS8 (JAE JGP (U0! ex qE!)))(hs:so!)(hd:We!) : Ff! (FV! (FP! (pL ex K a).stop Dv! (pL ex K a).go (pL ex K a).RU (UJ! H3 M6! DW!))):=by
 show DR? Xf! fw! Eu!;show Bo?;have⟨q1,q2,q3⟩:=jH!;show f? q2;show DO?;show Cq?
 show GT? (i=xs.length) ⟨⟨xs,q1,Ao!⟩,C,q3⟩ wg!
open E FX
open N K51
open PySem L2 FX
abbrev top(i:Nat):J!:=PySem.Challenge.pw_farhold_k51_desk_deeds.main.body.getD i (.Pass JOx)
@[reducible]abbrev pZ:J!:=A2! 0
@[reducible]abbrev ph:J!:=A2! 1
@[reducible]abbrev pY:J!:=A2! 2
@[reducible]abbrev pW:J!:=A2! 3
@[reducible]abbrev pk:J!:=A2! 4
@[reducible]abbrev pX:J!:=A2! 5
@[reducible]abbrev pj:J!:=A2! 6
@[reducible]abbrev pV:J!:=A2! 7
@[reducible]abbrev Ug:J!:=A2! 8
@[reducible]abbrev Ud:J!:=A2! 9
@[reducible]abbrev Of:J!:=A2! 10
@[reducible]abbrev pq:J!:=A2! 13
@[reducible]abbrev Pw:J!:=A2! 14
@[reducible]abbrev p5:J!:=A2! 15
@[reducible]abbrev Kr:J!:=A2! 16
@[reducible]abbrev Hf:J!:=A2! 18
@[reducible]abbrev Kq:J!:=A2! 19
@[reducible]abbrev Lx:J!:=A2! 20
@[reducible]abbrev T9:J!:=A2! 21
@[reducible]abbrev mz:J!:=A2! 22
@[reducible]abbrev Lw:J!:=AZ! 13
@[reducible]abbrev Fy:J!:=AZ! 11
@[reducible]abbrev Gg:J!:=AZ! 17
@[reducible]abbrev Hx:J!:=AZ! 18
@[reducible]abbrev Uc:J!:=cW! 0
@[reducible]abbrev Oi:J!:=cW! 1
@[reducible]abbrev Kt:J!:=cW! 2
@[reducible]abbrev Oh:J!:=cW! 3
@[reducible]abbrev Ku:J!:=cW! 4
@[reducible]abbrev pe:J!:=A2! 12
@[reducible]abbrev uc:J!:=BH! 8
@[reducible]abbrev Hv:J!:=BH! 17
@[reducible]abbrev Ew:J!:=BH! 18
@[reducible]abbrev Hu:J!:=BH! 19
@[reducible]abbrev Hw:J!:=BH! 20
@[reducible]abbrev Ko:J!:=BH! 21
@[reducible]abbrev T8:J!:=A2! 17
@[reducible]abbrev Ue:J!:=A2! 11
@[reducible]abbrev m7:J!:=A2! 23
@[reducible]abbrev m6:J!:=A2! 24
@[reducible]abbrev Ua:J!:=l5! 0
@[reducible]abbrev Mw:J!:=l5! 1
@[reducible]abbrev Ia:J!:=l5! 2
@[reducible]abbrev Og:J!:=l5! 3
@[reducible]abbrev vN:J!:=BH! 0
@[reducible]abbrev uv:J!:=BH! 1
@[reducible]abbrev vM:J!:=BH! 2
@[reducible]abbrev vK:J!:=BH! 3
@[reducible]abbrev ux:J!:=BH! 4
@[reducible]abbrev vL:J!:=BH! 5
@[reducible]abbrev J03:J!:=BH! 11
@[reducible]abbrev uw:J!:=BH! 6
@[reducible]abbrev Sg:J!:=BH! 7
@[reducible]abbrev Lv:J!:=BH! 9
@[reducible]abbrev Oe:J!:=BH! 10
@[reducible]abbrev Ht:J!:=BH! 12
@[reducible]abbrev Ea:J!:=BH! 14
@[reducible]abbrev Km:J!:=BH! 15
@[reducible]abbrev T6:J!:=BH! 16
@[reducible]abbrev Pu:J!:=BH! 22
@[reducible]abbrev Jxu:J!:=BH! 13
@[reducible]abbrev vI:J!:=VW! 0
@[reducible]abbrev yn:J!:=VW! 1
@[reducible]abbrev yw:J!:=VW! 2
@[reducible]abbrev ym:J!:=VW! 3
@[reducible]abbrev vJ:J!:=VW! 4
@[reducible]abbrev Joq:J!:=VW! 5
@[reducible]abbrev Jg:J!:=AZ! 28
@[reducible]abbrev Hy:J!:=AZ! 29
@[reducible]abbrev Hz:J!:=AZ! 30
@[reducible]abbrev Kl:J!:=AZ! 31
@[reducible]abbrev Hr:J!:=AZ! 32
@[reducible]abbrev Ly:J!:=AZ! 33
@[reducible]abbrev Ks:J!:=AZ! 34
@[reducible]abbrev uY:J!:=AZ! 36
@[reducible]abbrev Jc5:J!:=AZ! 37
@[reducible]abbrev uq:J!:=AZ! 38
@[reducible]abbrev yx:J!:=AZ! 39
@[reducible]abbrev Jc8:J!:=AZ! 40
@[reducible]abbrev yr:J!:=AZ! 41
@[reducible]abbrev yt:J!:=AZ! 42
@[reducible]abbrev yu:J!:=AZ! 43
@[reducible]abbrev Jc7:J!:=AZ! 44
@[reducible]abbrev Ub:J!:=AZ! 45
@[reducible]abbrev yv:J!:=AZ! 46
@[reducible]abbrev zM:J!:=AZ! 47
@[reducible]abbrev Jc4:J!:=AZ! 48
@[reducible]abbrev zL:J!:=AZ! 49
@[reducible]abbrev yy:J!:=AZ! 50
@[reducible]abbrev j8:J!:=AZ! 51
structure DP(K:W.Frag)(C:Addr)(x qual:Str)(st:Stmt)(ps:AC)(f:Addr)(fd:FuncData):B! where
 fn:WX!
 bd:fF!
 mt:j4 K C x f
structure NK(K:W.Frag)(mg:sw)(x:Str)(st:Stmt)(ps:AC)(f:Addr)(fd:FuncData):B! where
 fn:wV! x
 bd:fF!
 mg:FA! mg NL!
structure MeI(K:W.Frag)(C:Addr)(x q:Str)(st:Stmt)(f:Addr)(fd:FuncData):B! where
 a:e5! x
 i:pU!
 fn:wV! q
structure GI(K:W.Frag)(x:Str)(st:Stmt)(f:Addr)(fd:FuncData):B! where
 a:DT! x f
 fn:wV! x
structure Q_(K:W.Frag)(x:Str)(st:Stmt)(ps:AC)(f:Addr)(fd:FuncData):B! extends GI K x st f fd where
 b:fF!
def Q_.SR{K:W.Frag}{mg:sw}{hp:Heap}{x:Str}{st:Stmt}{f:Addr}{fd:FuncData}{ps:AC}(m:Q_ K x st ps f fd)(X:K.In hp)(G:QP! hp.Ns):NK K mg x st ps f fd:=⟨m.fn,m.b,KA X G m.a⟩
structure qC(K:W.Frag)(C:Addr):B! where
 pg:fJ! Str.empty
 hd:oF!
 po:JFW
 sa:JO8
 mm:JFX
 kc:CA! SX! K Jq!
abbrev Bd(x q:Str)(st:Stmt)(ps:AC):B!:=∀(kV doc pm:Value)(an:Nj!)(EO ct:Value)(us:k!),yJ! (JN0 (JF3 x q (Pf st) RT! NT!))
def el0{P:RB!}{us:k!}(h:O7! 0)(k:P []):P us:=by
 rcases us with _|⟨a,us⟩;.show k
 .cases h
def o6{P:RB!}{n:Nat}{us:k!}(h:O7! (n+1))(k:∀a vs,vs.length=n->P (a::vs)):P us:=by
 rcases us with _|⟨a,us⟩;.cases h
 .show k a us (uG! h)
def el1{P:RB!}{us:k!}(h:O7! 1)(k:∀u0,P [u0]):P us:=ff! el0
def js{P:RB!}{us:k!}(h:O7! 2)(k:∀u0 u1,P [u0,u1]):P us:=ff! el1
def YZ{P:RB!}{us:k!}(h:O7! 3)(k:∀u0 u1 u2,P [u0,u1,u2]):P us:=ff! js
def eZ{P:RB!}{us:k!}(h:O7! 4)(k:∀u0 u1 u2 u3,P [u0,u1,u2,u3]):P us:=ff! YZ
def yC{P:RB!}{us:k!}(h:O7! 5)(k:∀u0 u1 u2 u3 u4,P [u0,u1,u2,u3,u4]):P us:=ff! eZ
abbrev BA(x q:Str)(st:Stmt)(ps:AC)(us:k!):B!:=∀(kV doc pm:Value)(an:Nj!)(EO ct:Value),JN0 (JF3 x q (Pf st) RT! NT!)
def bd1{a:Str}(h:∀u0,aG! [a] [u0]):Wj! [a]:=fj! el1 [a]
def bd2{a b:Str}(h:∀u0 u1,aG! IT! [u0,u1]):Wj! IT!:=fj! js IT!
def bd3{a b c:Str}(h:∀u0 u1 u2,aG! [a,b,c] [u0,u1,u2]):Wj! [a,b,c]:=fj! YZ [a,b,c]
def bd4{a b c d:Str}(h:∀u0 u1 u2 u3,aG! [a,b,c,d] [u0,u1,u2,u3]):Wj! [a,b,c,d]:=fj! eZ [a,b,c,d]
def bd5{a b c d e:Str}(h:∀u0 u1 u2 u3 u4,aG! us! [u0,u1,u2,u3,u4]):Wj! us!:=fj! yC us!
def MeI.mth{K:W.Frag}{C:Addr}{x q:Str}{st:Stmt}{f:Addr}{fd:FuncData}{ps:AC}(m:MeI K C x q st f fd)(h:Wj! ps:=by first|show K51.bd1 λ_ _ _ _ _ _ _=>rfl|show K51.bd2 λ_ _ _ _ _ _ _ _=>rfl|show K51.bd3 λ_ _ _ _ _ _ _ _ _=>rfl|show K51.bd4 λ_ _ _ _ _ _ _ _ _ _=>rfl|show K51.bd5 λ_ _ _ _ _ _ _ _ _ _ _=>rfl|show K51.bd0 λ_ _ _ _ _ _=>rfl|show K51.bd6 λ_ _ _ _ _ _ _ _ _ _ _ _=>rfl):DP K C x q st ps f fd:=⟨m.fn,m.fn.binds h,⟨m.a,m.i,m.fn.kp⟩⟩
def GI.gdi{K:W.Frag}{x:Str}{st:Stmt}{f:Addr}{fd:FuncData}{ps:AC}(m:GI K x st f fd)(h:Bd x x st ps:=by first|show K51.bd1 λ_ _ _ _ _ _ _=>rfl|show K51.bd2 λ_ _ _ _ _ _ _ _=>rfl|show K51.bd3 λ_ _ _ _ _ _ _ _ _=>rfl|show K51.bd4 λ_ _ _ _ _ _ _ _ _ _=>rfl|show K51.bd5 λ_ _ _ _ _ _ _ _ _ _ _=>rfl|show K51.bd0 λ_ _ _ _ _ _=>rfl|show K51.bd6 λ_ _ _ _ _ _ _ _ _ _ _ _=>rfl):Q_ K x st ps f fd:=⟨m,m.fn.binds h⟩
inductive Qz(K:W.Frag)(vs:C!)(H:Hp)(Q:VK)(E:XK):B!
 | mk (a:Addr) (ns:At) (_:cx!) (_:fB K H a (CL! wp)) (_:gt! 63) (_:∀H',Q (bv q!) H')
abbrev Gl(R:B!)(w:World)(K:W.Frag)(mg:sw)(C CW CP CI CD HE NH NJ OM MI NW NL NI NR FA cG Rx Qi cX Wp V8 Wx W9 Zs Zj Ww V2 Y9 Zo Zb Zh Zk Zv Zp Zt Wn Wq V1 Zg Zi Za Zl Zm V9 Rv Jz Gx Gz Gy Jx K3 Vy K1 K2 K6 Jy J0 Jw Zn Zf Wy Ry Zr Zq Wm Wk Wj G0 K8 K7 K4 K9 K5 Vz Ze Qj Rw Wb Wz Wf Zu V5 Zd Zc Vx Y8 Wh Wi V3 Wu V7 Wo Wv Ws Wr Wc We Wd V6 La Wa V4 aZ:Addr)(ck Xp R0 cj Ya Xn Yh Yk fJ Z9 Yg Xh Zz fO Z1 Z7 fX fC fN fF X8 Yb Xg Z6 Z8 Z0 fW fV Xo Rz Kb G9 Hb Ha J9 Lf Xe Ld Le Li Ka Kc J8 fQ Z5 Yi X7 fK fM X6 Xz Xy Hd Lk Lj Lg Ll Lh Xf Z4 R3 R1 Xr Yj Xv fE Xk Z3 Z2 Xd Zy Xw Xx Xi Ye Xm X9 Yf Yd Yc Xs Xu Xt Xl Lm Xq Xj ae:FuncData):B!:=∀⦃h:Heap⦄ (X:b2!) (G:QP! h.Ns)
 (aC:DT! "House" C)
 (aCW:DT! "World" CW)
 (aCP:DT! "Post" CP)
 (aCI:DT! "Inquiry" CI)
 (aCD:DT! "Desk" CD)
 (aHE:DT! "HoldError" HE)
 (aNH:DT! "NoHouse" NH)
 (aNHd:DT! "NotHeld" NJ)
 (aNNr:DT! "NotNear" OM)
 (aMI:DT! "Missing" MI)
 (aNW:DT! "NoWeight" NW)
 (aNL:DT! "NoLetter" NL)
 (aNI:DT! "NoInquiry" NI)
 (aNR:DT! "NoRow" NR)
 (q3:JQR)
 (q4:JQb)
 (xNH:Lq! NH)
 (xNHd:Lq! NJ)
 (xNNr:Lq! OM)
 (xMI:Lq! MI)
 (xNW:Lq! NW)
 (xNL:Lq! NL)
 (xNI:Lq! NI)
 (xNR:Lq! NR)
 (xHE:Lq! HE)
 (sNH:Rw! NH)
 (qaNH:R4! NH)
 (qbNH:Vh! NH)
 (qcNH:OI! NH)
 (qdNH:N5! NH)
 (qeNH:Rj! NH)
 (tNHNHd:RH! NJ)
 (tNHNNr:RH! OM)
 (tNHMI:RH! MI)
 (tNHNW:RH! NW)
 (tNHNL:RH! NL)
 (tNHNI:RH! NI)
 (tNHNR:RH! NR)
 (tNHV:R8! NH)
 (sNHd:Rw! NJ)
 (qaNHd:R4! NJ)
 (qbNHd:Vh! NJ)
 (qcNHd:OI! NJ)
 (qdNHd:N5! NJ)
 (qeNHd:Rj! NJ)
 (tNHdNH:RI! NH)
 (tNHdNNr:RI! OM)
 (tNHdMI:RI! MI)
 (tNHdNW:RI! NW)
 (tNHdNL:RI! NL)
 (tNHdNI:RI! NI)
 (tNHdNR:RI! NR)
 (tNHdV:R8! NJ)
 (sNNr:Rw! OM)
 (qaNNr:R4! OM)
 (qbNNr:Vh! OM)
 (qcNNr:OI! OM)
 (qdNNr:N5! OM)
 (qeNNr:Rj! OM)
 (tNNrNH:RJ! NH)
 (tNNrNHd:RJ! NJ)
 (tNNrMI:RJ! MI)
 (tNNrNW:RJ! NW)
 (tNNrNL:RJ! NL)
 (tNNrNI:RJ! NI)
 (tNNrNR:RJ! NR)
 (tNNrV:R8! OM)
 (sMI:Rw! MI)
 (qaMI:R4! MI)
 (qbMI:Vh! MI)
 (qcMI:OI! MI)
 (qdMI:N5! MI)
 (qeMI:Rj! MI)
 (tMINH:RK! NH)
 (tMINHd:RK! NJ)
 (tMINNr:RK! OM)
 (tMINW:RK! NW)
 (tMINL:RK! NL)
 (tMINI:RK! NI)
 (tMINR:RK! NR)
 (tMIV:R8! MI)
 (sNW:Rw! NW)
 (qaNW:R4! NW)
 (qbNW:Vh! NW)
 (qcNW:OI! NW)
 (qdNW:N5! NW)
 (qeNW:Rj! NW)
 (tNWNH:RL! NH)
 (tNWNHd:RL! NJ)
 (tNWNNr:RL! OM)
 (tNWMI:RL! MI)
 (tNWNL:RL! NL)
 (tNWNI:RL! NI)
 (tNWNR:RL! NR)
 (tNWV:R8! NW)
 (sNL:Rw! NL)
 (qaNL:R4! NL)
 (qbNL:Vh! NL)
 (qcNL:OI! NL)
 (qdNL:N5! NL)
 (qeNL:Rj! NL)
 (tNLNH:RM! NH)
 (tNLNHd:RM! NJ)
 (tNLNNr:RM! OM)
 (tNLMI:RM! MI)
 (tNLNW:RM! NW)
 (tNLNI:RM! NI)
 (tNLNR:RM! NR)
 (tNLV:R8! NL)
 (aFA:DT! "FORMS" FA)
 (hF:∀P:Program,JRZ)
 (hI:ea! C gu! pZ cG ck)
 (hPI:ea! CP gv! Ua Rx Xp)
 (hWI:ea! CW ut! vN Qi R0)
 (mM:JPB cX cj)
 (mFr:JPj Wp Ya)
 (mPa:JQT V8 Xn)
 (mCa:JPO Wx Yh)
 (mAd:JPP W9 Yk)
 (mGi:JPQ Zs fJ)
 (mPs:JQU Zj Z9)
 (mCl:JPC Ww Yg)
 (mSt:sU! V2 Xh)
 (mTo:DP K C Sy! gw! p5 Kn! Y9 Zz)
 (mNe:JSL Zo fO)
 (mSp:JOw Zb Z1)
 (mQH:JSa Zh Z7)
 (mPR:JPk Zk fX)
 (mAR:sY! Zv fC)
 (mLo:sg! Zp fN)
 (mGb:sV! Zt fF)
 (mHo:JPL Wn X8)
 (mDr:JPM Wq Yb)
 (mTa:JPN V1 Xg)
 (mQN:JTG Zg Z6)
 (mQG:sX! Zi Z8)
 (mTi:JPD Za Z0)
 (mPP:JSb Zl fW)
 (mPL:JQg Zm fV)
 (mPT:JQh V9 Xo)
 (mWM:Tj! C9! uu! uv Rv Rz)
 (mWFr:DP K CW Dd! uv! vL RN! Jz Kb)
 (mWSe:DP K CW Ch! uw! uw ar! Gx G9)
 (mWCl:Tj! Ci! ux! Sg Gz Hb)
 (mWDe:DP K CW gx! uy! Lv K0! Gy Ha)
 (mWSt:JO4 Jx J9)
 (mWLe:JQX K3 Lf)
 (mWH:JR6 Vy Xe)
 (mWWe:JPF K1 Ld)
 (mWPa:JPG K2 Le)
 (mWGb:sv! K6 Li)
 (mWHo:VX! AL! uz! vM Jy Ka)
 (mWDr:VX! Db! u0! vK J0 Kc)
 (mWTa:VX! Dc! u1! ux Jw J8)
 (mP1:Gl! "parted" Lw Kb! Zn fQ)
 (mR1:Jw! YP! Fy It! Aw! Zf Z5)
 (mC1:Jw! gy! uY HK! MR! Wy Yi)
 (hII:ea! CI gz! Uc Ry X7)
 (mIF:JQj Zr fK)
 (mIS:JQk Zq fM)
 (mIL:JPn Wm X6)
 (mIR:JPo Wk Xz)
 (mLH:JPf Wj Xy)
 (mWAs:Tj! AM! u2! uc G0 Hd)
 (mWAc:JPH K8 Lk)
 (mWAn:JPI K7 Lj)
 (mWLc:JPJ K4 Lg)
 (mWAa:sw! K9 Ll)
 (mWLa:JQY K5 Lh)
 (mUn:Gl! YQ! Gg Co! Vz Xf)
 (mRc:Gl! YR! Hx Co! Ze Z4)
 (hDI:ea! CD u3! vI Qj R3)
 (mSy:DP K CD "say" "Desk.say" yn b5! Rw R1)
 (mMo:WR! "move" "Desk.move" yw Wb Xr)
 (mAt:WR! "act" "Desk.act" ym Wz Yj)
 (mLk:WR! "look" u4! vJ Wf Xv)
 (mDh:DP K CD "held_by" "Desk.held_by" Joq [B7!,"a"] Zu fE)
 (mRw:Jw! g1! Jg O8! HL! V5 Xk)
 (mRd:Jw! YS! Hy O9! F1! Zd Z3)
 (mRn:Gl! u5! Hz F1! Zc Z2)
 (mWt:Gl! YT! Kl Cn! Vx Xd)
 (mWl:Gl! YU! Hr E1! Y8 Zy)
 (mLi:Gl! "listed" Ly HL! Wh Xw)
 (mLg:Gl! YV! Ks EB! Wi Xx)
 (mSm:Jw! "_law_stream" Jc5 YW! MS! V3 Xi)
 (mCs:Gl! g2! uq MT! Wu Ye)
 (mPk:Q_ K "_law_pick" yx fN! V7 Xm)
 (mHb:Jw! "_law_held_by" Jc8 PA! Sz! Wo X9)
 (mCo:Jw! "_law_come" yr E2! YX! Wv Yf)
 (mDe:Q_ K "_law_deed" yt oV! Ws Yd)
 (mDn:Jw! "_law_done" yu E2! DE! Wr Yc)
 (mLt:Gl! "_law_thing" Jc7 S0! Wc Xs)
 (mLl:Gl! "_law_listed" Ub YY! We Xu)
 (mLs:Jw! "_law_say" yv PB! S1! Wd Xt)
 (mRo:Gl! "_law_row_of" zM DE! V6 Xl)
 (mTo2:Jw! "_law_text_of" Jc4 DE! MU! La Lm)
 (mOt:Q_ K "_law_other" zL d7! Wa Xq)
 (mSa:Q_ K "_law_same" yy rO! V4 Xj)
 (hW:GI K PC! j8 aZ ae)
 (cC:qC K C)
 (nC0:II! DA!)
 (nC1:II! EF!)
 (nC2:II! EG!)
 (nC3:II! A6!)
 (nC4:II! Cl!)
 (nC5:II! Aw!)
 (nC6:II! DB!)
 (cCW:qC K CW)
 (nCW0:Vg! Ez!)
 (nCW1:Vg! Ey!)
 (nCW2:Vg! BW!)
 (nCW3:Vg! Ij!)
 (nCW4:Vg! MN!)
 (nCW5:Vg! O1!)
 (cCP:qC K CP)
 (nCP0:va! CP ML!)
 (nCP1:va! CP O0!)
 (cCI:qC K CI)
 (nCI0:mg! MV!)
 (nCI1:mg! Co!)
 (nCI2:mg! Iu!)
 (nCI3:mg! Kd!)
 (cCD:qC K CD)
 (nCD0:va! CD "world")
 (z0:Ei! "len")
 (z1:Ei! Fk!)
 (z2:Ei! Er!)
 (z3:Ei! "sorted")
 (z4:Ei! Sa!)
 (z5:Ei! B4!)
 (z6:Ei! DZ!)
 (z7:Ei! "max")
 (z8:Ei! G3!)
 (z9:Ei! "bool")
 (z10:Ei! "min")
 (z11:Ei! Ov!)
 (z12:Ei! Fq!)
 (z13:Ei! IU!),R
abbrev yb(P:Program)(w:World)(K:W.Frag)(mg:sw)(base:Heap)(C CW CP CI CD HE NH NJ OM MI NW NL NI NR FA cG Rx Qi cX Wp V8 Wx W9 Zs Zj Ww V2 Y9 Zo Zb Zh Zk Zv Zp Zt Wn Wq V1 Zg Zi Za Zl Zm V9 Rv Jz Gx Gz Gy Jx K3 Vy K1 K2 K6 Jy J0 Jw Zn Zf Wy Ry Zr Zq Wm Wk Wj G0 K8 K7 K4 K9 K5 Vz Ze Qj Rw Wb Wz Wf Zu V5 Zd Zc Vx Y8 Wh Wi V3 Wu V7 Wo Wv Ws Wr Wc We Wd V6 La Wa V4 aZ:Addr)(ck Xp R0 cj Ya Xn Yh Yk fJ Z9 Yg Xh Zz fO Z1 Z7 fX fC fN fF X8 Yb Xg Z6 Z8 Z0 fW fV Xo Rz Kb G9 Hb Ha J9 Lf Xe Ld Le Li Ka Kc J8 fQ Z5 Yi X7 fK fM X6 Xz Xy Hd Lk Lj Lg Ll Lh Xf Z4 R3 R1 Xr Yj Xv fE Xk Z3 Z2 Xd Zy Xw Xx Xi Ye Xm X9 Yf Yd Yc Xs Xu Xt Xl Lm Xq Xj ae:FuncData):B!:=Gl (JQy aZ ae) w K mg C CW CP CI CD HE NH NJ OM MI NW NL NI NR FA cG Rx Qi cX Wp V8 Wx W9 Zs Zj Ww V2 Y9 Zo Zb Zh Zk Zv Zp Zt Wn Wq V1 Zg Zi Za Zl Zm V9 Rv Jz Gx Gz Gy Jx K3 Vy K1 K2 K6 Jy J0 Jw Zn Zf Wy Ry Zr Zq Wm Wk Wj G0 K8 K7 K4 K9 K5 Vz Ze Qj Rw Wb Wz Wf Zu V5 Zd Zc Vx Y8 Wh Wi V3 Wu V7 Wo Wv Ws Wr Wc We Wd V6 La Wa V4 aZ ck Xp R0 cj Ya Xn Yh Yk fJ Z9 Yg Xh Zz fO Z1 Z7 fX fC fN fF X8 Yb Xg Z6 Z8 Z0 fW fV Xo Rz Kb G9 Hb Ha J9 Lf Xe Ld Le Li Ka Kc J8 fQ Z5 Yi X7 fK fM X6 Xz Xy Hd Lk Lj Lg Ll Lh Xf Z4 R3 R1 Xr Yj Xv fE Xk Z3 Z2 Xd Zy Xw Xx Xi Ye Xm X9 Yf Yd Yc Xs Xu Xt Xl Lm Xq Xj ae
@[reducible]abbrev Ev:UF:=Program×World×W.Frag×JTJ×Heap×Addr×Addr×Addr×xU! (xU! (xU! ((RF!)×(No->K!))))
abbrev uS(e:Ev):B!:=yb e.1 e.2.1 e.2.2.1 e.2.2.2.1 e.2.2.2.2.1 e.2.2.2.2.2.1 e.2.2.2.2.2.2.1 e.2.2.2.2.2.2.2.1 e.2.2.2.2.2.2.2.2.1 e.2.2.2.2.2.2.2.2.2.1 e.2.2.2.2.2.2.2.2.2.2.1 e.2.2.2.2.2.2.2.2.2.2.2.1 e.2.2.2.2.2.2.2.2.2.2.2.2.1 e.2.2.2.2.2.2.2.2.2.2.2.2.2.1 e.2.2.2.2.2.2.2.2.2.2.2.2.2.2.1 e.2.2.2.2.2.2.2.2.2.2.2.2.2.2.2.1 e.2.2.2.2.2.2.2.2.2.2.2.2.2.2.2.2.1 e.2.2.2.2.2.2.2.2.2.2.2.2.2.2.2.2.2.1 e.2.2.2.2.2.2.2.2.2.2.2.2.2.2.2.2.2.2.1 e.2.2.2.2.2.2.2.2.2.2.2.2.2.2.2.2.2.2.2.1 (O! 0) (O! 1) (O! 2) (O! 3) (O! 4) (O! 5) (O! 6) (O! 7) (O! 8) (O! 9) (O! 10) (O! 11) (O! 12) (O! 13) (O! 14) (O! 15) (O! 16) (O! 17) (O! 18) (O! 19) (O! 20) (O! 21) (O! 22) (O! 23) (O! 24) (O! 25) (O! 26) (O! 27) (O! 28) (O! 29) (O! 30) (O! 31) (O! 32) (O! 33) (O! 34) (O! 35) (O! 36) (O! 37) (O! 38) (O! 39) (O! 40) (O! 41) (O! 42) (O! 43) (O! 44) (O! 45) (O! 46) (O! 47) (O! 48) (O! 49) (O! 50) (O! 51) (O! 52) (O! 53) (O! 54) (O! 55) (O! 56) (O! 57) (O! 58) (O! 59) (O! 60) (O! 61) (O! 62) (O! 63) (O! 64) (O! 65) (O! 66) (O! 67) (O! 68) (O! 69) (O! 70) (O! 71) (O! 72) (O! 73) (O! 74) (O! 75) (O! 76) (O! 77) (O! 78) (O! 79) (O! 80) (O! 81) (O! 82) (O! 83) (O! 84) (O! 85) (O! 86) (O! 87) (M! 0) (M! 1) (M! 2) (M! 3) (M! 4) (M! 5) (M! 6) (M! 7) (M! 8) (M! 9) (M! 10) (M! 11) (M! 12) (M! 13) (M! 14) (M! 15) (M! 16) (M! 17) (M! 18) (M! 19) (M! 20) (M! 21) (M! 22) (M! 23) (M! 24) (M! 25) (M! 26) (M! 27) (M! 28) (M! 29) (M! 30) (M! 31) (M! 32) (M! 33) (M! 34) (M! 35) (M! 36) (M! 37) (M! 38) (M! 39) (M! 40) (M! 41) (M! 42) (M! 43) (M! 44) (M! 45) (M! 46) (M! 47) (M! 48) (M! 49) (M! 50) (M! 51) (M! 52) (M! 53) (M! 54) (M! 55) (M! 56) (M! 57) (M! 58) (M! 59) (M! 60) (M! 61) (M! 62) (M! 63) (M! 64) (M! 65) (M! 66) (M! 67) (M! 68) (M! 69) (M! 70) (M! 71) (M! 72) (M! 73) (M! 74) (M! 75) (M! 76) (M! 77) (M! 78) (M! 79) (M! 80) (M! 81) (M! 82) (M! 83) (M! 84) (M! 85) (M! 86) (M! 87)
def Ju0:Nonempty Ev:=⟨default,⟨λ_ _=>0,{ strHash:=bT!,shareClass:=bT!,mergeTok:=id,idOf:=bT!,idOfShared:=λ_ _=>0,followText:=λ_=>false,idOfImm:=bT! }⟩,[],Oh!,default,0,0,0,0,0,0,0,0,0,0,0,0,0,0,0,bT!,λ_=>default⟩
@[irreducible] noncomputable abbrev e0:Ev:=@Classical.epsilon Ev Ju0 λe=>¬uS e
def Jtu{α:UF}(ne:Nonempty α)(p:JG! α)(x:α)(e:x=@Classical.epsilon α ne λa=>¬p a)(h:p x)(a:α):p a:=u6! λn=>by subst e;show Classical.epsilon_spec (p:=λa=>¬p a) ⟨a,n⟩ h
def Jqn(h:uS e0)(e:Ev):uS e:=Jtu Ju0 uS e0 (by unfold e0;rfl) h e
noncomputable section
abbrev P:Program:=e0.1
abbrev w:World:=e0.2.1
abbrev K:W.Frag:=e0.2.2.1
abbrev mg:JTJ:=e0.2.2.2.1
abbrev base:Eo!:=e0.2.2.2.2.1
abbrev C:F!:=e0.2.2.2.2.2.1
abbrev CW:F!:=e0.2.2.2.2.2.2.1
abbrev CP:F!:=e0.2.2.2.2.2.2.2.1
abbrev CI:F!:=e0.2.2.2.2.2.2.2.2.1
abbrev CD:F!:=e0.2.2.2.2.2.2.2.2.2.1
abbrev HE:F!:=e0.2.2.2.2.2.2.2.2.2.2.1
abbrev NH:F!:=e0.2.2.2.2.2.2.2.2.2.2.2.1
abbrev NJ:F!:=e0.2.2.2.2.2.2.2.2.2.2.2.2.1
abbrev OM:F!:=e0.2.2.2.2.2.2.2.2.2.2.2.2.2.1
abbrev MI:F!:=e0.2.2.2.2.2.2.2.2.2.2.2.2.2.2.1
abbrev NW:F!:=e0.2.2.2.2.2.2.2.2.2.2.2.2.2.2.2.1
abbrev NL:F!:=e0.2.2.2.2.2.2.2.2.2.2.2.2.2.2.2.2.1
abbrev NI:F!:=e0.2.2.2.2.2.2.2.2.2.2.2.2.2.2.2.2.2.1
abbrev NR:F!:=e0.2.2.2.2.2.2.2.2.2.2.2.2.2.2.2.2.2.2.1
abbrev FA:F!:=e0.2.2.2.2.2.2.2.2.2.2.2.2.2.2.2.2.2.2.2.1
abbrev cG:F!:=P! 0
abbrev Rx:F!:=P! 1
abbrev Qi:F!:=P! 2
abbrev cX:F!:=P! 3
abbrev Wp:F!:=P! 4
abbrev V8:F!:=P! 5
abbrev Wx:F!:=P! 6
abbrev W9:F!:=P! 7
abbrev Zs:F!:=P! 8
abbrev Zj:F!:=P! 9
abbrev Ww:F!:=P! 10
abbrev V2:F!:=P! 11
abbrev Y9:F!:=P! 12
abbrev Zo:F!:=P! 13
abbrev Zb:F!:=P! 14
abbrev Zh:F!:=P! 15
abbrev Zk:F!:=P! 16
abbrev Zv:F!:=P! 17
abbrev Zp:F!:=P! 18
abbrev Zt:F!:=P! 19
abbrev Wn:F!:=P! 20
abbrev Wq:F!:=P! 21
abbrev V1:F!:=P! 22
abbrev Zg:F!:=P! 23
abbrev Zi:F!:=P! 24
abbrev Za:F!:=P! 25
abbrev Zl:F!:=P! 26
abbrev Zm:F!:=P! 27
abbrev V9:F!:=P! 28
abbrev Rv:F!:=P! 29
abbrev Jz:F!:=P! 30
abbrev Gx:F!:=P! 31
abbrev Gz:F!:=P! 32
abbrev Gy:F!:=P! 33
abbrev Jx:F!:=P! 34
abbrev K3:F!:=P! 35
abbrev Vy:F!:=P! 36
abbrev K1:F!:=P! 37
abbrev K2:F!:=P! 38
abbrev K6:F!:=P! 39
abbrev Jy:F!:=P! 40
abbrev J0:F!:=P! 41
abbrev Jw:F!:=P! 42
abbrev Zn:F!:=P! 43
abbrev Zf:F!:=P! 44
abbrev Wy:F!:=P! 45
abbrev Ry:F!:=P! 46
abbrev Zr:F!:=P! 47
abbrev Zq:F!:=P! 48
abbrev Wm:F!:=P! 49
abbrev Wk:F!:=P! 50
abbrev Wj:F!:=P! 51
abbrev G0:F!:=P! 52
abbrev K8:F!:=P! 53
abbrev K7:F!:=P! 54
abbrev K4:F!:=P! 55
abbrev K9:F!:=P! 56
abbrev K5:F!:=P! 57
abbrev Vz:F!:=P! 58
abbrev Ze:F!:=P! 59
abbrev Qj:F!:=P! 60
abbrev Rw:F!:=P! 61
abbrev Wb:F!:=P! 62
abbrev Wz:F!:=P! 63
abbrev Wf:F!:=P! 64
abbrev Zu:F!:=P! 65
abbrev V5:F!:=P! 66
abbrev Zd:F!:=P! 67
abbrev Zc:F!:=P! 68
abbrev Vx:F!:=P! 69
abbrev Y8:F!:=P! 70
abbrev Wh:F!:=P! 71
abbrev Wi:F!:=P! 72
abbrev V3:F!:=P! 73
abbrev Wu:F!:=P! 74
abbrev V7:F!:=P! 75
abbrev Wo:F!:=P! 76
abbrev Wv:F!:=P! 77
abbrev Ws:F!:=P! 78
abbrev Wr:F!:=P! 79
abbrev Wc:F!:=P! 80
abbrev We:F!:=P! 81
abbrev Wd:F!:=P! 82
abbrev V6:F!:=P! 83
abbrev La:F!:=P! 84
abbrev Wa:F!:=P! 85
abbrev V4:F!:=P! 86
abbrev aZ:F!:=P! 87
abbrev ck:K!:=N! 0
abbrev Xp:K!:=N! 1
abbrev R0:K!:=N! 2
abbrev cj:K!:=N! 3
abbrev Ya:K!:=N! 4
abbrev Xn:K!:=N! 5
abbrev Yh:K!:=N! 6
abbrev Yk:K!:=N! 7
abbrev fJ:K!:=N! 8
abbrev Z9:K!:=N! 9
abbrev Yg:K!:=N! 10
abbrev Xh:K!:=N! 11
abbrev Zz:K!:=N! 12
abbrev fO:K!:=N! 13
abbrev Z1:K!:=N! 14
abbrev Z7:K!:=N! 15
abbrev fX:K!:=N! 16
abbrev fC:K!:=N! 17
abbrev fN:K!:=N! 18
abbrev fF:K!:=N! 19
abbrev X8:K!:=N! 20
abbrev Yb:K!:=N! 21
abbrev Xg:K!:=N! 22
abbrev Z6:K!:=N! 23
abbrev Z8:K!:=N! 24
abbrev Z0:K!:=N! 25
abbrev fW:K!:=N! 26
abbrev fV:K!:=N! 27
abbrev Xo:K!:=N! 28
abbrev Rz:K!:=N! 29
abbrev Kb:K!:=N! 30
abbrev G9:K!:=N! 31
abbrev Hb:K!:=N! 32
abbrev Ha:K!:=N! 33
abbrev J9:K!:=N! 34
abbrev Lf:K!:=N! 35
abbrev Xe:K!:=N! 36
abbrev Ld:K!:=N! 37
abbrev Le:K!:=N! 38
abbrev Li:K!:=N! 39
abbrev Ka:K!:=N! 40
abbrev Kc:K!:=N! 41
abbrev J8:K!:=N! 42
abbrev fQ:K!:=N! 43
abbrev Z5:K!:=N! 44
abbrev Yi:K!:=N! 45
abbrev X7:K!:=N! 46
abbrev fK:K!:=N! 47
abbrev fM:K!:=N! 48
abbrev X6:K!:=N! 49
abbrev Xz:K!:=N! 50
abbrev Xy:K!:=N! 51
abbrev Hd:K!:=N! 52
abbrev Lk:K!:=N! 53
abbrev Lj:K!:=N! 54
abbrev Lg:K!:=N! 55
abbrev Ll:K!:=N! 56
abbrev Lh:K!:=N! 57
abbrev Xf:K!:=N! 58
abbrev Z4:K!:=N! 59
abbrev R3:K!:=N! 60
abbrev R1:K!:=N! 61
abbrev Xr:K!:=N! 62
abbrev Yj:K!:=N! 63
abbrev Xv:K!:=N! 64
abbrev fE:K!:=N! 65
abbrev Xk:K!:=N! 66
abbrev Z3:K!:=N! 67
abbrev Z2:K!:=N! 68
abbrev Xd:K!:=N! 69
abbrev Zy:K!:=N! 70
abbrev Xw:K!:=N! 71
abbrev Xx:K!:=N! 72
abbrev Xi:K!:=N! 73
abbrev Ye:K!:=N! 74
abbrev Xm:K!:=N! 75
abbrev X9:K!:=N! 76
abbrev Yf:K!:=N! 77
abbrev Yd:K!:=N! 78
abbrev Yc:K!:=N! 79
abbrev Xs:K!:=N! 80
abbrev Xu:K!:=N! 81
abbrev Xt:K!:=N! 82
abbrev Xl:K!:=N! 83
abbrev Lm:K!:=N! 84
abbrev Xq:K!:=N! 85
abbrev Xj:K!:=N! 86
abbrev ae:K!:=N! 87
open E
structure Txt:B! where
 cl:WO!
 nN:QM! DA!
 nM:QM! EF!
 nT:QM! EG!
 nH:QM! A6!
 nO:QM! Cl!
 nL:QM! Aw!
 nR:QM! DB!
 eF:Qc! "House" C
 q_:J4! "NotHeld" NJ
 q8:J4! "NotNear" OM
 cMI:J4! "Missing" MI
 cNW:J4! "NoWeight" NW
 len:Vf!
 range:EV! Fk!
 tuple:JDF
 sorted:mf!
 VL:EV! Sa!
structure Pn:B! where
 cl:XJ K CP
 nL:GF K CP ML!
 nW:GF K CP O0!
 eF:Qc! "Post" CP
 cNL:J4! "NoLetter" NL
 list:JDE
structure Ga:B! where
 cl:XJ K CW
 nS:Vs! Ez!
 nH:Vs! Ey!
 nP:Vs! BW!
 nI:Vs! Ij!
 nF:Vs! MN!
 nE:Vs! O1!
 eF:Qc! "World" CW
 cNH:J4! "NoHouse" NH
structure uJ:B! where
 dict:EV! DZ!
 list:JDE
 max:EV! "max"
structure Jzq:B! where
 tuple:JDF
 sorted:mf!
structure gm:B! where
 cl:XJ K CI
 nM:GF K CI MV!
 nS:GF K CI Co!
 nF:GF K CI Iu!
 nT:GF K CI Kd!
 eF:Qc! "Inquiry" CI
structure cq(cls:Addr)(n:Nat):B! where
 lt:n<8
 sub:Rw! ww
 isX:pM K ww
 k0:OA! NH 0
 k1:OA! NJ 1
 k2:OA! OM 2
 k3:OA! MI 3
 k4:OA! NW 4
 k5:OA! NL 5
 k6:OA! NI 6
 k7:OA! NR 7
 kV:R8! ww
structure jD:B! where
 cNR:J4! "NoRow" NR
 len:Vf!
 int:EV! G3!
 zip:EV! Fq!
 str:EV! IU!
structure yd:B! where
 cl:XJ K CD
 nW:GF K CD "world"
 eF:Qc! "Desk" CD
structure Jrq:B! where
 mg:Qc! "FORMS" FA
 at_:JRZ
def C5{n:Nat}(h:n<=20000):gG!:=nR!
@[reducible]abbrev EL := FR P w K mg AW! XM
@[reducible]abbrev GX := FR P w K mg AW! LI!
structure GG:B! where
 T:Txt
 TW:Ga
 TP:Pn
 TI:gm
 TF:Jzq
 Tx:uJ
 TR:jD
 TK:yd
 FK:Jrq
 y5:JDE
 y1:EV! Fk!
 y7:EV! "max"
 y0:Vf!
 y2:JDF
 y3:mf!
 vZ:EV! "min"
 vY:EV! Ov!
 y8:EV! G3!
 y4:EV! Sa!
 rm:EV! IU!
 FI:Nk! gu! pZ cG ck
 bI:P0! ck Q4!
 pJ:FZ! C cG
 vQ:Nk! gv! Ua Rx Xp
 yO:P0! Xp DG!
 kh:FZ! CP Rx
 vP:Nk! ut! vN Qi R0
 tq:JEQ R0
 iH:FZ! CW Qi
 mM:JPB cX cj
 mFr:JPj Wp Ya
 mPa:JQT V8 Xn
 mCa:JPO Wx Yh
 mAd:JPP W9 Yk
 mGi:JPQ Zs fJ
 mPs:JQU Zj Z9
 mCl:JPC Ww Yg
 mSt:sU! V2 Xh
 mTo:DP K C Sy! gw! p5 Kn! Y9 Zz
 mNe:JSL Zo fO
 mSp:JOw Zb Z1
 mQH:JSa Zh Z7
 mPR:JPk Zk fX
 mAR:sY! Zv fC
 mLo:sg! Zp fN
 mGb:sV! Zt fF
 mHo:JPL Wn X8
 mDr:JPM Wq Yb
 mTa:JPN V1 Xg
 mQN:JTG Zg Z6
 mQG:sX! Zi Z8
 mTi:JPD Za Z0
 mPP:JSb Zl fW
 mPL:JQg Zm fV
 mPT:JQh V9 Xo
 mWM:Tj! C9! uu! uv Rv Rz
 mWFr:DP K CW Dd! uv! vL RN! Jz Kb
 mWSe:DP K CW Ch! uw! uw ar! Gx G9
 mWCl:Tj! Ci! ux! Sg Gz Hb
 mWDe:DP K CW gx! uy! Lv K0! Gy Ha
 mWSt:JO4 Jx J9
 mWLe:JQX K3 Lf
 mWH:JR6 Vy Xe
 mWWe:JPF K1 Ld
 mWPa:JPG K2 Le
 mWGb:sv! K6 Li
 mWHo:VX! AL! uz! vM Jy Ka
 mWDr:VX! Db! u0! vK J0 Kc
 mWTa:VX! Dc! u1! ux Jw J8
 mP1:JO1 Zn fQ
 mR1:JQi Zf Z5
 mC1:Jh! gy! uY HK! MR! Wy Yi
 vR:Nk! gz! Uc Ry X7
 yP:P0! X7 Q5!
 ki:FZ! CI Ry
 mIF:JQj Zr fK
 mIS:JQk Zq fM
 mIL:JPn Wm X6
 mIR:JPo Wk Xz
 mLH:JPf Wj Xy
 mWAs:Tj! AM! u2! uc G0 Hd
 mWAc:JPH K8 Lk
 mWAn:JPI K7 Lj
 mWLc:JPJ K4 Lg
 mWAa:sw! K9 Ll
 mWLa:JQY K5 Lh
 mUn:mz! YQ! Gg Vz Xf
 mRc:mz! YR! Hx Ze Z4
 vS:Nk! u3! vI Qj R3
 yQ:JEQ R3
 kj:FZ! CD Qj
 mSy:DP K CD "say" "Desk.say" yn b5! Rw R1
 mMo:WR! "move" "Desk.move" yw Wb Xr
 mAt:WR! "act" "Desk.act" ym Wz Yj
 mLk:WR! "look" u4! vJ Wf Xv
 mDh:DP K CD "held_by" "Desk.held_by" Joq [B7!,"a"] Zu fE
 mRw:Jh! g1! Jg O8! HL! V5 Xk
 mRd:Jh! YS! Hy O9! F1! Zd Z3
 mRn:JO2 Zc Z2
 mWt:JN! YT! Kl Cn! Vx Xd
 mWl:JN! YU! Hr E1! Y8 Zy
 mLi:JO3 Wh Xw
 mLg:JN! YV! Ks EB! Wi Xx
 mSm:Jh! "_law_stream" Jc5 YW! MS! V3 Xi
 mCs:JN! g2! uq MT! Wu Ye
 mPk:NK K mg "_law_pick" yx fN! V7 Xm
 mHb:Jh! "_law_held_by" Jc8 PA! Sz! Wo X9
 mCo:Jh! "_law_come" yr E2! YX! Wv Yf
 mDe:NK K mg "_law_deed" yt oV! Ws Yd
 mDn:Jh! "_law_done" yu E2! DE! Wr Yc
 mLt:JN! "_law_thing" Jc7 S0! Wc Xs
 mLl:JN! "_law_listed" Ub YY! We Xu
 mLs:Jh! "_law_say" yv PB! S1! Wd Xt
 mRo:JN! "_law_row_of" zM DE! V6 Xl
 mTo2:Jh! "_law_text_of" Jc4 DE! MU! La Lm
 mOt:NK K mg "_law_other" zL d7! Wa Xq
 mSa:NK K mg "_law_same" yy rO! V4 Xj
 FW:HH K PC! PC! j8 aZ ae
 X0:cq NH 0
 X1:cq NJ 1
 X2:cq OM 2
 X3:cq MI 3
 X4:cq NW 4
 X5:cq NL 5
 cHE:J4! "HoldError" HE
 cNI:J4! "NoInquiry" NI
 cNR:J4! "NoRow" NR
def Jy5(k:GG->EL 12 aZ ae jJ! (Qz K)):yb P w K mg AW! C CW CP CI CD HE NH NJ OM MI NW NL NI NR FA cG Rx Qi cX Wp V8 Wx W9 Zs Zj Ww V2 Y9 Zo Zb Zh Zk Zv Zp Zt Wn Wq V1 Zg Zi Za Zl Zm V9 Rv Jz Gx Gz Gy Jx K3 Vy K1 K2 K6 Jy J0 Jw Zn Zf Wy Ry Zr Zq Wm Wk Wj G0 K8 K7 K4 K9 K5 Vz Ze Qj Rw Wb Wz Wf Zu V5 Zd Zc Vx Y8 Wh Wi V3 Wu V7 Wo Wv Ws Wr Wc We Wd V6 La Wa V4 aZ ck Xp R0 cj Ya Xn Yh Yk fJ Z9 Yg Xh Zz fO Z1 Z7 fX fC fN fF X8 Yb Xg Z6 Z8 Z0 fW fV Xo Rz Kb G9 Hb Ha J9 Lf Xe Ld Le Li Ka Kc J8 fQ Z5 Yi X7 fK fM X6 Xz Xy Hd Lk Lj Lg Ll Lh Xf Z4 R3 R1 Xr Yj Xv fE Xk Z3 Z2 Xd Zy Xw Xx Xi Ye Xm X9 Yf Yd Yc Xs Xu Xt Xl Lm Xq Xj ae:=by intro h X Gn aC aCW aCP aCI aCD aHE aNH aNHd aNNr aMI aNW aNL aNI aNR q3 q4 xNH xNHd xNNr xMI xNW xNL xNI xNR xHE sNH qaNH qbNH qcNH qdNH qeNH tNHNHd tNHNNr tNHMI tNHNW tNHNL tNHNI tNHNR tNHV sNHd qaNHd qbNHd qcNHd qdNHd qeNHd tNHdNH tNHdNNr tNHdMI tNHdNW tNHdNL tNHdNI tNHdNR tNHdV sNNr qaNNr qbNNr qcNNr qdNNr qeNNr tNNrNH tNNrNHd tNNrMI tNNrNW tNNrNL tNNrNI tNNrNR tNNrV sMI qaMI qbMI qcMI qdMI qeMI tMINH tMINHd tMINNr tMINW tMINL tMINI tMINR tMIV sNW qaNW qbNW qcNW qdNW qeNW tNWNH tNWNHd tNWNNr tNWMI tNWNL tNWNI tNWNR tNWV sNL qaNL qbNL qcNL qdNL qeNL tNLNH tNLNHd tNLNNr tNLMI tNLNW tNLNI tNLNR tNLV aFA hF hI hPI hWI mM mFr mPa mCa mAd mGi mPs mCl mSt mTo mNe mSp mQH mPR mAR mLo mGb mHo mDr mTa mQN mQG mTi mPP mPL mPT mWM mWFr mWSe mWCl mWDe mWSt mWLe mWH mWWe mWPa mWGb mWHo mWDr mWTa mP1 mR1 mC1 hII mIF mIS mIL mIR mLH mWAs mWAc mWAn mWLc mWAa mWLa mUn mRc hDI mSy mMo mAt mLk mDh mRw mRd mRn mWt mWl mLi mLg mSm mCs mPk mHb mCo mDe mDn mLt mLl mLs mRo mTo2 mOt mSa hW cC nC0 nC1 nC2 nC3 nC4 nC5 nC6 cCW nCW0 nCW1 nCW2 nCW3 nCW4 nCW5 cCP nCP0 nCP1 cCI nCI0 nCI1 nCI2 nCI3 cCD nCD0 z0 z1 z2 z3 z4 z5 z6 z7 z8 z9 z10 z11 z12 z13;have y0:=Ej! z0;have y1:=Ej! z1;have y2:=Ej! z2;have y3:=Ej! z3;have y4:=Ej! z4;have y5:=Ej! z5;have y6:=Ej! z6;have y7:=Ej! z7;have y8:=Ej! z8;have y9:=Ej! z9;have vZ:=Ej! z10;have vY:=Ej! z11;have y12:=Ej! z12;have rm:=Ej! z13;have gC:=Dy! aC;have⟨pgC,hdC,poC,saC,mkC,kcC⟩:=cC;have gCW:=Dy! aCW;have⟨JAi,JBM,JAe,JAT,JAy,JA5⟩:=cCW;have gCP:=Dy! aCP;have⟨JAj,JBN,JAf,JAU,JAz,JA6⟩:=cCP;have gCI:=Dy! aCI;have⟨JAk,JBO,JAg,JAV,JA0,JA7⟩:=cCI;have gCD:=Dy! aCD;have⟨JAl,JBP,JAh,JAW,JA1,JA8⟩:=cCD;have gHE:=Dy! aHE;have gNH:=Dy! aNH;have JBV:=Dy! aNHd;have JBU:=Dy! aNNr;have gMI:=Dy! aMI;have gNW:=Dy! aNW;have gNL:=Dy! aNL;have gNI:=Dy! aNI;have gNR:=Dy! aNR;have gFA:=Dy! aFA;have⟨aI,iI,FI⟩:=hI;have bI:=fZ! Q4! aI iI FI;have pJ:FZ! C cG:=⟨mkC,aI,iI,kcC⟩;have⟨aPI,iPI,vQ⟩:=hPI;have yO:=fZ! DG! aPI iPI vQ;have kh:FZ! CP Rx:=⟨JAz,aPI,iPI,JA6⟩;have⟨aWI,iWI,vP⟩:=hWI;have tq:=fZ! H8! aWI iWI vP;have iH:FZ! CW Qi:=⟨JAy,aWI,iWI,JA5⟩;have⟨aII,iII,vR⟩:=hII;have yP:=fZ! Q5! aII iII vR;have ki:FZ! CI Ry:=⟨JA0,aII,iII,JA7⟩;have⟨aDI,iDI,vS⟩:=hDI;have yQ:=fZ! H8! aDI iDI vS;have kj:FZ! CD Qj:=⟨JA1,aDI,iDI,JA8⟩;show k ⟨⟨⟨pgC,hdC,poC,saC⟩,nC0,nC1,nC2,nC3,nC4,nC5,nC6,gC,⟨JBV,xNHd⟩,⟨JBU,xNNr⟩,⟨gMI,xMI⟩,⟨gNW,xNW⟩,y0,y1,y2,y3,y4⟩,⟨⟨JAi,JBM,JAe,JAT⟩,nCW0,nCW1,nCW2,nCW3,nCW4,nCW5,gCW,⟨gNH,xNH⟩⟩,⟨⟨JAj,JBN,JAf,JAU⟩,nCP0,nCP1,gCP,⟨gNL,xNL⟩,y5⟩,⟨⟨JAk,JBO,JAg,JAV⟩,nCI0,nCI1,nCI2,nCI3,gCI⟩,⟨y2,y3⟩,⟨y6,y5,y7⟩,⟨⟨gNR,xNR⟩,y0,y8,y12,rm⟩,⟨⟨JAl,JBP,JAh,JAW⟩,nCD0,gCD⟩,⟨gFA,hF P⟩,y5,y1,y7,y0,y2,y3,vZ,vY,y8,y4,rm,FI,bI,pJ,vQ,yO,kh,vP,tq,iH,mM,mFr,mPa,mCa,mAd,mGi,mPs,mCl,mSt,mTo,mNe,mSp,mQH,mPR,mAR,mLo,mGb,mHo,mDr,mTa,mQN,mQG,mTi,mPP,mPL,mPT,mWM,mWFr,mWSe,mWCl,mWDe,mWSt,mWLe,mWH,mWWe,mWPa,mWGb,mWHo,mWDr,mWTa,Ap! mP1.SR,Ap! mR1.SR,Ap! mC1.SR,vR,yP,ki,mIF,mIS,mIL,mIR,mLH,mWAs,mWAc,mWAn,mWLc,mWAa,mWLa,Ap! mUn.SR,Ap! mRc.SR,vS,yQ,kj,mSy,mMo,mAt,mLk,mDh,Ap! mRw.SR,Ap! mRd.SR,Ap! mRn.SR,Ap! mWt.SR,Ap! mWl.SR,Ap! mLi.SR,Ap! mLg.SR,Ap! mSm.SR,Ap! mCs.SR,Ap! mPk.SR,Ap! mHb.SR,Ap! mCo.SR,Ap! mDe.SR,Ap! mDn.SR,Ap! mLt.SR,Ap! mLl.SR,Ap! mLs.SR,Ap! mRo.SR,Ap! mTo2.SR,Ap! mOt.SR,Ap! mSa.SR,hW.fn,XG! sNH qaNH qbNH qcNH qdNH qeNH qdNH Im tNHNHd tNHNNr tNHMI tNHNW tNHNL tNHNI tNHNR tNHV,XG! sNHd qaNHd qbNHd qcNHd qdNHd qeNHd qdNHd tNHdNH Im tNHdNNr tNHdMI tNHdNW tNHdNL tNHdNI tNHdNR tNHdV,XG! sNNr qaNNr qbNNr qcNNr qdNNr qeNNr qdNNr tNNrNH tNNrNHd Im tNNrMI tNNrNW tNNrNL tNNrNI tNNrNR tNNrV,XG! sMI qaMI qbMI qcMI qdMI qeMI qdMI tMINH tMINHd tMINNr Im tMINW tMINL tMINI tMINR tMIV,XG! sNW qaNW qbNW qcNW qdNW qeNW qdNW tNWNH tNWNHd tNWNNr tNWMI Im tNWNL tNWNI tNWNR tNWV,XG! sNL qaNL qbNL qcNL qdNL qeNL qdNL tNLNH tNLNHd tNLNNr tNLMI tNLNW Im tNLNI tNLNR tNLV,⟨gHE,xHE⟩,⟨gNI,xNI⟩,⟨gNR,xNR⟩⟩
inductive vB(vs:C!)(H:Hp)(Q:VK)(E:XK):B!
 | mk (p t:Addr) (G:CN) (th:T2) (_:Jv!) (_:bi) (_:Gq!) (_:JCp (th.1=G.BQ))
inductive Oc(vs:C!)(H:Hp)(Q:VK)(E:XK):B!
 | mk (p t:Addr) (G:CN) (th:T2) (_:Jv!) (_:bi) (_:Gq!) (_:((th∈G.hand/\Q Av! H)\/(th∉G.hand/\JL! NJ)))
inductive Jco(vs:C!)(H:Hp)(Q:VK)(E:XK):B!
 | mk (p t:Addr) (G:CN) (th:T2) (_:Jv!) (_:bi) (_:Gq!) (_:((th.1=G.BQ/\Q Av! H)\/(th.1≠G.BQ/\JL! OM)))
abbrev zX(G:CN)(ta tb:T2)(good:AP! F! G!)(nh nn mi:B!):B! :=
 (g3!/\nh)\/(BZ!/\bj!/\nn)\/(BZ!/\Je!/\HK λ(a:Addr)(hl:List T2)=>cp! (H!=ta)=D! (ta,a,hl)/\((tb∉hl/\mi)\/(tb∈hl/\good a hl)))
inductive Tt(vs:C!)(H:Hp)(Q:VK)(E:XK):B!
 | mk (p a b:Addr) (G:CN) (ta tb:T2) (_:rC!) (_:bi) (_:ND!) (_:BA!) (_:JRW (λ_ _=>Q Av! H))
open S
def scN:e3! Kr:={}
def zu(F:a! "is_near" "House.is_near" Kr)(T:Txt):JDj vB:=by show G? scN;show DC?;show A?;show B?;show r? (Jwa (Jwd GF! (Aq Rs A!)));show P? ⟨t,_,0,_,A!,A!,Ac! ht,A!,_,A!,p,C,dx,_,_,A!,hp,v!,T.nN,Jbp G,_,_,A!,A!,k⟩
def Gv(hd:JMl)(ht:Gq!):WV! (JUa (th∈l)):=JE0 Hi
def J0w:e3! Hf:={}
def Ov(F:a! "need_in_hand" "House.need_in_hand" Hf)(T:Txt):i4! f fd Oc:=by
 show b? J0w;show DC?;show A?;show K?;show B?;show Ds? (JHl w! WP T.q_);show Is? dx hp Iv! (F9 G) G.h _ (Gv S.dh ht);show G8?;.rw[AE h];show Bn k
 .rw[AD h];show B3 k
open E
open S
def J0v:e3! Kq:={}
def Jgl(F:a! "need_near" "House.need_near" Kq)(T:Txt)(M1:R7!):nF! Kn! Jco:=by
 have G1:i4! f1 gT vB:=JHH zu M1.fn;show b? J0v;show DC?;show A?;show K?;show B?;show Ds? (x5! (zJ (F1 (fB! E3! G1 EI!))) T.q8);show⟨a?,dx,_,A!,hp,Be!,_,A!,p,t,G,th,A!,S,ht,_,A!,?_⟩;show G8?;.rw[AR h];show Bn k
 .rw[AL h];show B3 k
def Jyb:q1! Lx:={}
def Qe(S:bi)(ht:Gq!)(f:JG7 (cp! UL!)):wP! na JLo/\JFN hl/\(th,a,hl)∈G.holds:=by have:=wf! S.dl;show w? JUB f;show⟨this,S.hl _ (BI f),BI f⟩
def Jba(F:a! "need_holding" "House.need_holding" Lx)(T:Txt)(M1:R7!)(M2:W7!)(M3:rw!):Vx! GI! Tt:=by
 show FP?;have G3:Bs! 2 f3 oj Kn! Jco:=Jgl M3.fn T M1;show b? Jyb;show GA?;show A?;show K?;show Q?;show B?;show KE? (SC! (fB! Iw! G3 Ix!) (JHl EQ WP! T.cMI));show HN? a ta ha;rcases k with⟨h,k⟩|⟨h,h2,k⟩|⟨h,h2,ad,hl,YI,k⟩;.show D1? h
 .show E? ⟨h,_,A!,p,dx,_,A!,hp,Be!,_,A!,p,a,G,ta,A!,S,ha,GM! h2 k⟩
 .show J7?;show S! ⟨h,_,A!,p,dx,_,A!,hp,Be!,_,A!,p,a,G,ta,A!,S,ha,GE (Bv! h2)⟩;show⟨F?,H5?,hp,v!,Di!,E7 G,_,A!,na,_,A!,g1,ad,_,A!,Gv g2 hb,_,A!,?_⟩;rcases k with⟨h3,k⟩|⟨h3,k⟩;(.rw[AD h3];show B3 k);.rw[AE h3];show Bn k
open E
open S
abbrev Done(p:Addr)(G:CN)(H:Hp)(G':CN)(k:Gi!):B!:=∀H',ap! G'->Jj! H'->k H'
inductive u_(vs:C!)(H:Hp)(Q:VK)(E:XK):B!
 | mk (p a b:Addr) (G:CN) (ta tb:T2) (_:rC!) (_:bi) (_:ND!) (_:BA!) (_:((¬(BZ!/\B8!)/\JL! NJ)\/(BZ!/\B8!/\bj!/\JL! OM)\/(BZ!/\B8!/\Je!/\HK λ(ad:Addr)(hl:List T2)=>cp! (H!=ta)=D! (ta,ad,hl)/\hl.length<=500/\IO! (JLG MZ ad nB!))))
inductive uy(vs:C!)(H:Hp)(Q:VK)(E:XK):B!
 | mk (p a b:Addr) (G:CN) (ta tb:T2) (_:rC!) (_:bi) (_:ND!) (_:BA!) (_:JRW (λad hl=>IO! (JLG MZ ad oh!)))
inductive vC(vs:C!)(H:Hp)(Q:VK)(E:XK):B!
 | mk (p a b:Addr) (G:CN) (ta tb:T2) (_:rC!) (_:bi) (_:ND!) (_:BA!) (_:bk!) (_:JRW (λ_ _=>IO! { G with BF:=Hd!,hand:=Hu! }))
inductive uz(vs:C!)(H:Hp)(Q:VK)(E:XK):B!
 | mk (p b:Addr) (G:CN) (tb:T2) (_:Y8! B9!) (_:bi) (_:BA!) (_:JJX (B8!/\IO! { G with BF:=Hd!,hand:=hh! Iw }))
def Fi(hd:d∈CV!)(hf:fP! G1)(e:H1=z! H d o)(S1:Hk! H1 G1)(D:h3! { G1 with BF:=G1.BF+1 } k) : k (z! H1 p (Mt! (B7 { G1 with BF:=G1.BF+1 }))):=by show D _ (S1.fld dx G1.AY (G1.BF+1)) λb o' e1 h1 h2=>?_;rw[Ad h1,e,Ad (λz=>LF! h2 z hd)];show e1
def scH:q1! pY:={}
def Jbu(h:ui!):Tk∈CV!:=by unfold BX;show ZD _ (AH! (AH! (AH! (BL h))))
def Js3(F:a! AL! "House.hold" pY)(T:Txt)(M1:R7!)(M2:W7!)(M3:rw!):Vx! GI! u_:=by
 show FP?;have G3:Bs! 2 f3 oj Kn! Jco:=Jgl M3.fn T M1;show b? scH;show GA?;show A?;show K?;show Q?;show B?;show KE? (Pv! (Bf (JSS v! Ke! G2 HJ HM!)) (Bf (fB! Iw! G3 Ix!)) (Ac (Cm hu WP! EQ Ij A!) JQn));show HN? a ta ha;by_cases h1:BZ!;.show S! ⟨h1,_,Gi? b tb hb⟩;by_cases h2:B8!;(.show S! ⟨h2,_,Gi? a ta ha⟩;rcases k with⟨h,k⟩|⟨_,_,h,k⟩|⟨_,_,h,ad,hl,YI,z,k⟩;(.show I? ⟨h1,h2⟩ h);(.show D1? h);.show J7?;show S! ⟨h,H5?,hp,v!,Di!,E7 G,_,A!,na,_,A!,g1,_,A!,ad,_,A!,on! g2,?_⟩;rw[Fj];show Gc? ad nB! (pX! nB!) (S.a_ g3 (B0 hl tb));show Z?;show An?;rw[Bq];show Fi (G1:=pX! nB!) (Jbu g3) (by unfold BX;rw[T4]) A! S1 k);.rcases k with⟨h,k⟩|⟨_,h,_⟩|⟨_,h,_⟩;(.show D1? h2);(.show At? h2);.show At? h2
 .rcases k with⟨h,k⟩|⟨h,_⟩|⟨h,_⟩;(.show D1? h1);(.show At? h1);.show At? h1
def scD:q1! pW:={}
def Js5(F:a! Db! "House.drop" pW)(T:Txt)(M1:R7!)(M2:W7!)(M3:rw!)(M4:sX! f4 xq) : nG! GI! uy:=by
 have G4:Bs! 3 f4 xq GI! Tt:=Jba M4.fn T M1 M2 M3;show b? scD;show GA?;show A?;show K?;show B?;show BL? (xi! Rs M4.mt G4 M4.bd jg!) (SC! (Kv hu WP! EQ Hm!) IQ!);show⟨F?,p,dx,_,A!,hp,Be!,_,A!,_,A!,p,a,b,G,ta,tb,A!,S,ha,hb,?_⟩;rcases k with k|k|⟨h1,h2,ad,hl,YI,k⟩;show AW?
 .show B6? k
 .show AG? ⟨h1,h2,ad,hl,YI,?_⟩;show G9?;(.show E? k);.show J7?;show d! ⟨h3,_,A!,p,C,dx,_,_,A!,hp,v!,Di!,E7 G,_,A!,na,y? _ A! g1 ad A! (Ua! g2) _ (tk tb) _ b g2 hb (Bi! Hi (AE h3))⟩;rw[Lc (k:=YF!) (f:=Qj!)];show Gc? ad oh! (pX! oh!) (S.a_ g3 (Iw hl tb));show Z?;show An?;rw[Bq];show Fi (G1:=pX! oh!) (Jbu g3) (by unfold BX;rw[T4]) A! S1 k
def J0l:q1! pk:={}
def Jsy(F:a! Dc! "House.take" pk)(T:Txt)(M1:R7!)(M2:W7!)(M3:rw!)(M4:sX! f4 xq) : nG! GI! vC:=by
 have G4:Bs! 3 f4 xq GI! Tt:=Jba M4.fn T M1 M2 M3;show b? J0l;have⟨p,a,b,G,ta,tb,rfl,S,ha,hb,z,k⟩:=h;show A?;show K?;show B?;show BL? (xi! Rs M4.mt G4 M4.bd jg!) (JFD Ij JQn);show⟨F?,p,dx,_,A!,hp,Be!,_,A!,_,A!,p,a,b,G,ta,tb,A!,S,ha,hb,?_⟩;rcases k with k|k|⟨h1,h2,ad,hl,YI,k⟩;show AW?
 .show B6? k
 .show AG? ⟨h1,h2,ad,hl,YI,?_⟩;show G9?;(.show E? k);.show d! ⟨h3,_,A!,GU? dx hp Iv! (F9 G) G.h (on! S.dh)⟩;rw[Fj];show J3?;show Z?;show An?;rw[Bq];show JUH QT!
def wC:Al! NA! NA! pX:={}
def Js4(F:a! Dd! "House.free" pX)(T:Txt)(M2:W7!) : nF! NA! uz:=by
 show FP?;show b? wC;have⟨p,b,G,tb,rfl,S,hb,k⟩:=h;show A?;show K?;show B?;show BL? (fB! Ke! G2 HM!) (SC! (qI! w!) IQ!);show⟨_,Gi? b tb hb⟩;rcases k with k|⟨h,k⟩;.show L? k
 .show S! ⟨h,_,A!,p,C,dx,_,_,A!,hp,y? v! Iv! (F9 G) G.h A! (Ua! S.dh) _ (tk tb) _ b S.dh hb (Bi! Hi Gd!)⟩;rw[Lc (k:=YF!) (f:=Qj!)];show Gc? G.h (Iw Ax! tb) zX! (S.RC (Iw Ax! tb));show Z?;show An?;rw[Bq];show JUH zX!
open E
open S
abbrev Iu(n:Int):Ch:=B3! (n=1) 1 (n / 2)
inductive Jfd(vs:C!)(H:Hp)(Q:VK)(E:XK):B!
 | mk (n:Int) (_:vs=[Hv!]) (_:JFc [JR! (n-Iu n),V! (Iu n)])
def scP:P7! [Kb!,"goes"] Kb! Lw:={}
def Jmg(F:a! "parted" "parted" Lw):EL 1 f fd [Kb!] Jfd:=by
 show G? scP;have⟨n,rfl,k⟩:=h;show A?;show BK? (Mw! (Qa! Rs) (Ap (Bh (cD! Af)))) (hW! 1 scP.nd (Be F8 Rs Af) (JDf (Mk! (Be um Rs w!) w!)));show c?;show Io (λc1=>?_) (λc1=>?_);.have c1:n=1:=V.int.inj (BV c1);subst c1;show⟨show B5! 2 by decide,λp hp=>k p hp⟩
 ·(have c1:¬n=1:=λz=>by rw[z] at c1;simp at c1);show⟨t?,_,A!,A!,J1!,?_⟩;show⟨t?,A!,_,_,A!,A!,_,A!,yG! 2,Eb!⟩;have:=k p hp;unfold Iu at this;show N? (AD c1);show this
abbrev Ru(l:Y!)(t:T2):Ch:=JLy
inductive Jj2(vs:C!)(H:Hp)(Q:VK)(E:XK):B!
 | mk (p b:Addr) (G:CN) (tb:T2) (wt:Int) (_:Y8! B9!) (_:bi) (_:BA!) (_:JNG) (_:Qp!) (_:JMY (wt≠0/\h3! (YM! JFt) (Q (V! (Iu wt)))))
def Jm(hd:JJj)(ht:Gq!):WV! ((If! (AG! UL!)).map Jd!):=JE0 rU!
def kK:Al! [B7!,"b",Kb!,"halves"] NA! T9:={}
def Jpt(F:a! "part_record" "House.part_record" T9)(T:Txt)(MP:JO1 fP fdP):nF! NA! Jj2:=by
 have GP:GX 1 fP fdP [Kb!] Jfd:=MW! (Jmg MP.fn);show b? kK;have⟨p,b,G,tb,wt,rfl,S,hb,YI,z,k⟩:=h;show A?;show K?;show B?;have g1:GJ H G.r T3! (UR! wt):=JJM S.dr hb YI
 show BH? kK.nd WP! (Ac (x5! (Qa! EQ) T.cNW) (Nr! kK.nd (Bb GP hr Dk! MP.mg MP.fn.kp MP.bd R! Bi JAJ) (WQ! JB7 (Hb! JB7))));show JI? HN! (C8 G) G.r g1;show c?;show G8?;.rw[Fr! (y! (iu! wt 0)) (JGY h)];show B3 k
 .rw[Fr! (wT (iu! wt 0)) (AL λe=>h (V.int.inj e))];show k?;show B1? wt Gc!;show D7? sn!;show AY?;have t1:rI! t sn! t sn!:=Ab;have b1:=L! s1 hb;generalize Ny! t sn!=H1 at s1 S1 t1 b1;show Z?;show⟨AT? t,0,_,A!,A!,Ac! t1,A!,_,A!,GU? HQ IW HN! (C8 G) G.r (JSH S1.dr b1 z)⟩;rw[Ex];have S2:Hk! (bA! G.r Dl (Bg AO! tb (wt-Iu wt))) (YM! JFt):=S1.WV _;have tr:t≠G.r:=λe=>(S1.tup_ne t1).2 (by rw[e];simp[BX]);show⟨F?,t,_,1,_,A!,A!,ED! (Op tr t1),A!,?_⟩;show k _ S2 (g4! ?_);rw[Ad Wp!];show L! s1 e
open E
open S
inductive zN(vs:C!)(H:Hp)(Q:VK)(E:XK):B!
 | mk (p b:Addr) (G:CN) (tb:T2) (wt:Int) (_:qC!) (_:bi) (_:BA!) (_:Qp!) (_:IO! (YM! d5!))
def J02:q2! mz:={}
def Jkl(F:a! "add_to_record" "House.add_to_record" mz)(T:Txt):GQ! Hj! zN:=by
 show G? J02;show GB?;show A?;show K?;show B?;show⟨_,Ag (Cm hu WP w! (Lh! (JQQ WP w!) EQ) A!),?_⟩;have ei:((PD! (AG! (H!=tb))).map Jd!).getD (wp 0)=wp (Ru AO! tb):=by unfold Ru;cases Pj! PD! (H!=tb)<;>rfl
 show⟨a?,C,dx,_,_,A!,hp,v!,HN!,C8 G,G.r,A!,Ua! S.dr,_,A!,_,Jm S.dr hb,?_⟩;rw[ei];show⟨BI? _ _ A! A! _,GU? dx hp HN! (C8 G) G.r (on! S.dr)⟩;rw[Ex];show k _ (S.WV _) (g4! ?_);rw[Ad Wp!];show e
inductive Jcv(vs:C!)(H:Hp)(Q:VK)(E:XK):B!
 | mk (p b:Addr) (G:CN) (tb:T2) (wt:Int) (_:qC!) (_:bi) (_:BA!) (_:Qp!) (_:IO! (bl! d5!))
def J01:q2! Ug:={}
def Jpy(F:a! "added" "House.added" Ug)(T:Txt)(M5:sY! f5 xp):LL! Hj! Jcv:=by have G5:Do! f5 xp Hj! zN:=Jkl M5.fn T;show G? J01;show GB?;show A?;show B?;show BL? (dm! M5.mt G5 M5.bd jg!) JQn;show⟨EE? dx,KZ? hp p S hb z Zt!⟩;show Z?;show An?;rw[Bq];show IP? (xz! S1.fld HQ) OK
inductive zO(vs:C!)(H:Hp)(Q:VK)(E:XK):B!
 | mk (p b:Addr) (G:CN) (tb:T2) (wt:Int) (_:qC!) (_:bi) (_:BA!) (_:bk!) (_:Qt!) (_:Qp!) (_:((Qo!/\JD6 (IO! (ki! Hu! (NC! (o-wt)))))\/(Gb!/\IO! { G with BF:=Hd!,hand:=Hu!,AK:=d5! })))
def scC:q2! pV:={}
def Js7(F:a! "came" "House.came" pV)(T:Txt)(M1:R7!)(M5:sY! f5 xp) : LL! Hj! zO:=by
 have G1:Do! f1 gT Kn! vB:=zu M1.fn T;have G5:Do! f5 xp Hj! zN:=Jkl M5.fn T;show G? scC;have⟨p,b,G,tb,wt,rfl,S,hb,z1,z2,z3,k⟩:=h;show A?;show K?;show B?;show HU? Ij (NF! (Bc (F1 (dm! E3! G1 EI! La!)) (Ag (s3! EQ Jqg)) (Kx! (dm! M5.mt G5 M5.bd jg!))) IQ!);show JI? Iv! (F9 G) G.h (JGR S.dh);rw[Fj];show J3?;have OK:Jj! sK!:=zY! Wp!
 have b1:=fR! OK hb hb hb;rw[Ih! ((HO.dT ((B0 Ax! tb).map DV!))=Bk (B0 Ax! tb))];generalize sK!=H1 at S1 OK b1;show Z?;show⟨a?,Ge? HQ IW (B9 _ ZV) p _ S1 b1⟩;rcases k with⟨h,o,YI,k⟩|⟨h,k⟩;.rw[Fr! (y! (Aa! (tb.1=(QT!:CN).BQ))) (AR h)];show l?;(have g1:GJ H1 WF T3! (UR! o):=by have:=Jm S1.dO b1;show w? (Ih! ((QT!:CN).AJ=G.AJ)) YI;show this);show Fm? HQ IW (JR1 S1.dO b1 (JIe z2));rw[Ex];have S2:=S1.OF (nj! (o-wt));(have QU:Jj! (bA! WF Dl (nj! (o-wt))):=λb' o' e h1 h2=>wN! Wp! OK);show BD?;show KA?;rw[Bq];show IP? JNU QU
 .rw[Fr! (Uk! (tb.1=(QT!:CN).BQ)) (AL h)];show k?;show⟨EE? HQ,A!,IW,B9 _ ZV,_,A!,_,A!,p,b,_,tb,wt,A!,S1,b1,z3,λH2 S2 QU=>?_⟩;show BD?;show KA?;rw[Bq];show k _ JNU (g4! (Op h1 (iG! QU (OK _ _ e h1 h2))))
inductive zU(vs:C!)(H:Hp)(Q:VK)(E:XK):B!
 | mk (p b:Addr) (G:CN) (tb:T2) (sh:Int) (_:UF! B9! sh) (_:bi) (_:BA!) (_:Qt!) (_:Qp!) (_:JJX (mk! Qo! (JD6 (h3! (kj! (NC! (o+sh))) (Q (V! sh))))\/mk! Gb! (∃wt,JNG/\JMY (wt≠0/\h3! (bl! JFt) (Q (V! (Iu wt)))))))
def kJ:Al! [B7!,"b",Ez!,"goes"] jO! pj:={}
def Jsz(F:a! "part" "House.part" pj)(T:Txt)(M1:R7!)(M2:W7!)(M6:JPk f6 fd6)(MP:JO1 fP fdP) : Vx! jO! zU:=by
 have G1:i4! f1 gT vB:=JHH zu M1.fn;show FP?;have G6:Bs! 2 f6 fd6 NA! Jj2:=Jpt M6.fn T MP;show b? kJ;have⟨p,b,G,tb,sh,rfl,S,hb,z1,z2,k⟩:=h;show A?;show K?;show Q?;show B?;show KE? (Ac (Bc (F1 (JRu v! E3! G1 EI!)) (Ac (Ol hu WP w! EQ D4 wk!) (Ag (JCB kJ.nd EQ))) (Ag (JCB kJ.nd (fB! M6.mt G6 M6.bd)))) (JEb IQ! 3));show HN? b tb hb;rcases k with k|⟨h1,h2,o,YI,k⟩|⟨h1,h2,wt,YI,k⟩;.show L? k
 .show S! ⟨h1,_,A!,p,Ge? dx hp Be! p G S hb⟩;rw[AR h2];show l?;(show IX? o (JJM F3! hb YI));show Fm? dx hp (JGR F3!);rw[Ex];show KD? (nj! (o+sh)) (o+sh);show Z?;show⟨F?,B0?,GQ? HQ IW T.nT (Cq _) HQ IW (D5 _)⟩;rw[Bq];show⟨_,A!,?_⟩;show JIk (o+sh)
 .show S! ⟨h1,_,A!,p,Ge? dx hp Be! p G S hb⟩;rw[AL h2];show k?;show⟨DU?,_,A!,hp,Be!,_,A!,p,b,G,tb,wt,A!,S,hb,YI,z2,?_⟩;show G9?;(.show E? k);.show Hc? h3;show Z?;show An?;rw[Bq];show P? (k _ (xz! S1.fld HQ) (g4! (xl! OK)))
open E
inductive QI(vs:C!)(H:Hp)(Q:VK)(E:XK):B!
 | mk (p dx:Addr) (n:Int) (_:cy!) (_:Pn! JDZ) (_:∀(h o l r:Addr)(H':Hp),H h=none->A7! o->P5!->cE!->ap! (JR5 n r)->JHo->Pi!)
inductive vA(vs:C!)(H:Hp)(Q:VK)(E:XK):B!
 | mk (p:Addr) (G:CN) (_:Ju!) (_:bi) (_:bk!) (_:Qt!) (_:G.holds.length<=500) (_:(O3! (t≠FD!))) (_:(∀q∈G.AJ,qd!)) (_:(Ox! qd!)) (_:∀(t a:Addr)(H':Hp),A7! t->Q8!->GL! t JCA->ap! { G with AY:=FG!,BF:=Hd!,hand:=NR!,AJ:=Rk!,holds:=Ub! }->Jj! H'->cm!)
inductive Jn4(vs:C!)(H:Hp)(Q:VK)(E:XK):B!
 | mk (p:Addr) (G:CN) (_:Ju!) (_:bi) (_:QD! Ie!)
inductive TM(H:Hp)(v:V)(r:Mq!):B!
 | mk (a t hd:Addr) (cs:Z!) (_:Qi!) (_:ch! [JM!,T! CD!,h! hd]) (_:h0! W!) (_:BE! hd (hp! cs.map)) (_:c5! Bd!)
def TM.keep(x:TM H v r)(k:BB!):TM H' v r:=by have⟨a,t,hd,cs,e,e1,e2,e3,e4⟩:=x;show⟨a,t,hd,cs,e,JDI,c0!,Mp! e3,ml! e4⟩
def TM.rep(x:TM H v r):am! v pO r:=by have⟨a,t,hd,cs,rfl,e1,e2,e3,e4⟩:=x;show KU! (ED! e1) (SC (M0 e2) (hw! hr! (JKE e3 e4)))
inductive iE(H:Hp)(x:Addr)(hs:G!)(os:B0!)(rs:Y!):B!
 | mk (y1 y2 y3:Addr) (as:Z!) (bs:C!) (ds:Z!) (_:M3! JPy) (_:BE! y1 UX!) (_:BS H as hs) (_:Ml! y2 bs) (_:JJ2) (_:(∃ob,BE! y3 (.IQ ob (hp! ds.map))/\Jrl ob)) (_:Dm! (RecAt H) ds rs)
def Jfv:∀{as:Z!} {rs:Y!},pl! H->Wz! (Ar! CK!) KT! yo
 | _,_,.nil=>R!
 | _,_,.cons ⟨ka,e1,e2⟩ t=>SC (rt! e1 (M0 e2)) (Jfv t)
def Jft:∀{bs:C!} {os:B0!},JJ2->Wz! bs De! pO
 | _,_,.nil=>R!
 | _,_,.cons r t=>SC r.rep (Jft t)
def iE.rep{H:Hp}{x:Addr}{hs:G!}{os:B0!}{rs:Y!}(h:JQd H):T5! LZ! st!:=by have⟨y1,y2,y3,as,bs,ds,e,e1,t1,e2,r2,⟨ob,e3,_⟩,r3⟩:=h;show KU! (ED! e) (SC (JKE e1 t1) (hw! (KU! (ED! e2) (Jft r2)) (KU! (S! (d! (Bq! e3))) (Jfv r3))))
inductive zV(vs:C!)(H:Hp)(Q:VK)(E:XK):B!
 | mk (p t:Addr) (G:CN) (th:T2) (w:Int) (a:Addr) (hl hs:G!) (_:Jv!) (_:bi) (_:Gq!) (_:wO! g5! UL! th w) (_:JG7 (cp! UL!)) (_:kk!) (_:hs.Perm hl) (_:mb!) (_:S2! (XV->TM H' LZ! (th,w,hs)->M0!))
structure Rows(G:CN)(os:B0!):B! where
 pm:by! (De! (·.1)).Perm HG!
 pw:vy! De!
 at_:∀q∈os,xQ! g5!=D! (H!,Tk)/\HK λa hl=>JHM=D! (H!,a,hl)/\kk!/\q.2.2.Perm hl/\q.2.2.Pairwise LB
inductive Ob(vs:C!)(H:Hp)(Q:VK)(E:XK):B!
 | mk (p:Addr) (G:CN) (hs:G!) (os:B0!) (rs:Y!) (_:Ju!) (_:bi) (_:zZ!) (_:za!) (_:zb!) (_:JKi) (_:mb!) (_:oc!) (_:Em!) (_:IN!) (_:S2! (XV->JQd H'->M0!))
open S
def scI:Al! Q4! Q4! pZ:={}
def WZ(F:cR! gu! pZ)(T:Txt):GQ! Q4! QI:=by
 show G? scI;have⟨p,dx,n,rfl,hp,k⟩:=h;show A?;show BK? (hu! w!) (Pv! JD5 JD5 (Pv! nH! nH! (NF! nH! nH!)));show⟨EI?,IZ? C v! T.nN⟩;show Cb? Ab T.nM (by change 1<1000;decide);rw[Ja];show⟨GS? C Ab v! T.nT (by rw[Em,B8 Hg,Em];change 2<1000;decide)⟩;rw[Ja];have step:∀{H1:Hp} {d:Addr} {fs:DP!} {o:HO},Pd! H1 ZZ!->JTK H1->Zn! d->Pd! (z! H1 d o) ZZ!/\JTK (z! H1 d o)/\d≠p/\A7! d:=λ{H1 d fs o} e1 e2 e3=>by have wY:p≠d:=Ak e1 e3;show⟨Op wY e1,YZ! (Op (Ak (e2 b u e hb) e3) (e2 b u e hb)),wY.symm,?_⟩;cases q:H d with | none=>rfl | some u=>rw[e2 d u q wY.symm] at e3;cases e3
 have a0:iv! (Zx! (Mt! jj!)):=YZ! JD0
 intro d1 h1;show Bp? (step (o:=wv []) Ab a0 h1);show Cb? b1 Iv! ?_;.show Ex?;show Ew?;show FG?;show DD?;show NI!
 have c0:∀{H1:Hp} {fs:DP!},(iv! H1)->iv! (z! H1 p ZZ!):=λe b u e1 hb=>lm! (e b u e1 hb)
 intro d2 h2;have⟨b5,b6,b7,b8⟩:=JKb b2 h2;show Cb? b5 F2! ?_;.show Jq?;show Ex?;show Ew?;show FG?;show DD?;show NI!
 intro d3 h3;have⟨b9,b10,yR,b12⟩:=JKb b6 h3;show Cb? b9 Di! ?_;.have:=Ba Cl! (IN d2) (Y0! A6! d1 jj!);show Jq?;show Ex?;show Ew?;show FG?;show DD?;show NI!
 intro d4 h4;have⟨b13,b14,b15,b16⟩:=JKb b10 h4;show Cb? b13 HN! ?_;.have:=Ba Aw! (IN d3) (Y4! Cl! d2 A6! d1 jj!);have:=Ba Cl! (IN d2) (Y0! A6! d1 jj!);show Jq?;show Ex?;show Ew?;show FG?;show DD?;show NI!
 have f9:d1≠d2:=λz=>by rw[<-z,Jr!,Ab] at h2;cases h2
 have jf:d1≠d3:=λz=>by rw[<-z,Jr!,Ad f9,Jr!,Ab] at h3;cases h3
 have je:d2≠d3:=λz=>by rw[<-z,Ad b7,Ab] at h3;cases h3
 have n14:d1≠d4:=λz=>by rw[<-z,Jr!,Ad jf,Jr!,Ad f9,Jr!,Ab] at h4;cases h4
 have n24:d2≠d4:=λz=>by rw[<-z,Ad b7,Ad je,Ad b7,Ab] at h4;cases h4
 have n34:d3≠d4:=λz=>by rw[<-z,Ad yR,Ab] at h4;cases h4
 show k d1 d2 d3 d4 _ b4 b8 b12 b16 ⟨Bv! dx,?_,?_,?_,?_,AN! (by simp at hq),?_⟩ (c0 b14);.rw[Ab,<-Jw3]
 .rw[Jr!,Ad n14,Jr!,Ad jf,Jr!,Ad f9,Jr!,Ab];rfl
 .rw[Ad b7,Ad n24,Ad b7,Ad je,Ad b7,Ab];rfl
 .rw[Ad yR,Ad n34,Ad yR,Ab];rfl
 .rw[Ad b15,Ab];rfl
 .simp[BX,f9,jf,n14,je,n24,n34]
def scM:Z5! Kn! ph:={}
def Js0(F:a! C9! "House.make" ph)(T:Txt):Vt! vA:=by
 show G? scM;have⟨p,G,rfl,S,z1,z2,z3,f1,f2,f3,k⟩:=h;show A?;show K?;show CA? scM.nd (Bh (Mk! WP WP)) (Ac IQ! (WQ! Af (WQ! E2 (WQ! Ij (JEb IQ! 1)))));show B?;show⟨_,A!,p,C,dx,_,_,A!,hp,v!,T.nN,Jbp G,_,A!,p,C,dx,_,_,A!,hp,v!,T.nM,Jkt G,H1!,Gc!⟩;show D7? JNf;show AY?;have t1:AT (PO! t FB JNf) t JCA:=Ab;generalize Ny! t JNf=H1 at s1 S1 t1;show Z?;show⟨B0?,GQ? HQ IW T.nM (Jkt G) HQ IW (D5 G)⟩;rw[Jhd];have S2:=S1.fld HQ (FG!) Ie!;have QU:xJ! H1 Ig! (z! H1 p (M8! HQ (B7 kl!))):=Ib! JD0
 have tp:=S1.tup_ne t1;have t2:=FS QU t1 tp.1;have S2:Hk! (z! H1 p (M8! HQ (B7 kl!))) kl!:=S2;generalize JFV H1 HQ kl!=H2 at S2 QU t2;show BD?;show Hv? ME JG F2! (Dw _) WF S2.dO t2 (JIe z2);have e3:EA! (HG! km!) JI9 (wp 0)=(Rk!).map km!:=JGb DM! Jd! f2
 have S3:=S2.OF (Rk!);unfold Dl at S3;rw[<-e3] at S3;have vm:=S2.tup_ne t2;have VX:JHK H2 (NM! WF wv (XA! HG! km! (wp 0))):=JK8
 have t3:=FS VX t2 vm.2;generalize NM! WF wv (XA! HG! km! (wp 0))=H3 at S3 VX t3;intro a ha;have s4:=hn! wv ha;have S4:=S3.same s4;have a4:JJS a wv [] a []:=Ab;have t4:=GX! t3;have af:a∉CV!:=λm=>by have⟨kvs,e⟩:=S3.MV (b:=a) (by have:fP! { G with AY:=FG!,AJ:=wb! }:=rfl;rw[this];show m);rw[ha] at e;cases e
 generalize EQ! H3 a wv []=H4 at s4 S4 a4 t4;have⟨bU,jj⟩:=S4.ob;show Hv? bU jj Di! (E7 _) na S4.dl t4 (JT8 (G.holds.length<=1000) z3);have e5:EA! (Fw! Qq!) JI9 (CK! a)=(Ub!).map Qq!:=JGb Pk! v3! f3
 have S5:=S4.iP FD! a4 af;unfold Fc at S5;rw[<-e5] at S5;have YX:JHK H4 (F8! H4 na wv (XA! Fw! Qq! (CK! a))):=JK8
 have t5:=FS YX t4 vm.2;generalize F8! H4 na wv (XA! Fw! Qq! (CK! a))=H5 at S5 YX t5;have⟨cZ,bx⟩:=S5.ob;show Hv? cZ bx Iv! (F9 _) G.h S5.dh t5 (JT8 (G.hand.length<=1000) z1);have e6:EA! (S3! kn!) JI9 (D8! q!)=(NR!).map kn!:=JGb YF! Qj! f1
 have S6:=S5.RC (NR!);unfold Bk at S6;rw[<-e6] at S6;have gQ:JHK H5 (F8! H5 G.h wv (XA! S3! kn! JG3)):=JK8
 have t6:=FS gQ t5 vm.2;generalize F8! H5 G.h wv (XA! S3! kn! JG3)=H6 at S6 gQ t6;show GC?;show DK? YJ bw YJ bw;rw[Bq];have S7:=S6.fld YJ (FG!) (Hd!);have SX:∀{b:Addr},Va!->An!:=λ{b} e=>C3 s1 e;have UI:Jj! (z! H6 p (M8! YJ (B7 { G with AY:=FG!,BF:=Hd!,AJ:=Rk!,holds:=Ub!,hand:=NR! }))):=λb o e hb hf=>lm! (FS gQ (YX _ _ (NE s4 (VX _ _ (QU _ _ (Q3! e) hb) hf)) hf) hf)
 show P? (k t a _ ht ?_ (UE! tp.1 t6) S7 UI);cases q:H a with | none=>rfl | some u =>exfalso;(have nap:a≠p:=λz=>by rw[z,S3.ob.choose_spec] at ha;cases ha);have:Ha! H3 u:=FS VX (QU _ _ (Q3! q) nap) af;show N? ha;cases this
def scT:dr! pq:={}
def Jsx(F:a! "tick" "House.tick" pq)(T:Txt):Vt! Jn4:=by show G? scT;have⟨p,G,rfl,S,k⟩:=h;show A?;show B?;show⟨_,Ag (Ap WP),⟨B0?,dx,_,_,A!,hp,v!,T.nT,Cq G,k⟩⟩
open E
def RB{a b c:Str}{k:NameKind}{cl:CF!}{y:Str}(hc:oZ!)(h:Qf! po! po!):Lv!:=Qy!
def Jl4(s:XV)(x:pl! H):pl! H':=Ax (Sv! (by have⟨ka,e1,e2⟩:=h9;show⟨ka,L! s e1,L! s e2⟩)) x
open S
def J0k:e3! p5:={}
def Oy(f:α->β)(l:Q!):ci (db λt=>(t,f t)).map=l:=U! AX (MK l)
def Jsw(F:a! Sy! gw! p5)(T:Txt):JDj zV:=by
 show G? J0k;have⟨p,t,G,th,wt,a,hl,hs,rfl,S,ht,f1,f2,XS,pm,pw,k⟩:=h;show A?;show K?;show B?;have g1:wP! WF (UR! wt):=UW! (wf! F3!) rU! f1
 have g2:wP! na JLo:=JFu (wf! S.dl) f2
 have g3:JFN hl:=S.hl _ (BI f2);show r? (Bh (JCk WP! (en! (JUI WP!))));show⟨F?,B0?,dx,_,_,A!,hp,v!,F2!,Dw G,_,A!,WF,_,A!,g1,_,A!,p,C,dx,_,_,A!,hp,v!,Di!,E7 G,_,A!,na,_,A!,g2,a,_,hs,A!,Jkv g3,Pa! XS,KE Oy pm,pw,λr as hr ha=>?_⟩;show⟨r,_,A!,Ks! Ld! (λx2 oK=>⟨RO! 3,H9!⟩)⟩;have s1:=Ro! Ar! hr;have s2:=qA! Ar! oK;show Af? [AA! t,xz wt,AA! x2] hx;have ss:=XE!;show k x _ ss ⟨x,t,x2,as,A!,Ab,L! ss ht,Ge! Ab,eP! ss ha⟩
def lG:Z5! [B7!,A6!,EB!,DB!] Pw:={}
def Jpq{f fT:Addr}{fd xo:FuncData}(F:a! "state" "House.state" Pw)(T:Txt)(FT:HH K Sy! gw! p5 fT xo)(bT:P0! xo Kn!)(mT:j4 K C Sy! fT) : JE4 Ob:=by
 have GT:Do! fT xo Kn! zV:=Jsw FT T;show G? lG;have⟨p,G,hs,os,rs,rfl,S,z1,z2,z3,pm,pw,R,pmr,pwr,k⟩:=h;show A?;show Q?;show B?;show CA? lG.nd (en! JIr) (h2! 2 lG.nd (en! (Cs (be:=OG!) A! (Df JIr) A! ZV A! ZV A! P6! ay! QA! ZV hy! (PS! (Ar w! v! mT GT HJ bT R! A9 UA!)))) 3 lG.nd (Tf! Yo T.tuple EY (A7 (Pj A! (jE hr)) Dk! T.sorted F_ (CR! (P0 DV PySem.F.slot_dict_items PySem.F.type_dict_items Jp4 WP)))) (JDf (JCk EQ AI!)));show KT? dx hp Iv! (F9 G) G.h hs Jkv S.dh z1 (KE Oy pm) pw (λr1 NG JBF ha1=>HZ! r1 _ (Ks! Ld! (λx1 YS=>?_)));have s1:=Ro! Ya! JBF;have s2:=qA! Ya! YS;have sG:=Ah s1 s2;have S1:=GS! sG;have q1:AT (z! JLr x1 m6!) x1 m6!:=Ab;have qu:BS (z! JLr x1 m6!) NG hs:=eP! sG ha1;generalize z! JLr x1 m6!=H1 at sG S1 q1 qu;show Z?;have e0:JBu HG! n2!=HG! Bl!:=UU!
 show KT? HQ IW F2! (Dw G) WF JAN Jqf S1.dO z2 (KE e0 R.pm) R.pw (λr2 XW OU gN=>⟨r2,A!,Bq! (Cq! Ab),BQ!⟩);have s3:=Ro! MX! OU;have tW:LA! JKD r2 MX!:=Ab;have S2:=S1.same s3;have ss2:=Ah sG s3;have qm:BS JKD XW (De! Bl!):=eP! s3 gN;have qt:BS JKD NG hs:=eP! s3 qu;have q1b:=Ge! q1;generalize Vm! H1 r2 MX!=H2 at s3 tW S2 ss2 qm qt q1b hq;have hlen:XW.length=os.length:=by have:=AD! gN;show N? ZA;show this
 have jk:os.length<64:=by have h1:=R.pm.length_eq;rw[ZA,ZA] at h1;show h1▸z2
 show JQv r2 xs (JP! MX!) tt H6! te (my C Sy! (zV) [] E0 (Bt 1) UD!) be OG! σ [Eg!,A1! x1,none,none] (λi ys H3=>Y1! H3 q/\BZ H2 H3/\Hz! (TM H3) ys os.take i) ⟨Ab,Ai hq,U! P_ R!⟩ (λi ys H3 _ h=>lI! h.2.1 tW v6);.rintro i x ys H3 N hx ⟨e3,s4,pr⟩ hN;show l?;show AU?;cases gM:XW[i]? with | none=>show DZ? gM | some ai =>rw[gM] at hx;cases hx;(have jm:i<os.length:=NE! C8! gM);have⟨qo,xH⟩:=A4 jm;have eth:=A6 qm i ai qo.1 gM (Lo! xH);have⟨f1,a,hl,f2,f3,f4,f5⟩:=DQ! R.at_ qo xH;have S3:=S2.same s4;show Bq?;show⟨F?,p,T_,_,A!,TC,Be!,_,A!,p,ai,G,qo.1,qo.2.1,a,hl,qo.2.2,A!,S3,GX! eth,f1,f2,f3,f4,f5,λx2 H5 s5 rep=>JF7 (L! s5 e3) Ab LP!⟩;(.have:=AD! pr;rw[this];show Bz (AA (AC! List.length_take_le) (AA (A_ (AF (A_ jm) jk)) TD)));(.have nb:b≠q:=Ak e hq;rw[Ad nb];show Z6! s5 s4);·show Kw? H5 (PQ! H5 q (pH! x2)) (L! s5 e3);(have et:os.take (Aj!)=os.take i++[qo]:=cr! xH);rw[et];show Ep (rep.keep kq) (Ax (λ_ _ r=>(Yb! (JX s5)).keep kq) pr)
 .rintro ys H3 ⟨e3,s4,pr⟩;rw[ZA,C8!,BY] at pr;show IR? q e3 (λx2 oK=>?_);have s5:=ET! ys oK;have ss3:=T7! ss2 s4 s5;have S4:=(S2.same s4).same s5;have q2:aT! H3 x2 ys x2 ys:=Ab;have q1c:=FF! s5 s4 q1b;have qr:BS (F8! H3 x2 FB ys) NG hs:=Ax (λ_ _ e=>Z6! s5 s4) qt;have pr':Dm! (TM (F8! H3 x2 FB ys)) ys os:=JTn s5 pr;generalize QY! H3 x2 ys=H4 at s5 ss3 S4 q2 q1c qr pr';have⟨bU,jj⟩:=S4.ob;have yM:=S4.dr;show⟨F?,p,C,bU,_,_,A!,jj,v!,HN!,C8 G,cf! (A8! (v5! yM)),G.r,_,A!,A!,yM,Ur!⟩;have s6:=HX! (uj v G.r) hv;show⟨v,G.r,AO!,rs,A!,Ab,QI! yM,z3,pmr,pwr,λr3 as3 H7 s7 VM e7 pr7=>⟨r3,_,A!,Cq! e7,λx3 ob3 w8 pl3=>?_⟩⟩;have s8:=HX! (.IQ ob3 (hp! as3.map)) w8;show⟨t?,A!,_,A!,RO! 3,H9!⟩;have s9:=ET! [AA! x1,AA! x2,AA! x3] hx;have nZ:=Ah s6 (Ji! s7 s8 s9);show k x _ (Ah ss3 nZ) ⟨x1,x2,x3,NG,ys,as3,Ab,L! nZ q1c,eP! nZ qr,L! nZ q2,JTn nZ pr',⟨ob3,UO! s9,pl3⟩,Jl4 (Ah s8 s9) pr7⟩
open E
open S
def kM:IF! [HK!,MR!,"_law_number"] HK! MR! uY:={}
inductive Jn9(vs:C!)(H:Hp)(Q:VK)(E:XK):B!
 | mk (a:Addr) (ns:At) (k:Int) (_:vs=[Br!,T! k]) (_:JHh) (_:gt! 63) (_:0<=k) (_:k<=1000) (_:∀v:Ch,QD! v)
def Js6(F:a! gy! gy! uY)(hn:Vf!):GQ! [HK!,MR!] Jn9:=by
 show G? kM;have⟨a,ns,k,rfl,hS,hl,h0,JVz,kk⟩:=h;show A?;have hlen:Ak! CL! wp=ns.length:=ZA ..;have item:∀i:Ch,0<=i->i<ns.length->∃v,UK (CL! wp) i=D! (V! v):=λi a b=>by have⟨x,hx⟩:=Mm! ns i.toNat i!;show⟨x,Do a (Lo! hx)⟩
 show BK? (Pb! (Au Q3 w! JMQ PP!) (Ao A8 Rs w!)) (JHy 2 kM.nd (cl! JHz) (Mw! (JEk JMQ) (vZ! kM.nd (Ph! (Lh! (Be Nh (Ao A8 Rs (Be Cf JHz JMQ)) Af) JHz)))) (Ph! (Be Nh EQ EQ)));show⟨HQ? a,EJ? (GE hS)⟩;show Io (λc1=>?_) (JW!);.have c1:=BV c1;have⟨v,hv⟩:=item k h0 (by rw[C8!] at c1;show c1);show⟨Au?,a,_,_,_,A!,A!,hS,hv,kk v⟩
 .show⟨t?,KL? e8!⟩;show⟨AT? a,EJ? (GE hS)⟩;show Io (λc2=>?_) (JW!);(.have c2:=BV c2;(have h_:TV! (AF! ns.length):=by rw[C8!] at c2;show c2);have⟨v,hv⟩:=item (k*7 % AF! ns.length) (DE _ (JL (hlen▸c2))) (DM _ h_);show⟨_,A!,_,A!,_,_,A!,A!,e8!,_,A!,a,_,A!,GE hS,_,_,A!,A!,ld! h_,a,_,_,_,A!,A!,hS,ld! hv,_,_,A!,A!,e8!,_,A!,_,_,A!,A!,e8!,_,_,A!,A!,_,_,A!,A!,JDo,?_⟩;show⟨F?,_,A!,_,_,JT? (GE JC5) (EZ! 2147483629) (kk _)⟩;(.have:=eO! (v*48271+k*7919) 2147483647;show Int.lt_of_lt_of_le TD this);.have:=JJK (v*48271+k*7919) 2147483647;show CJ this TD);.show⟨F?,_,A!,_,_,JT? (Ks! X! X!) (EZ! 2147483629) (kk _)⟩
open E
def uk(h1:dB!)(h2:LB b c):LB a c:=by rw[E4] at *;lia
def zk(h:a≠b)(h1:¬dB!):LB b a:=by rw[E4] at *;have:¬(es!/\a.2=b.2):=λz=>h (On! z.1 z.2);lia
def Od(key:C4!)(x:α):∀{s:Q!},(s.map FM).Pairwise LB->(∀y∈s,FM x≠FM y)->∃s':Q!,j4! (s'.Perm (x::s)) s'.map
 | [],_,_=>pO! [x]
 | y::s,h,ne=>by have h':=E_.mp h;by_cases e:LB (FM x) (FM y);(.show E9? (x::y::s) (.refl _) h;show HC?;(.show e);.show uk e (h'.1 z hz));.have⟨s',p,q⟩:=Od FM x h'.2 (wd! ne);show E9? (y::s') (JPY p.cons s) q;have⟨u,hu,rfl⟩:=P8!;rcases ZM (X4! hu) with rfl|hu;(.show zk (ne y Hp!) e);.show h'.1 _ (BL hu)
def sorts(key:C4!):JJm FM (∃s:Q!,j4! (s.Perm l) s.map)
 | [],_=>pO! []
 | x::l,nd=>by show AM?;have⟨s,p,q⟩:=sorts FM PM.2;have⟨s',p',q'⟩:=Od FM x q λy hy e=>NK! PM.1 ⟨y,X4! hy,Bn!⟩;show⟨s',p'.trans (p.cons x),q'⟩
structure Good(G:CN):B! where
 h1:G.hand.Nodup
 h2:zZ!
 o1:AT! HG!
 o2:za!
 r1:AT! MO!
 r2:zb!
 at_:∀q∈G.AJ,HK λa hl=>JHM=D! (H!,a,hl)/\hl.Nodup/\kk!
structure Told(G:CN)(hs:G!)(os:B0!)(rs:Y!):B! where
 pm:JKi
 pw:mb!
 PL:oc!
 pr:Em!
 wr:IN!
def IZ{l:Y!}(nd:cd!){q:EE!}(hq:q∈l):xQ! If!=D! q:=by induction l with | nil=>cases hq | cons x l ih =>show AM?;rcases ZM hq with rfl|hq;(.simp);.have ne:¬Ag!=H!:=JFT (PX! Fx!);rw[CU,AL ne];show ih PM.2 hq
def Jkb(g:Good G):∀{s:Y!},(∀q∈s,q∈G.AJ)->∃os:B0!,De! (λq=>(H!,Tk))=s/\∀q∈os,xQ! g5!=D! (H!,Tk)/\HK λa hl=>JHM=D! (H!,a,hl)/\kk!/\q.2.2.Perm hl/\q.2.2.Pairwise LB
 | [],_=>FM! [] (AN! (GG! hq))
 | x::s,h=>by have⟨os,e,k⟩:=Jkb g (AN! (h q (AH! hq)));have hx:=Go! x;have⟨a,hl,f,nd,z⟩:=g.at_ x hx;have⟨hs,p,q⟩:=JK0 sorts hl (lf! MK);rw[MK] at q;show⟨(Ag!,x.2,hs)::os,jp AI e,LR!⟩;rcases ZM hy with rfl|hy;(.show⟨IZ g.o1 hx,a,hl,f,z,p,q⟩);.show k y hy
def Good.told(g:Good G):JCs J2!:=by
 have⟨hs,p1,q1⟩:=JK0 sorts Ax! (KE MK g.h1);have⟨so,p2,q2⟩:=sorts (DM!) g.o1;have⟨rs,p3,q3⟩:=sorts (DM!) g.r1;have⟨os,e,k⟩:=Jkb g (AN! (p2.mem_iff.mp hq));have e1:EY! De! so.map:=by rw[<-e,AX];rfl
 rw[MK] at q1;show⟨hs,os,rs,p1,q1,⟨lO! (p2.map _),lO! q2,k⟩,p3,q3⟩
inductive Jj3(vs:C!)(H:Hp)(Q:VK)(E:XK):B!
 | mk (p dx:Addr) (_:Ju!) (_:wZ! CP []) (_:∀(d:Addr)(H':Hp),A7! d->KS CP H' p d 0 []->(WN! Ig!)->Pi!)
inductive He(vs:C!)(H:Hp)(Q:VK)(E:XK):B!
 | mk (p d:Addr) (c:Int) (ls:j!) (k s g a:V) (_:vs=[DF!,k,s,g,a]) (_:JIX) (_:ls.length<=2700) (_:∀(t:Addr)(H':Hp),A7! t->eQ! [JR! (c+1),k,s,g,a]->KS CP H' p d (c+1) (ls++[(c+1,t)])->(iV! Ig! (b≠d) IE!)->jT! (c+1))
inductive Ts(vs:C!)(H:Hp)(Q:VK)(E:XK):B!
 | mk (p d:Addr) (c:Int) (ls:j!) (_:Ju!) (_:JIX) (_:JOb (ec! MM! Zs!) XV)
inductive Tr(vs:C!)(H:Hp)(Q:VK)(E:XK):B!
 | mk (p d:Addr) (c:Int) (ls:j!) (n:Int) (_:cy!) (_:JIX) (_:((NM λ(l1:List (Int×Addr))(l2:List (Int×Addr))(t:Addr)=>ls=WA!/\∀(H':Hp),KS CP H' p d c iS!->(WN! (b≠d))->cm!)\/((zN!)/\JL! NL)))
open S
def J0t:dr! Ua:={}
def Jps(F:cR! gv! Ua)(T:Pn):Vt! Jj3:=by
 show G? J0t;have⟨p,dx,rfl,hp,k⟩:=h;show A?;show Iu? JD5 RZ!;show⟨a?,IZ? CP v! Di!⟩;intro d hd;have eP:p≠d:=λz=>by rw[<-z,Ab] at hd;cases hd
 have XG:A7! d:=by rw[ZA! eP] at hd;show hd
 show⟨GS? CP (oB! eP) v! T.nW (by change 1<1000;decide)⟩;show k d _ XG ⟨Hr! Ab,GH! (ZA! eP) Ab,Fy! (by simp at hl),EG⟩ (Ib! ?_);rw[FR!,Tp! XG,FR!];show e
def J0r:Al! hx! hx! Mw:={}
def Me(F:a! "put" "Post.put" Mw)(T:Pn):GQ! hx! He:=by
 show G? J0r;have⟨p,d,c,ls,kk,ss,gg,aa,rfl,S,hl,k⟩:=h;show A?;show K?;show In?;have oB:p≠d:=S.ne;show BK? IQ! (JR4 WP (Bh (Aa WP (vj! w! EQ AI! BO!))) (Hb! WP));show⟨Aq? CP,GQ? dx h1 Di! (F7 _ _) dx h1 (by rw[Oq];change 2<1000;decide)⟩;rw[Jl9];have h2:Pd! n3! JTF:=Ab;have d2:AT n3! d JDQ:=Op oB.symm hd
 show⟨EF? CP,_,_,A!,h2,v!,Di!,F7 _ _,_,A!,_,A!,_,A!,_,A!,RO! 5,?_⟩;intro t ht;have npt:p≠t:=Ak h2 ht;have ndt:d≠t:=Ak d2 ht;have ht':A7! t:=by rw[Ad npt.symm] at ht;show ht
 have h3:∀o,Pd! (z! n3! t o) JTF:=λo=>Op npt h2
 have d3:∀o,AT (z! n3! t o) d JDQ:=λo=>Op ndt d2
 show⟨Aq? CP,dx,_,_,A!,h3 _,v!,T.nW,Fs _ _,_,A!,p,CP,dx,_,_,A!,h3 _,v!,Di!,F7 _ _,d,_,A!,JJk (c+1) (d3 _) (Za! C5 hl),?_⟩;have JBI:jc! ls (AV! (c+1):Key)=none:=JH0 (by have:=le l hl;simp;lia)
 have JBY:JKK ls (c+1) t (ls++[(c+1,t)]):=by rw[Ib _ JBI];unfold kvsOf;rw[ZF];rfl
 rw[JBY];show⟨Aq? CP,dx,_,_,A!,UE! oB (h3 _),v!,Di!,F7 _ _,?_⟩;show k t _ ht' (Bi! (Ad ndt.symm) Ab) ⟨Hr! (Op oB (h3 _)),Ab,Jl!,?_⟩ λb o e hp hb=>?_;.rcases ZI hl with hl|hl;(.have:=le l hl;show BW this);·(have e:l=(c+1,t):=by simpa using hl);rw[e];show AH _
 .rw[ZF];show Gq nd Qn!;have⟨l,hl,e⟩:=Gg!;have:=le l hl;have e':AY!=c+1:=e;show AJ! (KW Bn!) (IY! this)
 .rw[FR!,Tp! ht',Ad hp];show e
def J0s:dr! Ia:={}
def Jgk(F:a! "letters" "Post.letters" Ia)(T:Pn):Vt! Ts:=by
 show G? J0s;have⟨p,d,c,ls,rfl,S,k⟩:=h;show A?;show In?;show r? (Tf! (Qm A!) T.list PyProof.Rows.boot_list (JP6 WP));show⟨F?,p,CP,dx,_,_,A!,h1,v!,T.nW,Fs _ _,cf! (JB3 hd),d,_,A!,A!,hd,Ur!⟩;have ndv:d≠v:=Ak hd hv;show⟨v,d,_,A!,Ab,Op ndv hd,Jl!⟩;have nvl:l≠v:=λz=>by rw[z,Ab] at hl;cases hl
 have bN:P5!:=by rw[Ad nvl] at hl;show hl
 show k l _ bN (by rw[Ab];unfold kvsOf;rw[AX];rfl) LP!;rw[Tp! bN,Tp! hv];show e
def J0q:Al! K0! K0! Og:={}
def Ja9(F:a! "taken" "Post.taken" Og)(T:Pn):Bs! 1 f fd K0! Tr:=by
 show b? J0q;have⟨p,d,c,ls,n,rfl,S,k⟩:=h;show A?;show K?;show In?;have oB:p≠d:=S.ne;show D8? (JHl w! WP T.cNL) (Jf6 WP w! Hm!);show⟨Au?,p,CP,dx,_,_,A!,h1,v!,T.nW,Fs _ _,d,_,A!,GJ.k (k:=aN!) hd,_,A!,?_⟩;rcases k with⟨l1,l2,t,rfl,k⟩|⟨ie,k⟩;·(have ev:jc! (WA!) mK!=D! ZM!:=GH! O0 (Jhk nd));rw[ev];show k?;show⟨a?,CP,dx,_,_,A!,h1,v!,T.nW,Fs _ _,d,A!,GE (Bq! (GE hd)),_,A!,_,aN!,_,hd,A!,ev,?_⟩;rw[Jho nd];(show k _ ⟨Hr! (Op oB h1),Ab,Fy! (le l ?_),?_⟩ (Ib! JD0));(.rcases ZI hl with hl|hl;(.show Cs! hl);.show DJ! (AH! hl));.rw[ZF,AI] at nd;rw[ZF];show YD! ⟨cB! nd,(IW! (Cm! nd).2.1).2,λa ha b hb=>dV! a ha b (AH! hb)⟩
 ·(have ev:jc! ls mK!=none:=JH0 (JED ie));rw[ev];show B3 k
open E
open S
inductive Jj1(vs:C!)(H:Hp)(Q:VK)(E:XK):B!
 | mk (p t:Addr) (G:CN) (th:T2) (_:Jv!) (_:bi) (_:Gq!) (_:JCp (AT (PD! (AG! UL!)).map CI! 0))
def J0n:e3! T8:={}
def Jpr(F:a! "is_spent" "House.is_spent" T8)(T:Txt):JDj Jj1:=by show G? J0n;show DC?;show A?;show K?;show B?;show r? (Mb Bs (Jph hu WP w! Hm!) Af PP!);show⟨a?,C,dx,_,_,A!,hp,v!,HN!,C8 G,G.r,A!,Ua! S.dr,_,A!,_,Jm S.dr ht,?_⟩;cases e:Tu! PD! UL! with | none =>rw[e] at k;show AS? k | some q =>rw[e] at k;show AS? ?_;(have e2:Fd! (Mr! (xz PP) wp 0) (AT (D! q).map CI! PR!):=sK);change Q (a2! D8! (xz PP=wp 0)) H;rw[e2];show k
open E
open S
inductive Dy(vs:C!)(H:Hp)(Q:VK)(E:XK):B!
 | mk (p:Addr) (h:Int) (W:ET) (_:Vi!) (_:Aq!) (_:jp! (GC! q H))
def Joh:p5! Ea:={}
def Dt(F:a! YI! "World.house" Ea)(T:Txt)(TW:Ga):Bs! 1 f fd GD! Dy:=by
 show b? Joh;show GD?;show A?;show B?;show D8? (x5! (rg! (Au Q3 w! Af PP!) (Au Jyo w! (au! WP) PP!)) TW.cNH) (JTs w!);show JO?
 show Ji?;rcases k with⟨o,k⟩|⟨q,G,i,k⟩;.show Io (λ_=>B3 k) (λc=>?_);have c:¬h<0:=GN! c AR;show⟨_,A!,_,A!,p,CW,dx,_,IW? _ A! hp wE HO! (Ds W) CN! nd!⟩;rw[e0,AR (show zQ! from o.resolve_left c)];show B3 k
 .have⟨i1,i2⟩:=i.lt;rw[AL (show ¬h<0 by show IY! i1)];show k?;show⟨_,A!,_,A!,p,CW,dx,_,IW? _ A! hp wE HO! (Ds W) CN! nd!⟩;rw[e0,AL (show ¬zQ! by show Int.not_le.mpr (e0▸i2))];show k?;show⟨H8?,_,A!,hp,wE,HO!,Ds W,_,A!,CN!,_,_,_,A!,A!,cJ!,i.UK,k⟩
inductive Lo(vs:C!)(H:Hp)(Q:VK)(E:XK):B!
 | mk (p:Addr) (h:Int) (W:ET) (_:Vi!) (_:Aq!) (_:jp! (Hc! vA [h! q]))
def Jr9:p5! uv:={}
def Jgb(F:a! C9! uu! uv)(T:Txt)(TW:Ga)(MH:L0!)(M1:JPB f1 d1)(G1:Bs! 1 f1 d1 DG! vA):nF! GD! Lo:=by
 show CF?;show b? Jr9;show GD?;show A?;show Q?;show B?;show Hb? a9! v! Bi;show⟨Gg? h W S⟩;show GY?;show AW?
 show Ga? (o! ⟨q,G,i,q,HQ,_,A!,hq,Be!,k⟩)
inductive Lp(vs:C!)(H:Hp)(Q:VK)(E:XK):B!
 | mk (p:Addr) (h:Int) (va vb:V) (W:ET) (_:JOU) (_:Aq!) (_:JJp u_)
def Jsa:JLk vM:={}
def Jge(F:a! AL! uz! vM)(T:Txt)(TW:Ga)(MH:L0!)(M1:JPL f1 d1)(G1:JM1 GI! u_):nG! Th! Lp:=by
 show J1? Jsa;show AW?
 show KV?
inductive Lr(vs:C!)(H:Hp)(Q:VK)(E:XK):B!
 | mk (p:Addr) (h:Int) (va vb:V) (W:ET) (_:JOU) (_:Aq!) (_:JJp uy)
def Jsd:JLk vK:={}
def Jgg(F:a! Db! u0! vK)(T:Txt)(TW:Ga)(MH:L0!)(M1:JPM f1 d1)(G1:Bs! 4 f1 d1 GI! uy):ht! 5 Th! Lr:=by
 show J1? Jsd;show AW?
 show KV?
inductive Ln(vs:C!)(H:Hp)(Q:VK)(E:XK):B!
 | mk (p:Addr) (h:Int) (va vb:V) (W:ET) (_:JOU) (_:Aq!) (_:JJp vC)
def Jr8:JLk ux:={}
def Jf9(F:a! Dc! u1! ux)(T:Txt)(TW:Ga)(MH:L0!)(M1:JPN f1 d1)(G1:Bs! 4 f1 d1 GI! vC):ht! 5 Th! Ln:=by
 show J1? Jr8;show AW?
 show KV?
inductive Lq(vs:C!)(H:Hp)(Q:VK)(E:XK):B!
 | mk (p:Addr) (h:Int) (vb:V) (W:ET) (_:vs=[DF!,DH!,vb]) (_:Aq!) (_:jp! (JST uz [h! q,vb]))
def Jsc:Al! RN! RN! vL:={}
def Jgf(F:a! Dd! uv! vL)(T:Txt)(TW:Ga)(MH:L0!)(M1:JPj f1 d1)(G1:JMw NA! uz):Vx! RN! Lq:=by
 show CF?;show b? Jsc;have⟨p,h,vb,W,rfl,S,k⟩:=h;show A?;show Q?;show B?;show⟨_,Ag (Bf (Y2! a9! v! E3! G1 hr EI! (CR! EQ))),?_⟩;show⟨Gg? h W S⟩;show GY?;show AW?
 show Ga? (o! ⟨q,G,i,q,HQ,_,A!,hq,Be!,_,A!,k⟩)
inductive Fx(vs:C!)(H:Hp)(Q:VK)(E:XK):B!
 | mk (p:Addr) (h:Int) (W:ET) (_:Vi!) (_:Aq!) (_:jp! (Hc! Ob [h! q]))
def Jof:p5! Oe:={}
def Jmc(F:a! "state" "World.state" Oe)(T:Txt)(TW:Ga)(MH:L0!)(M1:sU! f1 d1)(G1:JMw DG! Ob):Vx! GD! Fx:=by
 show CF?;show b? Jof;show GD?;show A?;show Q?;show B?;show Hb? a9! v! Bi;show⟨Gg? h W S⟩;show GY?;show AW?
 show Ga? (o! ⟨q,G,i,q,HQ,_,A!,hq,Be!,k⟩)
open E
abbrev YW(G:CN)(tb:T2)(wt:Int):Y!:=if IA! then NC! bm! else G.AJ
def Jtt{l:Y!}{t:T2}(h:kh!):ax!=none:=UK! JNY
def O5(hd:JJj)(ht:Gq!)(f:JEp=D! (th,v)):WV! (UR! v):=JJM hd ht f
open S
inductive Jj5(vs:C!)(H:Hp)(Q:VK)(E:XK):B!
 | mk (p b:Addr) (G:CN) (tb:T2) (wt:Int) (_:qC!) (_:bi) (_:BA!) (_:Qt!) (_:IO! (kj! fG!))
def J00:q2! Ud:={}
def Jpu{f:Addr}{fd:FuncData}(F:a! "given" "House.given" Ud)(T:Txt):GQ! Hj! Jj5:=by
 show G? J00;show GB?;show A?;show K?;show B?;show Iu? (Mw! (El (P1 hu w! WP)) (s3! EQ Jqg)) IQ!;show Is? dx hp F2! (Dw G) WF _ (Jm F3! hb);by_cases h:IA!;.have fo:=O9 h;rw[fo];show l?;show IX? JL4 (O5 F3! hb fo);show Fm? dx hp (on! F3!);rw[Ex];show KD? (nj! bm!) bm!;show Z?;show An?;rw[Bq];(have e:fG!=NC! bm!:=by unfold YW;rw[AE h]);rw[e] at k;show JIk bm!
 .rw[Jtt h];show k?;(have e:fG!=G.AJ:=by unfold YW;rw[AD h]);rw[e] at k;show DK? dx hp dx hp;rw[Bq];show k _ (xz! S.fld dx) (zY! h1)
abbrev aW(G:CN)(tb:T2)(HV:Bool):G!:=if HV=true then Hu! else G.hand
abbrev cQ(G:CN)(tb:T2)(sh:Int)(HV:Bool):Y!:=NC! (Tw!+H4! (HV=true) (sh-1) (2*sh-1))
inductive Jfc(vs:C!)(H:Hp)(Q:VK)(E:XK):B!
 | mk (p b:Addr) (G:CN) (tb:T2) (sh:Int) (HV:Bool) (_:vs=[DF!,B9!,T! sh,bv HV]) (_:bi) (_:BA!) (_:Qt!) (_:bk!) (_:IA!) (_:IO! (ki! W3! JN5))
def J0o:Al! je! je! Of:={}
def Jmf(F:a! "passed" "House.passed" Of)(T:Txt):GQ! je! Jfc:=by show G? J0o;have⟨p,b,G,tb,sh,HV,rfl,S,hb,z1,z2,h,k⟩:=h;show A?;show K?;show B?;show Iu? (Bc (F1 (pv 3)) (WQ! Ij (Ag (s3! (Be um EQ Af) D4))) (Ag (s3! (Be um (Be Nh Af EQ) Af) D4))) IQ!;have fo:=O9 h;show DQ? HV;cases HV with | true =>show l?;show JI? Iv! (F9 G) G.h (JSH S.dh hb z2);rw[Fj];show J3?;(have OK:Jj! sK!:=zY! Wp!);have b1:=fR! OK hb hb hb;rw[Ih! ((HO.dT ((B0 Ax! tb).map DV!))=Bk (B0 Ax! tb))];generalize sK!=H1 at S1 OK b1;show Z?;have g1:GJ H1 WF T3! (UR! JL4):=O5 S1.dO b1 fo;show⟨F?,p,C,HQ,_,BI? IW v! F2! (Dw _) _,WF,_,A!,g1,_,A!,_,_,A!,A!,_,_,A!,A!,_,JR1 S1.dO b1 (JIe z1),?_⟩;rw[Ex];have S2:=S1.OF (JMc (sh-1));(have QU:Jj! (bA! WF Dl (JMc (sh-1))):=λb' o' e h1 h2=>wN! Wp! OK);show BD?;show KA?;rw[Bq];show IP? JNU QU | false =>show k?;show IX? JL4 (O5 F3! hb fo);show⟨a?,C,dx,_,_,A!,hp,v!,F2!,Dw _,_,A!,WF,_,A!,g1,_,A!,_,_,A!,A!,Ks! wP wP,_,_,A!,A!,_,_,A!,A!,_,JGR F3!,?_⟩;rw[Ex];show KD? (JMc (2*sh-1)) (Tw!+(2*sh-1));show Z?;show An?;rw[Bq];show JIk (Tw!+(2*sh-1))
open E
def zx(hd:VC! d l)(ht:Gq!)(f:JG7 JEp):WV! JLo:=JFu JTt f
open S
inductive Hq(vs:C!)(H:Hp)(Q:VK)(E:XK):B!
 | mk (sa l:Addr) (as:Z!) (ts:G!) (hl:HL) (n:Nat) (R:G!) (_:vs=[h! sa,JU!]) (_:BE! sa GU!) (_:IM!) (_:ts.length<=400) (_:VC! l hl) (_:hl.length<=400) (_:(∀q∈hl,ia! Tk BF!/\q.2.2.length<=400/\Tk≠l)) (_:rS! (O5! al!)) (_:n<=5000) (_:S2! (lj!->XV->nA! x R->M0!))
def fg:IF! [It!,Aw!,"found",Cn!,"ahead"] It! Aw! Fy:={}
def Ni(F:a! YP! YP! Fy):EL 1 f fd [It!,Aw!] Hq:=by
 show G? fg;have⟨sa,l,as,ts,hl,n,R,rfl,es,th,zt,el,zl,hq,wJ,zn,k⟩:=h;show A?;show K?;show D2? fg.nd E2 (tN! N9! fg.nd (Ra! 0) ay! pC!) (NF! (Jf2 S4! (Um BO! (G4!)) (Nr! fg.nd (P0 DJ PySem.F.slot_list_pop PySem.F.type_list_pop Jp3 BO!) (ol! (El (Eo hu AI! EQ)) (JEL AI! Ij (Kx! (aR! RO RM Jbb BO! (PE.Z_ (vq! Ef! N9! (Sj (C1 hu w! AI!)) P6! ay! QA! pC! (pv 0))))))))) jX!);intro fa cT;show HA? cT;show FN? fa fa Bk;show IO? fa;have vx:rH! H1:=Ue! s1 th;show⟨_,A!,sa,A!,Bq! (Ms! s1 es),λaa cV=>?_⟩;show Mi (b:=al!) (be:=N9!) cV (Td! zt) (Q3! es) vx (zc!) λH2 bs sm ea tb=>?_;.show FQ? (GT! sm s1 el);show FM?;rw[eo];show BT?
 have jd:A7! aa:=by cases c:H aa with | none=>rfl | some o=>rw[L! s1 c] at cV;cases cV
 have jc:fa≠aa:=λz=>by rw[<-z,e1] at cV;cases cV
 show S? (λm σ H'=>YL λ(ahead:List T2)(found:List T2)(OL:List Addr)(u3:Option V)=>σ=[A1! sa,Nl!,A1! fa,u3,A1! aa]/\XV/\nA! fa E0!/\GL! aa (hT! OL.map)/\BS H' OL ahead/\OO (QF hl) m ahead E0! R/\found.length+m<=5000/\YL! Pz!) ⟨n,_,[],bs,_,A!,Ah s1 sm,U9! e1,ea,tb,wJ,by simpa using zn,zW!⟩;rintro m σ H' ⟨ahead,found,OL,u3,rfl,sh,ef,WE,fZ,rc,zm,hk⟩;show II? _ (Cq! WE);cases m with | zero =>have⟨e0,eR⟩:=rc;rw[e0] at fZ;have e2:OL=[]:=DB.mp (L4! fZ);rw[e2];show Bn (Dn! (k fa H' cT sh ?_));rw[eR];show ef | succ m =>have vW:=rc.len;have⟨a,t,gh,rc⟩:=rc;rw[gh] at fZ vW;have⟨NF,c,e2,vt,ec⟩:=Je1 fZ;subst e2;(have em:JP! (NF++[c]).map=Vv!++Lm!:=Vd!);rw[em] at WE ⊢;rw[show AU! (!(Vv!++[AA! c]).isEmpty) by cases NF<;>rfl];show B3 (BM! (λGA H' h=>⟨m,NY m,h⟩) ?_);show Dr? (IP! WE) aa _ WE (Jkp _ _);rw[show(Vv!++[AA! c]).dropLast=NF.map CK! by simp];(have s3:EP! J7!:=JSV jd sh);(have XF:DH H' J7!:=FN! WE);(have Y_:HT! J7! fa Bk E0!:=Op jc ef);have jt:rP! J7!:=Ab;have ZZ:BS J7! NF a:=LO! XF vt;have gY:=L! XF.BE ec;generalize z! H' aa (hT! NF.map)=H3 at s3 XF Y_ jt ZZ gY;show⟨J9? fa (Gv Y_ gY)⟩;rcases rc with⟨hf,rc⟩|⟨hf,rc⟩;(.rw[AE hf];show Bn ⟨a,E0!,NF,_,A!,s3,Y_,jt,ZZ,rc,CF zm,Us! hk pQ!⟩);.rw[AD hf];show B3 ⟨I9? fa t Y_ gY (Kr! Tv)⟩;rw[Fj,show B0 E0! t=JJ! by unfold B0;rw[AD hf]];(have s4:EP! OK!:=JGQ cT);(have QD:DH H3 OK!:=FN! Y_);have gX:JJS fa Bk Pw! fa Pw!:=Ab;(have gZ:rP! OK!:=Op jc.symm jt);have ZY:BS OK! NF a:=LO! QD ZZ;have o7:=L! QD.BE gY;show JA? JJ! DV! Bk JJ!;generalize EQ! H3 fa Bk Pw!=H4 at s4 QD gX gZ ZY o7;have vq:Pz!:=hk t (KE gh mL!);have⟨ad,om⟩:=Sr vq;have mq:=BI om;have⟨q1,q2,q3⟩:=hq _ mq;have q1:ia! ad Z0!:=q1;have q2:(EM hl t).length<=400:=q2;have q3:ad≠l:=q3;show⟨R? (IP! gZ),Au?,l,_,A!,zx JGX o7 om,ad,_,A!,GX! q1,λob pl TY=>?_⟩;(have JVv:aa≠ad:=λz=>by rw[z,q1] at jd;cases jd);(have JVt:fa≠ad:=λz=>by rw[z,q1] at cT;cases cT);show Qh (b:=JES) (be:=N9!) (l:=EM hl t) (FM:=λq=>q) (val:=Qj!) (ob:=ob) TY (Td! q2) Ab (λH2 a' u Q' v_ ha xE q=>?_) λH5 fA sm5 ep5 dw=>?_;(.show FQ? (v_ l (Fc hl) (UE! q3.symm (GX! el)));show FM?;rw[eo];show BT?);.have f5:AT H5 ad (as! Bk Z0!):=UO! sm5;show IQ? (EQ! H5 ad Bk Z0!) ad f5;(.show Ei? ad;rw[q1] at z;cases z);(have wV:pl≠ad:=λz=>by rw[z,Ab] at TY;cases TY);(have s6:BZ H4 JPe:=sD! (b=ad) (GX! q1) (L! sm5 JJF));(have tX:LA! JPe pl fA.map:=Op wV ep5);(have YO:JMR JPe:=by (have dw:JMR H5:=by rw[MK] at dw;show dw);show Iv? dw;rw[Ad (OH! f5)];show e);generalize EQ! H5 ad Bk Z0!=H6 at s6 tX YO;have zz:=rc.len;rw[ZE] at zz;show Di? ZY;show G5? YO;show⟨aa,pl,_,_,A!,A!,n1!,tX,pw! Tv,?_⟩;rw[<-ZF];(have bK:DH H6 (Y9! H6 aa (NF++fA).map):=FN! n1!);show⟨a++QF hl t,JJ!,NF++fA,_,A!,LP!,?_,Ab,KZ! bK (R7 (e2! s6 ZY) YO),rc,?_,Nb!⟩;(.show CZ? jd s6 s4);(.rw[Ad jc];show QI! gX);(.rw[ZE];change found.length+1+m<=5000;lia);.show A4?;(.show hk u pQ!);.show B5? hu;show Y?
open E
open S
def Jym{Kx:W.Frag}{X:E!}{tg l:Expr}{tl:TE}(hl:WZ!):jb! (λσ H R=>sz! yq\/sz! yk):=λAB s σ H R I h=>Ot! (Df hl AB s σ H R I) (Fk hl AB s σ H R I)
def Jw5{Kx:W.Frag}{tl:TE}{a:Addr}{xs:C!}{g:TG}{tb:TS}{D:Ends}{σ:L2.St}{H:Hp}(hv:∀R:VK,R Bf! H->tl σ H R)(Pv:JCX)(h0:Vl!)(hl:(ou! JJf)\/(ou! JHU))(hs:JOX)(hd:JHe):Jx6 (λσ H R=>sz! yq\/sz! yk) g tb D σ H:=by
 rcases hl with hl|hl;.show E? (hv _ ⟨a,A!,⟨xs,hl 0 σ H Dw! h0⟩,Vs Pv h0 hl hs hd⟩)
 .show L? (hv _ ⟨a,A!,⟨xs,hl 0 σ H Dw! h0⟩,O7 Pv h0 hl hs hd⟩)
inductive zT(vs:C!)(H:Hp)(Q:VK)(E:XK):B!
 | mk (p ta:Addr) (G:CN) (as:Z!) (ts:G!) (_:JDG ta) (_:bi) (_:JJP) (_:BE! ta GU!\/BE! ta UX!) (_:IM!) (_:IO! DI!)
def qJ:Al! [B7!,EB!,Cn!] Kz! m7:={}
def Jkj(F:a! "lose" "House.lose" m7)(T:Txt):GQ! Kz! zT:=by
 show G? qJ;have⟨p,ta,G,as,ts,rfl,S,ke,et,th,k⟩:=h;show A?;show K?;show G6?;show⟨_,Ag (JSC (Jym (pv 1)) 2 qJ.nd (ol! (El (P1 hu EQ WP)) (Ac (Bf (qI! EQ)) (Kx! (qI! EQ))))),?_⟩;show Jw5 (a:=ta) (xs:=c9!) (λR r=>Dn! r) (λi σ H2=>∃u2:VE!,σ=[Eg!,A1! ta,u2]/\Hk! H2 (Av G (HH! i))/\Jj! H2) ⟨_,A!,Dq! P_ Jje S,λb o e _ _=>e⟩ (et.imp (λet i σ H2 _ h=>zd! DZ.of (fr _ _ et (S.WT et).1 (S.WT et).2)) (λet i σ H2 _ h=>zd! ED! (fR! fr et et et))) ?_ ?_;.rintro i x σ H2 hx ⟨u2,rfl,S2,QU⟩;show AU?;cases ea:XJ! with | none=>show Hs? | some a =>rw[ea] at hx;show IA?;subst hx;show HD? JNc;show J6? ht;have gN:=fR! QU ha ha ha;show BD?;have⟨o,g,eo⟩:=Vh (k:=DM!) (f:=Jd!) (Am! S2.dO) gN;have f1:=K0 (DM!) BL! ht;have f2:=K0 (Pk!) re ht;show Is? ME JG F2! (Dw _) WF o g;rw[eo];(have ks:EY! (Av G (HH! i)).holds.map (Av G (HH! i)).AJ.map:=by show Ij? (K8! Vq!) (MQ! (AG! (K8! Vq!))).map;rw[Er (Pk!) re (jI! (t∉Vq!)),JNj (t∉Vq!),ke]);by_cases h:FC! (Av G (HH! i)).AJ.map;(.rw[AR h];have⟨v1,hv1⟩:=HJ! Pq l zT! k j5! f Jd! h;have⟨v2,hv2⟩:=HJ! Pq l y7! k j5! f v3! (KE ks h);show B3 ⟨ID? ME JG F2! (Dw _) WF S2.dO (tk t) a S2.dO gN hv1⟩;rw[Lc (k:=DM!) (f:=Jd!)];have S3:=S2.OF (QU! (AG! M2!));(have VX:Jj! (z! H2 WF JOj):=Iy! (wN! (λz=>JSU z) QU));have ha3:=fR! VX ha ha ha;show B7? (HO.dT ((QU! (AG! M2!)).map IK!)=Dl (Tu! QU! M2!));have S3:Hk! (z! H2 WF JOj) { pg! with AJ:=JDw QU! }:=S3;generalize z! H2 WF JOj=H3 at S3 VX ha3;show Bq?;show⟨ID? T_ TC Di! (E7 _) na S3.dl (tk t) a S3.dl ha3 hv2⟩;have e3:Dx (({ pg! with AJ:=JDw QU! }:CN).holds.map Qq!) (tk t)=(kq! (AG! M2!)).map Qq! :=Lc (k:=Pk!) (f:=v3!) _ t;rw[e3];have S4:=S3.di (hl:=JDw kq!) IU;(have eG:Av G (HH! AB!)={ pg! with AJ:=mW! QU!,holds:=mW! kq! }:=by unfold Av;rw[f1,f2]);show⟨_,A!,U! eG S4,Iy! ?_⟩;rw[Ad λz=>h2 (by rw[z];change zH!;simp[BX])];show iG! VX e);.rw[AL h];have no1:∀q∈zT!,M2!:=λq hq z=>np! Z8!;have no2:∀q∈y7!,M2!:=λq hq z=>mY! ks (A5! Z8!);(have eG:Av G (HH! AB!)=pg!:=by (have a1:mW! QU!=zT!:=LG.mpr (zF! (FT! no1)));(have a2:mW! kq!=y7!:=LG.mpr (zF! (FT! no2)));unfold Av at a1 a2 ⊢;rw[f1,f2,a1,a2]);show Bn ⟨_,A!,U! eG S2,QU⟩
 .rintro σ H2 ⟨u2,rfl,S2,QU⟩;rw[ZA,lt,BY] at S2;show k H2 S2 QU
open E
open S
abbrev Bo(G:CN)(rs:Y!):Y!:=Pj! (Kf! Nz!).filter Rc!
inductive zP(vs:C!)(H:Hp)(Q:VK)(E:XK):B!
 | mk (p:Addr) (G:CN) (n:Nat) (rs:Y!) (_:Ju!) (_:bi) (_:AR!) (_:n<=62) (_:eG!) (_:eq!) (_:Em!) (_:IN!) (_:JQH lj! (Bo G rs) (HZ G))
def bW:Z5! [B7!,"held","holder",Cn!,"unheld",EJ!] m6:={}
abbrev Jx2:TE:=uN (JMi (fb! DB!))
abbrev Jxy:TT:=Ki (UG (fk JIx) (fb! DB!) ij!)
def Jkk(F:a! "give_back" "House.give_back" m6)(T:Txt)(Tx:uJ):Vt! zP:=by
 show G? bW;have⟨p,G,n,rs,rfl,S,ok,zn,gA,f_,pm,pw,k⟩:=h;show A?;show K?;show B?;show Ac? (hS! 1 bW.nd (by first|show Sf! A!|show Os! A!) (Tf! (Jjl (jE hr)) Tx.dict PyProof.Rows.boot_dict WP)) (af! JLS 2 bW.nd (Kx! (F4 DV PySem.F.slot_dict_update PySem.F.type_dict_update (Jtb hu) w! (CR! JFC))) (SW.Z_ (Ac (tN! [("held",1)] bW.nd (Df JIr) ay! JGw) (Ac (JQz te Jx2 Jxy i 5 OG! bW.nd (Ra! 4) (JT3 p6 fE! Af) (PS! (Bh (in! fE!)))) (af! (Ra! 4) 3 bW.nd (Kx! (qI! AI!)) (JDe 5))))));have z1:=ok.hz;have z2:=ok.PU;have z3:=ok.rz;show⟨_,A!,p,C,dx,_,_,A!,hp,v!,Iv!,F9 G,G.h,_,A!,S.dh,Vm ok.hn gA,λhd l8=>?_⟩;have e0:F2 [] (S3! DV!)=S3! DV!:=by have:=Ky Ax! [];show N? (L! Ys (by simpa using ok.hn));show Y?
 rw[e0];have s1:=HX! (Bk Ax!) l8;have e1:vn! hd Bk Ax! hd Bk Ax!:=Ab;show B7? (HO.dT (S3! DV!)=Bk Ax!);show GZ? hd Bk Ax!;show AY?;show Z?;have lO:mG!:=JLa
 have fw:∀{b:Addr} {o:HO},Hf!->b≠hd:=λe=>Ak e l8;have wV:p≠G.l:=λz=>S.UO (b:=na) (by simp[BX]) Fx!;show HM? HQ IW Di! (E7 G) na S1.dl (λob=>?_);show Jqp (d:=na) (ob:=ob) (λi σ H2=>∃u2:VE!,σ=[Eg!,lw!,u2,none,none,none]/\b7! hd Bk (C6 Ax! (Yc! i))/\xJ! (z! H1 na JM2) (b≠hd) H2) ⟨_,A!,GH! (Ad (Ec! fw S.dl)) e1,λb o e _=>e⟩ (λi σ H2 _ h=>let⟨_,_,_,fr⟩:=h;JOD) ?_ ?_;.rintro i a kk v σ H2 hx ha ⟨u2,rfl,eh,fr⟩;show AU?;cases eq:G.holds[i]? with | none=>show DZ? eq | some q =>rw[eq] at hx;have hx:(TP!,hV!)=(kk,v):=ZO hx;have mq:=ZP eq;have e2:kk=TP!:=y5! hx;rw[e2,y_] at ha;have hpp:jS! (M8! HQ (B7 G)):=FS fr (UE! wV IW) (fw hp);have gJ:U0! na JM2:=JOD;(have hqq:b7! Tk Bk BF!:=by have h0:=S.hl q mq;show FS fr ?_ (fw h0);rw[Ad (S.bJ.2.2.2 q mq).2.2.1];show S1.hl q mq);(have gv:Ce (Fw! Qq!) (tk H!)=D! (CK! Tk):=GH! JUB (JJQ lO mq));have l0:=O6! q mq;(have l1:(C6 Ax! (Yc! i)).length<=62+62*62:=by have h1:=HJ! Re B 62 qs (Yc! i) Is! Ax! (Ex! (by have:=(O6! r (List.mem_of_mem_take hr)).2;show AA this zn));show I6? (cI! Yc!<=G.holds.length);have h3:cI! Yc!*62<=62*62:=EJ _ (AA (AA h2 z2) zn);lia);show⟨_,A!,dU! (A8! (v5! eh)),_,A!,p,C,HQ,_,_,A!,hpp,v!,Di!,E7 G,_,A!,na,_,A!,JQS TP! (GM! ob gJ) gv.symm,hd,Tk,_,_,A!,A!,eh,GE hqq,(fw (S.hl q mq)).symm,?_,λ_=>Vm l0.1 (f_ q mq),?_⟩;(.rw[ZA,ZA];show A_ (Tv i!));.rw[Ky,<-Jeg Ax! eq];show⟨_,A!,Ab,Ib! (lm! (FI! fr hb))⟩
 .rintro σ H2 ⟨u2,rfl,eh,fr⟩;rw[ZA,BY] at eh;have gJ:U0! na JM2:=JOD;show IQ? (EQ! H2 na Fc re) na gJ;(.show Ei? na;rw[S.dl] at z;cases z);(have s3:EP! (NM! na Fc re):=sD! (b=G.l) S.dl (FS fr (KE FR! (L! s1 e)) (fw e)));(have e3:HT! (F8! H2 na Fc re) hd Bk (C6 Ax! re):=Op (Ec! fw S.dl) eh);generalize EQ! H2 na Fc re=H3 at s3 e3;have S3:=GS! s3;show Bq?;show KT? T_ TC HN! (C8 G) G.r (ci KT!) Jqf S3.dr (ZV! (AA z3 zn)) ?_ pw (λsl mO ia tsl=>⟨sl,A!,Bq! (Cq! Ab),λul hul=>?_⟩);(·(have e4:JBu MO! n2!=MO! Bl!:=UU!);rw[e4];show pm.map _);have s4:=Ro! Yd! ia;have eZ:LA! (Y9! H3 sl Yd!) sl Yd!:=Ab;have t4:BS (Y9! H3 sl Yd!) mO (KT! Bl!):=JF0 tsl;generalize Vm! H3 sl Yd!=H4 at s4 eZ t4 hul;(have lrs:rs.length<=62:=by show Br?;show this▸(AA z3 zn));show Mi (b:=zE!) (be:=[("held",1)]) hul (Pa! (CW! lrs)) eZ t4 (λH5 a t Q' sm ha ht q=>?_) λH5 bs sm eu tu=>?_;(.show⟨_,A!,_,A!,hd,_,A!,Gv (GT! sm s4 e3) ha,?_⟩;(have e5:(!(if r9! then some (V.bl true) else none).isSome)=! DK G t:=by rw[<-Jm0];show D? r9!;(.rw[Bk!,AR c];rfl);.rw[AD c,AL c];rfl);rw[e5];show BT?);have eU:(KT! (·.1)).filter (zE!)=(Kf! Nz!).map Bl!:=(Er (DM!) rs zE!).symm;rw[eU] at tu;have s5:EP! H5:=T7! s3 s4 sm;have kG:∀q∈Kf! (Nz!),q∈rs:=AN! ir!;(have usz:Ee! Kf! Nz! 62:=bz! (BC (Nz!) rs) (AA this lrs));have hbk:Bo G rs=(Kf! Nz!).filter (AG! Rc!):=rfl;(have und:AT! (Kf! Nz!).map:=by have h1:ce!:=JIz ok.rn;show JCg h1.sublist);generalize tF:(Kf! Nz!)=us at tu kG usz hbk und;have S5:=GS! s5;have oI:=AD! tu;rw[ZA] at oI;have val:∀q∈us,k9! PD! (W!=H!)=D! q:=AN! (FX.IZ (k:=DM!) ok.rn (pm.subset (kG q hq)));show CX? ul eu (λbl mB=>?_);show JQv ul p bl xs (JP! En!) tt Jxy te Jx2 be OG! (λi ys H6=>∃cs:Z!,ys=JP! cs.map/\Y1! H6 bl/\BZ H5 H6/\LJ H6 cs ((us.take i).filter (AG! Rc!))) ⟨[],A!,Ab,Ai mB,R!⟩ (λi ys H6 _ h=>let⟨_,_,e,sm,_⟩:=h;lI! sm eu e);(.rintro i x ys H6 N hx ⟨cs,ey,e6,s6,ba⟩ hN;show AU?;cases eb:bs[i]? with | none=>show DZ? eb | some b =>rw[eb] at hx;have hx:AA! b=x:=ZO hx;subst hx;show Gz? us (by have:=ES! eb;show oI▸this);have hb:=A6 tu i b H! eb (Lo! hq);have hb6:=QI! hb;show Im?;show GC?;have gv:GJ H6 G.r T3! (UR! PP):=O5 S6.dr hb6 (val q (ZP hq));have ft:=Jei (b:=λq:T2×Int=>Aa! Rc!) hq;show⟨CE? C YJ,IW? bw v! HN! (C8 G) _ A! G.r gv⟩;show D? Rc!;(.rw[AR c] at ft ⊢;show B3 ⟨EI?,C,YJ,_,_,A!,bw,v!,HN!,C8 G,_,A!,G.r,_,A!,gv,H1!,λx1 YS=>?_⟩;have s7:=ET! pu! YS;have x7:aT! H6 x1 pu! x1 pu!:=Ab;have e7:=L! s7 e6;generalize QY! H6 x1 pu!=H7 at s7 x7 e7;(have YQ:DH H7 (PQ! H7 bl (pH! x1)):=FN! e7);(have lcs:cs.length<=us.length:=U! (AD! ba) (Qb _ us i));show⟨e7,JCj ey (Za! Tv (AA lcs usz)),Kw! ⟨cs++[x1],jP! ey,Ab,λd o e=>?_,?_⟩⟩;(.show CZ? mB s7 s6);.rw[ft,BG!];show Jl (LJ.keep YQ (LJ.keep (JX s7) ba)) ⟨b,L! YQ.BE x7,FF! YQ.BE s7 hb6⟩);.rw[AL c] at ft ⊢;show Bn (NE hN ⟨cs,ey,e6,s6,?_⟩);rw[ft,aM!,AM];show ba);.rintro ys H6 ⟨cs,ey,e6,s6,ba⟩;rw[ZA,oI,BY,<-hbk] at ba;rw[ey] at e6;show Im?;have tU:=QI! eu;have tu6:BS H6 bs (S5! Bl!):=Ue! s6 tu;(have JAx:bl≠G.r:=λz=>by rw[z,S5.dr] at mB;cases mB);(have JBQ:A7! bl:=by cases c:H bl with | none=>rfl | some o=>rw[L! s5 c] at mB;cases mB);show CX? ul tU ?_;have JIp:∀j,(sH! ((S5! (·.1)).take j):CN).AK=F0! (AG! (K8! ((S5! (·.1)).take j))):=G4!;show Vs (K:=K) (a:=ul) (xs:=JP! En!) (λi σ H7=>∃u3:VE!,σ=[Eg!,lw!,u2,u3,A1! ul,A1! bl]/\Hk! H7 (sH! mv!)/\xJ! H6 (b≠G.r) H7) ⟨_,A!,?_,λb o e _=>e⟩ (λi σ H7 _ h=>zd! DZ.of (FS fr tU (λz=>by rw[z,S6.dr] at tU;cases tU))) ?_ ?_;(·(have e8:Tu! F0! (K8! (wm! 0))=G.AK:=JHm);rw[e8];show S6);(.rintro i x σ H7 hx ⟨u3,rfl,S7,UI⟩;show AU?;cases eb:bs[i]? with | none=>show DZ? eb | some b =>rw[eb] at hx;have hx:AA! b=x:=ZO hx;subst hx;show Gz? us (by have:=ES! eb;show oI▸this);(have xI:(S5! (·.1))[i]?=D! H!:=JCv hq);have hb:=A6 tu6 i b H! eb xI;(have hb7:=FS UI hb (λz=>by rw[z,S6.dr] at hb;cases hb));have⟨jw,oP⟩:=S7.ob;(have qin:ot! (F0! (To! (W!∉mv!))).map:=by show A5! (CB! q (JI0 (pm.subset (kG q (ZP hq)))));have:K8! mv!:=λz=>Q4 und xI z;show Y?);have⟨v,hv⟩:=Pq (l:=F0! λ(r:T2×Int)=>Aa! (W!∉(S5! λ(z:T2×Int)=>z.1).take i)) (k:=λ(q:T2×Int)=>H!) (f:=λ(q:T2×Int)=>xz PP) (t:=H!) qin;show⟨ID? jw oP HN! (C8 _) G.r S7.dr TP! b S7.dr hb7 hv⟩;(have e9:Dx (((sH! mv!:CN).AK).map IK!) (tk H!)=(F0! (To! (W!∉wm! (Aj!)))).map IK!:=U! (K0 (DM!) AO! xI) (Lc (k:=DM!) (f:=Jd!) _ _));rw[e9];have S8:=S7.WV (F0! (To! (W!∉wm! (Aj!))));show⟨_,A!,S8,Ib! (lm! (FS UI e hb))⟩);.rintro σ H7 ⟨u3,rfl,S7,UI⟩;rw[ZA,oI,<-ZA (f:=DM!),BY] at S7;have bK:DH H6 H7:=⟨λb xs e=>FS UI e (λz=>JHt S6.dr),λb o v e=>FS UI e (λz=>JHt S6.dr)⟩;show P? (k bl cs H7 JBQ (UI _ _ e6 JAx) (LJ.keep bK ba) ?_ (Iy! (FS UI (GT! s6 s5 e) (λz=>JSU z))));(have eK:HZ G=sH! JAO:=by unfold HZ;(have:(F0! λq=>iQ!)=F0! (AG! (K8! JAO)):=FU (AN! (by show D? (y! iQ!);(·(have nm:K8! JAO:=λz=>by have⟨r,hr,er⟩:=ZN z;rw[<-tF] at hr;show B5? hr;show w? er c;cases this);rw[c,AR nm]);·(have c:wT iQ!:=k7!);(have im:ot! S5!:=JB1 tF q (N1! (pm.symm.subset hq) (Ds! c)));rw[c];simp only[im,not_true_eq_false,decide_false])));rw[this]);rw[eK];show S7
open E
open S
inductive Jcu(vs:C!)(H:Hp)(Q:VK)(E:XK):B!
 | mk (p:Addr) (G:CN) (n m:Nat) (rs:Y!) (R:G!) (_:Ju!) (_:bi) (_:AR!) (_:n<=62) (_:eG!) (_:eq!) (_:Em!) (_:IN!) (_:JSn m) (_:m<=5000) (_:JEX) (_:JQH (qG!) JSe (KP (HZ GE!)))
def kL:Z5! [B7!,"lent","kept"] Ue:={}
abbrev Jz8:TT:=Ki (UG (fk JIx) (fb! Cl!) ij!)
def Jpw(F:a! Ci! "House.clean" Ue)(T:Txt)(Tx:uJ)(MR:JQi fR dR)(ML:sg! fL dL)(MG:sV! fG dG) : JE4 Jcu:=by
 have GR:EL 1 fR dR [It!,Aw!] Hq:=Ni MR.fn;have GL:Do! fL dL Kz! zT:=Jkj ML.fn T;have GG:mH! fG dG zP:=Jkk MG.fn T Tx;show G? kL;have⟨p,G,n,m,rs,R,rfl,S,ok,zn,gA,f_,pm,pw,rc,zm,cR,k⟩:=h;show A?;show K?;show B?;show Ac? (JQz te Ef! Jz8 i 1 OG! kL.nd JLS (JT3 p6 fE! Af) ai!) (SW.Z_ (Ac (hS! 2 kL.nd (by first|show Sf! A!|show Os! A!) (hc! GR hr MR.mg MR.fn.kp MR.bd (Mk! (Be Jpm (Tf! (Yp A!) Tx.list PyProof.Rows.boot_list WP) w!) WP))) (V1! (Bf (dm! ML.mt GL ML.bd (CR! (PE.Z_ (vq! Ef! (lb! 2) JLS P6! ay! QA! JGw (pv 0)))))) IQ! (Cz Rs v! MG.mt GG hr MG.bd R! A9))));have z0:=ok.oz;have z1:=ok.hz;have z2:=ok.PU;have oA:p≠G.o:=λz=>S.UO (b:=WF) (by simp[BX]) Fx!;show HM? dx hp F2! (Dw G) WF F3! (λob ll gJ=>?_);show Qh (b:=JC0) (be:=OG!) (l:=BL!) (FM:=j5!) (val:=Jd!) (ob:=ob) gJ (Td! (AA z0 zn)) Ab (zc!) λH2 bs sm el tl=>?_;.have JG:jS! (Mt! (B7 G)):=U9! (UE! oA hp);(have gv:Ce (HG! IK!) (tk t)=D! (wp (Aj BL! t)):=GH! rU! (O9 ht));show⟨H5?,JG,v!,F2!,Dw G,_,A!,WF,_,A!,JQS (tk t) (GM! ob (UO! sm)) gv.symm,_,_,A!,A!,_,A!,q⟩
 have eQ:U0! WF (as! Dl BL!):=UO! sm;show IQ? (EQ! H2 WF Dl BL!) WF eQ;.show Ei? WF;rw[F3!] at z;cases z
 have nll:ll≠G.o:=λz=>by rw[z,Ab] at gJ;cases gJ
 have s3:EP! JNg:=sD! (b=G.o) F3! (U9! JJF)
 have YZ:LA! JNg ll En!:=Op nll el
 have tl3:BS JNg bs (Mx G):=by show Iv? tl;rw[Ad (OH! eQ)];show e
 generalize EQ! H2 WF Dl BL!=H3 at s3 YZ tl3;have S3:=GS! s3;show Bq?;show HM? T_ TC Iv! (F9 G) G.h (GE S3.dh) (λl1 NG gK ky1=>?_);have t1:BS H3 NG Ax!:=Jkq (val:=Qj!) ky1;have s4:=Ro! Ya! gK;have e4:LA! JOv l1 Ya!:=Ab;have t4:BS JOv NG Ax!:=JF0 t1;have eZ:=GX! YZ;have vo:BS JOv bs (Mx G):=JF0 tl3;generalize Vm! H3 l1 Ya!=H4 at s4 e4 t4 eZ vo;have n1:=AD! t4;have n2:=AD! vo;have n3:Ee! Mx G 62:=by have:Ee! Mx G (HG! (·.1)).length:=RC!;show BP?;show AA (AA this z0) zn
 show⟨R? l1,ll,_,_,A!,A!,e4,eZ,pw! Tv,λcl xX=>?_⟩;rw[<-ZF];have s5:=Ro! cb! xX;have e5:LA! (Y9! H4 cl cb!) cl cb!:=Ab;have t5:BS (Y9! H4 cl cb!) (NG++bs) (JLE):=Ue! s5 (R7 t4 vo);generalize Vm! H4 cl cb!=H5 at s5 e5 t5;have S5:=S3.same (Ah s4 s5);have⟨cZ,bx⟩:=S5.ob;show⟨B0?,cZ,_,_,A!,bx,v!,Di!,E7 G,cl,na,NG++bs,JLE,re,m,R,A!,e5,t5,U! ZE (CW! (MM (AA z1 zn) n3)),S5.dl,CW! (AA z2 zn),AN! ⟨FT! S5.hl,by have:=(O6! q hq).2;show CW! (AA this zn),(S.bJ.2.2.2 q hq).2.2.1⟩,rc,zm,λkp H6 hkp s6 ek=>?_⟩;show Im?;show GC?;show⟨_,A!,p,YJ,_,A!,bw,Be!,_,A!,p,C,YJ,_,_,A!,bw,v!,F2!,Dw G,WF,_,A!,S6.dO,λwU gl xR=>?_⟩;have nkp:kp≠G.o:=λz=>by rw[z,S5.dO] at hkp;cases hkp
 show Qh (b:=xK!) (be:=lb! 2) (l:=BL!) (FM:=j5!) (val:=Jd!) (ob:=wU) xR (Td! (AA z0 zn)) Ab (λH7 a t Q' jS ha ht q=>?_) λH7 gs jS eg tg=>?_;.show⟨_,A!,_,A!,kp,_,A!,Gv (jS kp (Bk R) (UE! nkp ek)) ha,?_⟩;(have e8:Fd! (!(if Dh! then some (V.bl true) else none).isSome) (t∉R):=by show D? Dh!;(.rw[AE c];simp[c]);.rw[AD c];simp[c]);rw[e8];show BT?
 have ho7:AT H7 WF (.IQ wU (Dl BL!)):=UO! jS;show S? (EQ! H7 WF Dl BL!) ⟨WF,wU,_,ho7,λo v z=>?_,A!⟩;.show Ei? WF;rw[F3!] at z;cases z
 have ngl:gl≠G.o:=λz=>by rw[z,Ab] at xR;cases xR
 have s8:BZ H6 JPu:=sD! (b=G.o) S6.dO (L! jS JJF)
 have eg8:LA! JPu gl gs.map:=Op ngl eg
 have tg8:BS JPu gs (oN! xK!):=by show Iv? tg;rw[Ad (OH! ho7)];show e
 generalize EQ! H7 WF Dl BL!=H8 at s8 eg8 tg8;have S8:=S6.same s8;show⟨p,gl,G,gs,_,A!,S8,Ka!,GE eg8,tg8,λH9 S9 xm=>?_⟩;rw[Jel Ka!] at S9;have⟨bS,gH⟩:=S9.ob;show DK? bS gH bS gH;rw[Bq];have cu:=S9.fld bS (keepR G R).AY ((keepR G R).BF+1);have aH:ZW p G H8 (rk! (S6! di! ((keepR G R).BF+1))):=Iy! (xl! xm)
 have cu:Hk! (rk! (S6! di! ((keepR G R).BF+1))) (KP GE!):=cu;generalize JFV H9 bS (S6! di! ((keepR G R).BF+1))=cx at cu aH;have⟨kf,kT⟩:=cu.ob;have s08:EP! H8:=T7! s3 s4 (Ji! s5 s6 s8);show⟨Aq? kf,_,A!,kT,B9 _ ZV,p,KP GE!,n,rs,A!,cu,cR.KP,zn,gA,eI! f_,pm,pw,λx as m_ hx ex ba yX kY=>?_⟩;have w_:qG!:=Iy! (Ak (iG! aH (NE s08 e)) hx);show k x as m_ w_ ex ba yX (Iy! (kY _ _ (aH _ _ (NE s08 e) h1 h2) h1 λz=>h2 (List.Sublist.subset (Vt (G:=gk! (keepR G R).AJ) IU) z)))
open E
open E K51
open N FX
open PySem PySem.Spec PyProof.Rows L2
def J1t{a b c d:Str}{k1 k2:NameKind}{cl:CF!}{y:Str}(hc:oZ!)(hd:aU! d)(h:Qf! ([NN!,NO!,(c,k1),(d,k2)]:GV!).lookup ([NN!,NO!,(c,k1),(d,k2)]:GV!).lookup):Lv! :=r2! (by show DB?;show Bs? hp;show HO?;show HO?;(.show hc);.show hd)
inductive NO(H:Hp)(t:Addr)(n:Int)(kind:Str)(s g:Int)(tb:T2)(x:Int):B!
 | mk a b (_:mQ! [Hv!,UV BD!,T! s,K4!,Br!]) (_:ch! [B9!,T! x]) (_:BA!)
def NO.keep(h:JQp x)(k:BB!):NO H' t n BD! s g tb x:=let⟨a,b,e1,e2,e3⟩:=h;⟨a,b,JDI,c0!,Mp! e3⟩
open E FX
open N K51
open PySem L2 FX
abbrev J2b(G:CN)(tb:T2)(wt:Int)(G':CN):B!:=(Qo!/\JD6 (G'=ki! Hu! (NC! (o-wt))))\/(Gb!/\G'={ G with BF:=Hd!,hand:=Hu!,AK:=d5! })
abbrev Wt(kind:Str)(G:CN)(tb:T2)(wt:Int)(G':CN):B!:=(kr!/\J2b G tb wt G')\/(ze!/\G'=bl! d5!)\/(kind=EJ!/\G'=kj! fG!)
def Wt.BX(h:JHc):fP! G':=by rcases h with⟨_,⟨_,o,_,rfl⟩|⟨_,rfl⟩⟩|⟨_,rfl⟩|⟨_,rfl⟩<;>rfl
open S
abbrev Sz(G:CN):B!:=bk!/\Qt!/\Qp!
inductive Hn(vs:C!)(H:Hp)(Q:VK)(E:XK):B!
 | mk (p t:Addr) (W:ET) (n s g:Int) (kind:Str) (tb:T2) (wt:Int) (q:Addr) (G G':CN) (_:Jv!) (_:Aq!) (_:JQp wt) (_:xL!) (_:JHc) (_:Sz G) (_:∀H',Hx! { W with qs:=i2! PE! }->M5!->Pi!)
def NT:cL! [B7!,E1!,"kind",YI!,Cn!,Kb!] Km:={}
def Jiq(F:a! "weight_came" "World.weight_came" Km)(T:Txt)(TW:Ga)(M1:JPO f1 d1)(G1:rE! Hj! zO)(M2:JPP f2 d2)(G2:e9! Hj! Jcv)(M3:JPQ f3 d3):JGt Hn:=by
 have G3:Do! f3 d3 Hj! Jj5:=Jpu M3.fn T;show fW! NT;.have⟨p,t,W,n,s,g,kind,tb,wt,q,G,G',rfl,_⟩:=h;rfl
 .have⟨p,t,W,n,s,g,kind,tb,wt,q,G,G',rfl,S,⟨a,b,e1,e2,e3⟩,i,cm,⟨z1,z2,z3⟩,k⟩:=h;show Q?;show B?;show CR? NT.nd (Nr! NT.nd (JTs GF!) (h2! 4 NT.nd VI! 5 NT.nd VI! (ok! (PV! EQ) (JP4 AI! JHF) (ok! (PV! EQ) (vo! AI! v! Ke! G2 HM! JHF) (Kx! (JPm AI! v! JHF))))));show IN? QK!;show⟨H8?,BI? hp wE HO! (Ds W) _,GW? t _ QK! CN! _ _ A! cJ! i.UK⟩;show Fe?;show Fe?;show B4?;(have dn:Done q G H G' λH'=>Pi!:=λH' S' fr=>by have⟨x1,x2⟩:=S.step SZ S' fr (ut (S! (by rw[cm.BX] at hb;show hb)));show k H' x1 x2);rcases cm with⟨rfl,cm⟩|⟨rfl,rfl⟩|⟨rfl,rfl⟩;(.show mZ ⟨R? q,HQ,_,A!,hq,Be!,_,A!,_,A!,q,b,G,tb,wt,A!,RS!,e3,z1,z2,z3,?_⟩;rcases cm with⟨h1,o,h2,rfl⟩|⟨h1,rfl⟩;(.show E? ⟨h1,o,h2,dn⟩);.show AD? h1 dn);(.show bH (mZ ⟨_,A!,q,HQ,_,KZ? hq q RS! e3 z3 dn⟩));.show bH (bH ⟨_,A!,q,HQ,_,KZ? hq q RS! e3 z2 dn⟩)
abbrev Fg(G:CN)(tb:T2)(sh:Int)(HV:Bool):CN:=ki! W3! JN5
abbrev gk(p:Addr)(W:ET)(H:Hp)(x:Addr):B!:=Ce! (Hf!->Ga!->b≠x)
inductive N9(vs:C!)(H:Hp)(Q:VK)(E:XK):B!
 | mk (p t:Addr) (W:ET) (n s OX goal:Int) (tb:T2) (q:Addr) (G:CN) (_:Jv!) (_:Aq!) (_:NO H t n E4! s OX tb goal) (_:NA W OX q G) (_:Sz G) (_:IA!) (_:Jn!) (_:((goal=OX/\∀(x t1:Addr)(H':Hp),jV! (JOJ q!) Dl! aY!->NO H' t1 T1! S7! OX s tb B6!->M5!->PF!->a3!->ds! [JDp]->M0!)\/(goal≠OX/\∀(x t1 t2:Addr)(H':Hp),jV! (JOJ am) Js! (aY!++[(Js!,t2)])->NO H' t1 T1! AL! OX goal tb B6!->NO H' t2 (Dl!+1) S7! OX s tb B6!->JF9 PF! a3! (ds! [JDp,JR! Js!]))))
def RE:cL! [B7!,E1!,"home",Cn!,"goal","went"] T6:={}
def Jpo(F:a! "pass_came" "World.pass_came" T6)(T:Txt)(TW:Ga)(TP:Pn)(M1:JQU f1 d1)(M3:W8!) : LL! Hh! N9:=by
 show EO? je! Jfc Jmf;show Cp?;show fW! RE;.have⟨p,t,W,n,s,OX,goal,tb,q,G,rfl,_⟩:=h;rfl
 .have⟨p,t,W,n,s,OX,goal,tb,q,G,rfl,S,⟨a,b,e1,e2,e3⟩,i,⟨z1,z2,z3⟩,ho,zl,k⟩:=h;show B?;show CR? RE.nd (rM! RE.nd VI! RE.nd VI! (Ac (Bf (JP4 JIM (JCl WP (Mb Bs BO! EQ PP!)))) (JTT 5 RE.nd Lr! (Bc (Le! BO! EQ) (sj! K3! (vo! WP Iz! Iw! G3 Ix! (JH8 BO! WP))) A5) (SC! (aR! IL IK Fm K3! (vo! WP Iz! Iw! G3 Ix! (JH8 GF! WP))) (Ap (pv 5))))));show IN? QK!;show Fe?;show Fe?;show B4?;show⟨a?,CW,dx,_,_,A!,hp,wE,HO!,Ds W,_,A!,CN!,_,_,_,A!,A!,cJ!,i.UK,q,HQ,_,A!,hq,Be!,_,A!,_,A!,p,CW,dx,_,_,A!,hp,wE,TW.nS,Kf W,_,A!,_,A!,A!,q,b,G,tb,B6!,JII,A!,RS!,e3,z2,z1,ho,Zt!⟩;show ER?;show A1?;show⟨Bu!,H9!⟩;have s2:=hn! .BK hx;have ex:JFP (PQ! H1 x []):=Ab;show Ej?;have lX:=FO! RS.trans s2;(have jO:PF!:=λz=>by rw[z] at hx;rw[W1.hs] at hx;cases hx);(have xnw:a3!:=λb o e hb z=>by rw[<-z,FI! JF hb] at hx;cases hx);have mI:=L! lX.BE e1;have Y_:=L! lX.BE e3;show BE?;show GE?;have lC:x∉JCn (JOJ (XL! (d9! goal OX))):=W2.WS ex jO;show⟨t?,A!,A!,_,A!,?_⟩;rcases k with⟨rfl,k⟩|⟨ne,k⟩;(.rw[show Ad! (! JTo goal) by simp];show k?;show⟨_,A!,IP! ex,_,A!,p,CW,ME,_,_,A!,JG,wE,I0!,D7 _,Bp!,T_,_,A!,VU,Jk!,_,A!,_,A!,t,_,_,_,A!,A!,Ac! mI,Fl? ME JG (λa2 gN=>?_)⟩;show Af? p8! gN;show Ek?;show H0? W3.po zl (λt1 H4 ht et S4 bO=>?_);show Jb?;show EZ?;have jq:JFP H4:=JHv ex lC;show Ia? jq (by change 0<=20000;decide);show EQ? fY! jq;show P? (k x t1 _ ?_ ⟨a2,b,pP!,a4! Ab,JJl⟩ (w8!) jO xnw Ab);(·(have:=W4.keep (H':=JP7) JQI);show N? (Ut! (y! (JTo goal)));show this);·(show KO?);rw[Ad oX];show JP0 bO (GT! s3 s2 (Uf! JF)));.rw[show AU! (! JII) by simp[ne]];show l?;show⟨_,A!,IP! ex,_,A!,p,CW,ME,_,_,A!,JG,wE,I0!,D7 _,Bp!,T_,_,A!,VU,Jk!,_,A!,_,Fl? ME JG (λa2 gN=>?_)⟩;show Af? p8! gN;show Ek?;show H0? W3.po zl (λt1 H4 ht et S4 bO=>?_);show Jb?;show EZ?;have jq:JFP H4:=JHv ex lC;show Ia? jq (by change 0<=20000;decide);show EQ? fY! jq;have l1:NO fY! t1 T1! AL! OX goal tb B6!:=⟨a2,b,pP!,a4! Ab,JJl⟩;(have W5:=W4.keep (H':=JP7) JQI);have xu:Yz! fY! x bZ!:=Ab;have qx:=a4! (NE s3 mI);have qw:=JJl;(have wf5:∀b' o',BE! b' o'->b'∉GK!->AT fY! b' o':=λb' o' e' LI=>by (show KO?);rw[Ad oX];show JP0 bO (GT! s3 s2 (Uf! JF)));generalize JP7=H5 at l1 W5 xu qx qw wf5;have⟨cZ,bx⟩:=W5.ob;have⟨YJ,lr⟩:=W5.po.ob;show⟨_,A!,IP! xu,_,A!,p,CW,cZ,_,_,A!,bx,wE,I0!,D7 _,Bp!,YJ,_,A!,lr,Jk!,_,A!,_,A!,t,_,_,_,A!,A!,Ac! qx,Fl? cZ bx (λa6 ha6=>?_)⟩;have s6:=ET! p8! ha6;have W6:=W5.same s6;show⟨Bp!,W.pd,Dl!,aY!,_,_,_,_,A!,W6.po,(by rw[ZE];change _+1<=2700;show AF zl TD),λt2 H7 ht7 xy S7 UI=>?_⟩;have⟨W7,lE⟩:=W6.LZ S7 UI;have bK:=MY! W6 lE;have ex7:Yz! H7 x bZ!:=FS lE (NE s6 xu) lC;show Ia? ex7 (by change 1<=20000;decide);(have kr:DH H7 (ip! H7 x bZ! (Kp! Js!)):=FN! ex7);show P? (k x t1 t2 _ ?_ (l1.keep (((JX s6).trans bK).trans kr)) ⟨a6,b,L! kr.BE xy,FF! kr.BE bK.BE Ab,FF! kr.BE bK.BE (NE s6 qw)⟩ (w8!) jO xnw Ab);(·(have:=W7.keep (H':=ZU! H7 x (bZ!++[Kp! Js!])) JQI);show N? (show wT JII by simp[ne]);show this);·(show KO?);rw[Ad oX];show JP0 UI (NE s6 (Uf! wf5))
open E
open S
inductive Je(vs:C!)(H:Hp)(Q:VK)(E:XK):B!
 | mk (p:Addr) (W:ET) (_:Ju!) (_:Aq!) (_:JOb (ec! I1! Zs!) XV)
def Jie:dr! Ht:={}
def Jgc(F:a! "letters" "World.letters" Ht)(TW:Ga)(TP:Pn)(M1:JQg f1 d1):JE4 Je:=by have G1:Do! f1 d1 DG! Ts:=Jgk M1.fn TP;show G? Jie;have⟨p,W,rfl,S,k⟩:=h;show A?;show B?;show GF?;show Hb? WP Iz! A9;show⟨CE? CW dx,hp,wE,I0!,D7 W,Bp!,HQ,_,A!,hq,Jk!,Bp!,W.pd,W.c,HF!,A!,S.po,k⟩
structure mf(G:CN)(i:Nat):B! where
 eq:YL λh o l r=>G=JFd
def MB:Al! [B7!,"n",E1!,"kind"] K0! Lv:={}
inductive Sb(vs:C!)(H:Hp)(Q:VK)(E:XK):B!
 | mk (p b:Addr) (h g:Int) (W:ET) (tb:T2) (q:Addr) (G:CN) (_:vs=JH7) (_:Aq!) (_:BA!) (_:CX!) (_:(HK λq2 G2=>NA W g q2 G2)) (_:Qt!) (_:Qp!) (_:W.ls.length<=2700) (_:JJX (mk! Qo! (∃o,wO! g5! (H!=tb) tb o/\PD! (AG! (H!=tb))=none/\JRa (kj! (NC! (o+W.share))) AL! g B6!)\/mk! Gb! (∃wt,JNG/\JMY ((wt=1/\JRa (bl! (Bg AO! tb 0)) E4! tb.1 g)\/(2<=wt/\JRa (bl! (Bg AO! tb (wt-Uw!))) AL! g (Uw!))))))
def RD:Al! [B7!,"h","g","b",YI!,Kb!] ar! uw:={}
def Jbx(h:JL5 w9):wO! (Bg l t v).find? Cr! t v:=by have m:DS!:=A5! (Kq! (BI h));unfold Bg;rw[AE m];clear m;induction l with | nil=>simp at h | cons q l ih =>rw[AI];show AA?;(.rw[AE e,CU];simp[e]);.rw[AD e,CU];rw[CU] at h;simp only[e,decide_false] at h ⊢;show ih h
def Jpn(F:a! Ch! uw! uw)(T:Txt)(TW:Ga)(TP:Pn)(MH:L0!)(M1:JQT f1 d1)(G1:JM1 jO! zU)(M2:JOw f2 d2)(M3:W8!) : nG! ar! Sb:=by
 show CF?;have G2:i4! f2 d2 Jj1:=JHH Jpr M2.fn;have G3:Bs! 1 f3 d3 hx! He:=MW! (Me M3.fn TP);show b? RD;have⟨p,b,h,g,W,tb,q,G,rfl,S,hb,i,⟨q2,G2',i2⟩,z1,z2,z3,k⟩:=h;show A?;show Q?;show B?;show Ac? (JRe 4 RD.nd a9!) (Ac (Bf (JS7 MH.mt GH HJ MH.bd)) (JHy 5 RD.nd (xi! BO! E3! G1 EI! (Zc! WP)) (Pb! (F1 (Y2! BO! v! Ke! G2 HJ HM! (CR! AI!))) (JTS Iz! Iw! G3 HJ Ix! (JTd w! JB7 EQ))) (JTS Iz! Iw! G3 HJ Ix! (JTd w! EQ K3!))));show B4?;show Ix? h S (o! ⟨q,G,K9? i g (o! ⟨q2,G2',i2,?_⟩)⟩);show⟨_,A!,q,HQ,_,A!,hq,Be!,_,A!,_,A!,p,CW,dx,_,_,A!,hp,wE,TW.nS,Kf W,q,b,G,tb,B6!,A!,RS!,hb,z1,z2,?_⟩;rcases k with k|⟨h1,h2,o,h3,h4,k⟩|⟨h1,h2,wt,h3,k⟩;show AW?
 .show BX? ⟨h1,h2,o,h3,Zt!⟩;show ER?;show A1?;show GG?;show KX?;(have e4:Uk! (JQL PD!):=Ds! h4);rw[e4];show k?;show GH?;show GI?;show⟨Fn? T_ TC bU gG⟩;show Hu? p8!;show Ej?;show Js?;show Jc?;show Jd?;show Ke? (NE RS.BE hb);show Kf?
 .show AG? ⟨h1,h2,wt,h3,?_⟩;rcases k with k|⟨rfl,k⟩|⟨h4,k⟩;(.show E? k);(.show Hc? wP;(have eg:H5!-Iu 1=0:=wP);rw[eg] at S1;show ER?;show A1?;show GG?;show KX?;(have e4:y! (Aa! (JQL (Bg AO! tb 0).find?)):=by rw[Jbx h3];rfl);rw[e4];show l?;show GH?;show GI?;have tJ:=UN! hb;show⟨a?,CW,T_,_,_,A!,TC,wE,I0!,D7 _,Bp!,bU,_,A!,gG,Jk!,_,A!,_,A!,b,_,_,_,A!,A!,Ac! tJ,A!,_,A!,_,A!,H1!,Oz! ?_⟩;show Hu? [AA! b,xz g];show Ej?;show Js?;show Jc?;show Jd?;show Ke? tJ;show Kf?);.show Hc? (JL (Int.lt_of_lt_of_le TD h4));(have eg:Iu wt=Uw!:=by unfold Iu;rw[AD (JL h4)]);rw[eg] at S1;show ER?;show A1?;show GG?;show KX?;(have e4:Uk! (JQL (Bg AO! tb (wt-Uw!)).find?):=by rw[Jbx h3];show AL GY!;have:wt-Uw!=0:=ZO z;lia);rw[e4];show k?;show GH?;show GI?;have tJ:=UN! hb;show⟨Fn? T_ TC bU gG⟩;rw[eg] at *;show Hu? [AA! b,Kp! Uw!];show Ej?;show Js?;show Jc?;show Jd?;show Ke? tJ;show Kf?
open E
structure uQ(H:Hp)(c h:Int)(L:j!)(bs:Y!):B! where
 BQ:JOr bs.length
 OW:H0! (λ(y:Int×Addr)(q:T2×Int)=>NO H y.2 AK! EJ! h q.1.1 H! PP) L bs
open S
inductive Se(vs:C!)(H:Hp)(Q:VK)(E:XK):B!
 | mk (p l:Addr) (h:Int) (W:ET) (as:Z!) (bs:Y!) (_:vs=[DF!,DH!,JU!]) (_:Aq!) (_:BE! l GU!) (_:l∉GK!) (_:LJ H as bs) (_:bs.length<=60) (_:Jn!) (_:JP1 (Hx! (S9! (hZ! bs.length) MZ!)) h bs)
def Jsb:Al! UG! UG! Pu:={}
abbrev Jx1:TE:=JQx (gr K (Bt 2) BW!) EJ! 1 (eD! (UG (gq K) pn! ij!) 0)
def Jpp(F:a! "give_back" "World.give_back" Pu)(TW:Ga)(TP:Pn)(M3:W8!):LL! UG! Se:=by
 show Cp?;show G? Jsb;have⟨p,l,h,W,as,bs,rfl,S,el,lno,bk,zb,zl,k⟩:=h;show A?;have lab:=AD! bk;show r? (JRy Jx1 [("h",1),nP!] (Ra! 2) (JS! A! CM!) (λy h=>J1t BN! BN! h) ⟨Hm!,Hm!,CM!⟩ (Ar (pl:=_) (Aq EQ A!) Iz! Iw! G3 hr Ix! R! A9 (vs! w! (TL! DR!) Rs)));show CX? l el ks!;have s0:=nt!;have nrl:l≠r:=Ak el MC;have lI:r∉GK!:=S.RF MC;have S0:vW! (PT! r []) (S9! d3! (W.ls++[])):=mS! (Ut! (d3!=W.c)) (GS! s0)
 show JQv l xs c9! tt H6! te Jx1 be [("h",1),nP!] σ [Eg!,Du! h,Nl!] (JMq (U0! l GU!) (∃L,ys=qv!/\QL! JHr/\uQ H2 W.c h L (bs.take i)/\LJ H2 as bs/\JC7)) ⟨Ab,L! s0 el,[],A!,S0,JB2,FO! bk.keep s0,Uu! s0⟩ (xW! (Cq! h.2.1) v6);.rintro i v ys H2 N hi ⟨er,js,L,rfl,W2,b2,yN,RR⟩ hN;show l?;rw[ZH] at hi;cases gM:XJ! with | none=>rw[gM] at hi;cases hi | some ai =>rw[gM] at hi;cases hi;(have hib:i<bs.length:=NE! lab gM);have⟨q,hq⟩:=A4 hib;have⟨cc,ea,ec⟩:=A6 yN i ai q gM hq;(have lL:L.length=i:=by have:=AD! b2.OW;show N? CM;lia);show BE?;show GE?;show⟨CE? CW ME,JG,wE,I0!,D7 _,Bp!,T_,_,A!,VU,Jk!,_,A!,_,A!,ai,_,_,_,A!,A!,Ac! ea,A!,cc,_,_,_,A!,A!,Ac! ec,A!,_,A!,?_⟩;show J8? W2.po lL (λt H4 ht et S4 bO=>?_);have⟨W4,VH⟩:=W2.LZ S4 bO;have QD:=MY! W2 VH;have bR:AT H4 r ig!:=FS VH er lI;have eZ:AT H4 l GU!:=FS VH js lno;show EQ? (ip! H4 r qv! JCz) bR;show⟨bR,ee! C5,Kw! ⟨Ab,Op nrl eZ,L++[(v6!,t)],Vd!,?_,?_,yN.keep (QD.trans kq),w8!⟩⟩;show Kb? W4.keep (Rh! lI);(.rw[CY,hq];show⟨?_,Ep ?_ (Ax (λ_ _ rr=>rr.keep (QD.trans kq)) b2.OW)⟩;(.have n1:=b2.BQ;(have n2:cI! bs.take=i:=U! CM (Nat.min_eq_left (A_ hib)));rw[n2] at n1;rw[ZF,n1,ZE,n2];change _=(At! AB!).map _;rw[GW,ZF];congr 1;show It?;congr 1;show JGW);.show⟨ai,cc,pP!,a4! ea,a4! ec⟩);·(have oY:b'≠r:=λz=>by rw[z] at e';rw[MC] at e';cases e');rw[Ad oY];show VH b' o' (Uf! RR) LI
 .rintro ys H2 ⟨er,js,L,rfl,W2,b2,yN,RR⟩;rw[ZA,lab] at W2 b2;rw[BY] at b2;show k r L H2 W2 b2 RR (λz=>LF! lI z (Cs! ZB!)) (λb o e _ z=>by rw[<-z,e] at MC;cases MC) er
def Nq:∀b∈BX (KP (HZ GE!)),Qk!:=ut (by unfold BX at hb ⊢;have hb:b∈JLC (ER! gp! (AG! Zl!) Ic!):=hb;simp only[BU] at hb ⊢;rcases hb with h|h|h|h|h;(.show J?);(.show CU?);(.show AV? Jc!);(.show AV? (Tx! h));.show C5? (ZN h);show Zd! (Bc! (d! (A5! ⟨q,ir!,e⟩))))
inductive Oa(vs:C!)(H:Hp)(Q:VK)(E:XK):B!
 | mk (p:Addr) (h:Int) (W:ET) (q:Addr) (G:CN) (n m:Nat) (rs:Y!) (R:G!) (_:Vi!) (_:Aq!) (_:CX!) (_:AR!) (_:n<=62) (_:eG!) (_:eq!) (_:Em!) (_:IN!) (_:JSn m) (_:m<=5000) (_:JEX) (_:(Bo (keepR G R) rs).length<=60) (_:Jn!) (_:JP1 (jV! JEz (hZ! (Bo (keepR G R) rs).length) MZ!) h JSe)
def Jff:p5! Sg:={}
def Jme(F:a! Ci! ux! Sg)(T:Txt)(TW:Ga)(MH:L0!)(M1:JPC f1 d1)(G1:rE! DG! Jcu)(M2:sv! f2 d2)(G2:e9! UG! Se):jl! GD! Oa:=by
 have GH:Do! fH dH GD! (qm! Dy):=FX.FR.no (Dt MH.fn T TW);show G? Jff;have⟨p,h,W,q,G,n,m,rs,R,rfl,S,i,ok,zn,gA,f_,pm,pw,rc,zm,cR,zb,zl,k⟩:=h;show A?;show Q?;show B?;show B4?;show r? (JFB Ke! G2 HM! (hj! w! (Cz (pl:=_) (xP! Rs wE MH.mt GH MH.bd La!) v! E3! G1 hr EI! R! A9)));show⟨_,A!,p,dx,_,A!,hp,Hq!,_,IC? A! (o! ⟨q,G,i,q,HQ,_,A!,hq,Be!,q,G,n,m,rs,R,A!,RS!,ok,zn,gA,f_,pm,pw,rc,zm,cR,λx as H1 nx ex bk S1 OK=>?_⟩)⟩;show Kx? (lY! Nq);have gF:=S.KU (b:=CN!) ZB! (ZP SZ);have jO:PF!:=λz=>nx _ _ S.hs gF.1 gF.2 Fx!;have sub:∀b,Ga!->b∉JCn JEz:=λb hb m=>by show G2?;(.show hb cn!);.have⟨z,hz,hm⟩:=EB.mp m;have hz:z∈JEz:=hz;show Io?;(.show hb JGG);.show hb (an! (Hy! HW! (ZP SZ)));show hm.imp id λz=>Nq b z
 show⟨p,x,h,_,as,_,A!,W1,ex,W1.WS ex jO,bk,zb,zl,λy L H2 W2 b2 RR jN jM ey=>?_⟩;show k y L H2 W2 b2 (ra! RR) jN (ra! jM) ey
open E
open E K51
open N FX
open PySem PySem.Spec PyProof.Rows L2
abbrev VG(G:CN)(t:T2):B!:=Ip!\/∃q∈G.holds,aH!
def Gw(h:t∈wA!):Eh!:=by unfold EM at h;cases e:Pj! G.holds.find? (H!=ta) with | none=>show Ah? | some q=>show AC?;show o! ⟨q,BI e,h⟩
abbrev gw(m:Nat)(t:T2):B!:=ZQ t/\lc<m
structure Sd(m:Nat)(G:CN)(n:Nat):B! where
 ok:AR!
 nn:∀q∈G.AK,0<=PP
 ip:∀t,Eh!->gw m t
 rk:∀t,Eh!->kb!->ly!
 ir:T2! MO! (gw m t)
 n0:0<=G.BQ
 n1:G.BQ<m
 m0:0<=G.AY
 m1:G.AY<=n
def Jbc(h:q∈Bg l t v):q=(t,v)\/q∈l:=by
 unfold Bg at h;show D? DS!;.rw[Bk!] at h;have⟨r,hr,e⟩:=ZN h;by_cases d:W!=t;(.rw[AE d] at e;show S! (by rw[<-e,d]));.rw[AD d] at e;show Li! d! hr
 .rw[Gh!] at h;show CB?;(.show z?);.show S! (by simpa using h)
def Dg(l:Y!)(t:T2)(v:Int):FC! Uj!/\(∀u∈aL!,u∈ci Uj!)/\∀u∈ci Uj!,u=t\/u∈aL!:=by
 rw[Ic];show D? DS!;.rw[AE c];show⟨c,λu hu=>hu,G7! (o! hu)⟩
 .rw[AD c];show⟨mL!,G7! (Cs! hu),Nb!⟩;show A4?;(.show L? hu);.show S! (by simpa using hu)
def C7:zg! (Aj (Bg l t v) u=JLJ):=by
 have app:zg! (kh!->Aj (JK5) u=JLJ):=λl t u v h=>by unfold Aj;rw[List.find?_append];by_cases e:u=t;(.rw[AE e,e];(have:ax!=none:=UK! JNY);rw[this];simp);.rw[AD e];have:¬t=u:=ZW! e;cases JRt (H!=u)<;>simp[this]
 have mp:zg! (DS!->Aj (db JHq) u=JLJ):=λl t u v h=>by induction l with | nil=>simp at h | cons q l ih =>unfold Aj;rw[AI,CU,CU];show AA?;(.rw[AE e];by_cases e2:u=t;(.rw[AE e2,e2,e];simp);.rw[AD e2];have n1:¬H!=u:=λz=>e2 (z▸e);rw[AL n1];by_cases hl:DS!;(.have:=ih hl;show N? (AD e2);show this);·(have:PZ! JHq=l:=by show(DF Nc!).trans (List.map_id l);have:¬W!=t:=λz=>hl (A5! (UY! z));rw[AD this];rfl);rw[this]);.rw[AD e];(have hl:DS!:=by show C? (ZM h);(.show I? h.symm e);.show h);by_cases e2:H!=u;(.rw[AR e2];have:¬u=t:=Zi! e2.trans;rw[AD this]);.rw[AL e2];show ih hl
 intro l t u v;unfold Bg;show D? DS!;.rw[AE c];show mp l t u v c
 .rw[AD c];show app l t u v c
def D6(l:Y!)(P9:T2->A3!)(t:T2):UH! DC! (λq=>P9 H!)=B3! (y! (P9 t)) Lc! 0:=by induction l with | nil=>by_cases c:y! (P9 t)<;>simp[c,Aj] | cons q l ih =>rw[FF];show AA?;(.show D? (Cw! P9 H!);(.rw[Bk!,Li! AE c];unfold Aj;rw[CU,CU,AR e]);.rw[Gh!,ih,AD (p4!),AD (p4!)]);·(have e1:Aj (q::l) t=Lc!:=by unfold Aj;rw[CU,AL e]);rw[e1];show D? (Cw! P9 H!);(.rw[AE c];(have:Aj (q::DC! λq=>P9 H!) t=UH! DC! (λq=>P9 H!):=by unfold Aj;rw[CU,AL e]);rw[this,ih]);.rw[AD c,ih]
def Np(h:X6! (0<=PP))(t:T2):0<=Lc!:=by unfold Aj;cases e:ax! with | none=>show AH _ | some q=>show h q (BI e)
open S
def Sd.of(x:C6!)(fq:R0! G')(nu:g6!)(md:u8!)(hd:g7! (Eh!\/(gw m t/\(kb!->FC! G'.AK.map))))(hl:∀q∈G'.holds,∀t∈BF!,Eh!)(nn:∀q∈G'.AK,0<=PP)(ir:T2! G'.AK.map (ly!\/gw m t))(ks:∀t,VG G' t->ly!->FC! G'.AK.map):JEB:=by
 show⟨fq,nn,Gc!,Qr!,Ay! ((ir t ht).elim (x.ir t) id),JAG x.n0,JAG x.n1,U! md x.m0,by rw[md];have:=x.m1;show BW this⟩;.show HE?;(.show C? (hd t ht);(.show x.ip t h);.show v6);.show x.ip t (hl q hq t ht)
 .rw[nu] at e;rcases id ht with h|⟨q,hq,h⟩;(.show C? (hd t h);(.show ks t ht (Io! t h e));.show h.2 e);.show ks t ht (Io! t (hl q hq t h) e)
def Sd.up(x:C6!):JZ! G:=x.of (g8! (DU n)) A! A! JSk (λq hq t ht=>ae!) I2! a5! Ye!
def Sd.tk(x:C6!):Sd m (KP G) n:=⟨x.ok.KP,I2!,x.ip,Io!,x.ir,x.n0,x.n1,x.m0,x.m1⟩
def Sd.make(x:C6!)(hm:FW!)(hn:Ae!)(a:Addr):JZ! (KP T8!):=by
 show Sd.tk ⟨x.ok.XQ a,I2!,Gc!,Qr!,x.ir,x.n0,x.n1,by change 0<=FG!;have:=x.m0;show BW this,by change FG!<=JCR;have:=x.m1;show Int.lt_add_one_of_le this⟩;.have h1:=x.m1;have h2:=x.n1;show HE?;(.show Hj?;show Ce?;(.show x.ip t (Am! ht));·show IK?;rw[this];show⟨⟨x.n0,m5! (G.BQ<12) CJ h2 MC! hm,x.m0,m5! (G.AY<60) FD h1 G6! hn⟩,x.n1⟩);.have hq:q∈Ub!:=hq;show Bf?;(.show x.ip t (Bc! iL!));·show JS?
 .show HE?;(.show Hj?;show Ce?;(.show Io! t (Am! ht) e);·show IK?;show Ct! (Ds! this) e);.have hq:q∈Ub!:=hq;show Bf?;(.show Io! t (Bc! iL!) e);·show JS?
def Ok.de(ok:AR!)(h:Qo!->IA!):R0! QT!:=by
 show(ok.mono (DU n)).hand (Uw _ ok.hn) (by have:=hh! Mf;have:=ok.hz;lia) Qr!;show Ae?;.show JIG
 .rw[ht];show mY! ht e
abbrev J7(G:CN)(ta tb:T2):CN:=KP (pY! JDy)
abbrev Iv(G:CN)(ta tb:T2):CN:=KP (pY! JGE)
abbrev Ri(G:CN)(tb:T2):CN:=KP QT!
abbrev Rj(G:CN)(tb:T2):CN:=KP zX!
def Sd.hold(x:C6!)(hb:B8!):JZ! dk!:=by
 have fq:R0! (pY! JDy):=by have⟨g1,g2,g3⟩:=x.ok.get ta;show(g8! (DU n)).holds (Uw _ g1) (by have:=Mf (EM re ta) tb;lia) Qr!;show Ae?;(.show g3 t ht e);.rw[ht];show x.ok.hk tb hb (A0! ht e)
 show K0? fq ?_ I2! a5! Ye!;show Eh?;.show n?;show Ae?;(.show Gw ht);.rw[ht];show Ts!
 .show L? iL!
def Sd.drop(x:C6!)(ta tb:T2):JZ! bF!:=by
 have fq:R0! (pY! JGE):=by have⟨g1,g2,g3⟩:=x.ok.get ta;show(g8! (DU n)).holds (g1.sublist IU) (by have:=BC (Tt! (u≠tb)) (EM re ta);unfold Iw;show AA this (lz! g2)) λt ht e=>g3 t Rv! e
 show K0? fq ?_ I2! a5! Ye!;show Eh?;.show n?;show Gw Rv!
 .show L? iL!
def Sd.take(x:C6!)(hb:Nd!):JZ! (Ri G tb):=by
 show Jz? (x.ok.de λe=>(x.ok.get ta).2.2 tb hb e) JDP;show Ae?;.show E? ht
 .rw[ht];show Gw hb
def Sd.free(x:C6!)(tb:T2):JZ! (Rj G tb):=by show Jz? ((g8! (DU n)).hand (l:=hh! Iw) (x.ok.hn.sublist IU) (by have:=BC (Tt! (u≠tb)) Ax!;have:=x.ok.hz;unfold Iw;lia) λt ht e=>x.ok.hk t Rv! e) (CU! (Pq! Rv!))
abbrev Zx(G:CN)(tb:T2)(v:Int):CN:=KP (gk! oI!)
abbrev Kd(G:CN)(tb:T2)(v:Int):CN:=KP (YM! oJ!)
def Sd.out(x:C6!)(h:IA!)(v:Int):nO! Zx :=wD! x.of ((x.ok.AJ h v).mono (DU n)) JSk ae! I2! a5! Ye!
def Sd.kO(x:C6!)(hf:Gb!)(hi:gw m tb)(hv:0<=v):nO! Kd:=by
 have okc:=(x.ok.qz hf v).hand (l:=Ax!) x.ok.hn (CC x.ok.hz) x.ok.hk;show H4? okc ae! BQ! Lf! (λt _ h=>(Dg _ _ _).2.1 t h);.rcases Jbc hq with e|hq;(.rw[e];show hv);.show I2! q hq
 .rcases JSg with e|h;(.rw[e];show o! hi);.show J?
abbrev Fo(G:CN)(R:G!):CN:=KP (HZ GE!)
def Sd.clean(x:C6!)(cR:JEX):JZ! (Fo G R):=by
 show H4? (cR.HZ.mono (DU n)) (o! ⟨q,ir!,ht⟩) (eI! I2!) pj! (λt ht hk=>?_);show Dd? hk;show A5! ⟨q,JI0 hq,e⟩;rw[e];unfold DK;rcases ht with ht|⟨r,hr,ht⟩;.show B9? (keepR G R).hand;rw[AR ht];rfl
 .show Ez? (keepR G R).holds.any (UY! (by simpa using ht));show Ho?
def OO.ofN(ok:AR!)(hn:n<=60):HK λk R=>k<=5000/\eX!:=by
 have l1:(Fw! (·.1)).length<=60:=by rw[Ka!,ZA];have:=ok.oz;show AA this hn
 have l2:Ee! Sw! G 200:=by unfold startT Mx;show AA (AC! BC) ?_;rw[ZE];have h1:=ok.hz;have h2:=BC (JC0) (Kk! HG!);rw[ZA] at h2;have h3:=ok.oz;lia
 have l3:JD9 JFm JC1:=dA! l1;have⟨k,R,h1,h2⟩:=OO.ex (nx:=QF re) (keys:=ci Fw!) (B:=60) (Jpz re) (λt=>dA! (AA (ok.get t).2.1 hn)) 5000 wG! [] (Jlw G) (by have:Ak! JFm JC1*(60+1)<=60*(60+1):=EJ _ l3;lia);show⟨k,R,h1,h2⟩
def Ok.clean(ok:AR!)(rc:eX!):Ok JCW n:=ok.keepR rc.sub.2 (rc.closed (CU! co!))
open E
open S
abbrev Jqx(G:CN)(tb:T2)(v:Int):CN:=KP { G with hand:=Hu!,AJ:=oI! }
abbrev Jqy(G:CN)(tb:T2)(v:Int):CN:=KP { G with hand:=Hu!,AK:=oJ! }
def Sd.rW(x:C6!)(KG:IA!)(hi:gw m tb)(v:Int):nO! Jqx:=by
 show Jz? (FX.Ok.AJ (G:=QT!) (Ok.de F4! λ_=>KG) KG v) Lf!;show Ae?;show Ad? ht
 .rw[ht];show GM! hi (λe=>AJ! (x.ok.new tb KG).1 e)
def Sd.rX(x:C6!)(hf:Gb!)(hi:gw m tb)(hv:0<=v):nO! Jqy:=by
 show wD! x.of (x.ok.qz hf v) Lf! ae! (BQ!) Lf! (λt _ h=>(Dg _ _ _).2.1 t h);.show Ae?;(.show As? ht);.rw[ht];show GM! hi (λ_=>(Dg _ _ _).1)
 .rcases Jbc hq with e|hq;(.rw[e];show hv);.show I2! q hq
 .rcases JSg with e|h;(.rw[e];show o! hi);.show J?
def L8(l:Y!)(t:T2)(v:Int):(Bg l t v).length<=l.length+1:=by
 unfold Bg;split;.rw[ZA];show Nn!
 .rw[ZE];show Ao!
open E
open E FX
open N K51
open PySem L2 FX
structure LT where
 kind:Str
 s:Ch
 g:Ch
 th:T2
 x:Ch
abbrev QZ(t:T2)(l:LT):Ch:=if Ma! then(if Ne! then 1 else l.x) else 0
abbrev Ct(t:T2):wS->Ch
 | []=>0
 | l::r=>cu! r
def Hm(t:T2):∀(a b:wS),Ct t CE!=Ct t a+Ct t b
 | [],b=>by simp[Ct]
 | l::a,b=>by change cu! CE!=(cu! a)+Ct t b;rw[Hm t a b];show(u9! _ _ _).symm
def Fw(t:T2)(a b:wS)(l:LT):Ct t (a++l::b)=Ct t CE!+QZ t l:=by rw[Hm,Hm];change Ct t a+(cu! b)=_;lia
def Hl(t:T2)(a:wS)(l:LT):Ct t (a++[l])=Ct t a+QZ t l:=by rw[Hm];change Ct t a+(QZ t l+0)=_;lia
abbrev QG(t:T2)(G:CN):Ch:=Dt!-Ho!
abbrev Hk(t:T2):yK! Ch
 | []=>0
 | q::r=>aC! PP r
abbrev Py:yK! No
 | []=>0
 | q::r=>q.2.AK.length+Py r
def Je8:JLK (Rg!->Hk t eN!=JKB (Hk t l) PP)
 | [],i,q,r,h=>C0!
 | x::l,0,q,r,h=>by show AZ? (x=q);subst h;change aC! r.2 l=JKB (eS!) x.2;lia
 | x::l,i+1,q,r,h=>by show AZ? Rg!;change aC! x.2 eN!=JKB (eS!) PP;rw[Je8 h];lia
def Jfw:JLK (Rg!->Py eN!+q.2.AK.length=Py l+r.2.AK.length)
 | [],i,q,r,h=>C0!
 | x::l,0,q,r,h=>by show AZ? (x=q);subst h;change r.2.AK.length+Py l+x.2.AK.length=x.2.AK.length+Py l+r.2.AK.length;lia
 | x::l,i+1,q,r,h=>by show AZ? Rg!;have:=Jfw (r:=r) h;change x.2.AK.length+Py eN!+q.2.AK.length=x.2.AK.length+Py l+r.2.AK.length;lia
def Jcj:y9! ((∀(j:Nat) r,l[j]?=D! r->JLw)->0<=Hk t l)
 | [],_=>GJ!
 | x::l,k=>by have h1:=k 0 x A!;have h2:=Wl! Jcj (λj r h=>k (j+1) r U1!);change 0<=eS!;show g9! h1 h2
def Jj0:∀{l:cr} {i:Nat} {q:gi!},Rg!->(∀(j:Nat) r,l[j]?=D! r->j≠i->JLw)->QG t PP<=Hk t l
 | [],i,q,h,_=>C0!
 | x::l,0,q,h,k=>by show AZ? (x=q);subst h;have h2:=Wl! Jcj (λj r h=>k (j+1) r U1! i!);change QG t x.2<=eS!;show IC h2
 | x::l,i+1,q,h,k=>by show AZ? Rg!;have h1:=k 0 x A! i!;have h2:=Jj0 h λj r h ne=>k (j+1) r U1! i!;change QG t PP<=eS!;show CJ h2 (FN h1)
abbrev NP(m:Nat)(l:LT):B!:=0<=l.g/\l.g<m/\gw m Sc /\
 ((l.kind=AL!/\1<=l.x)\/(zi!/\1<=l.x/\l.g≠Mb!)\/(zh!/\1<=l.x/\kt!)\/(Ne!/\kt!/\0<=l.x/\l.x<m/\0<=l.s/\l.s<m/\l.s≠Mb!))
def E5:JF! S7! E4!:=ZV
def Dk:JCK E4!:=ZV
def E6:JCN E4!:=ZV
def NP.w(h:UZ!):1<=QZ Sc l:=by grind [QZ,Dk,E5,E6,LT,NP]
def NP.nn(h:UZ!)(t:T2):0<=QZ t l:=by
 by_cases e:Ma!;.rw[<-e];have:=h.w;show CJ TD this
 .unfold QZ;rw[AD e];show AH _
def R9:∀{ls:wS},(zM!)->0<=Ct t ls
 | [],_=>GJ!
 | l::ls,h=>by have h1:=(h l Hp!).nn t;have h2:=Wl! R9 eC!;change 0<=cu! ls;show g9! h1 h2
def Je9(h:zM!)(hl:Yf!):1<=Ct Sc ls:=by have⟨a,b,e⟩:=IB hl;rw[e,Fw];have h1:=(h l hl).w;have h2:=Cd! R9 t Sc ls Ah! (Ai! (h z (by rw[e];show AE?;(.show Cs! hz);.show DJ! (AH! hz))));show CJ h1 (FN h2)
structure Wl(C:AQ!)(m n:Nat)(sh:Int)(qs:cr)(ls:wS):B! where
 len:qs.length=m
 sZ:FW!
 sd:∀(i:Nat)(q:Addr)(G:CN),o0->C6!/\zj!
 ok:zM!
 sum:∀t,C t->Hk t qs+Ct t ls=0
 sh:2<=sh
open S
variable {C:T2->Prop}{m n:Nat}{sh:Int}{qs:List (Addr×CN)}{ls:List LT}
def Jt8{P9:AP! CN No}{l:cr}{i:Nat}{q:Addr}{G':CN}(h:∀j q G,Ba! (l[j]?)->j≠i->P9 G j)(hi:P9 G' i):∀j q' G,(l.set i HY!)[j]?=D! (q',G)->P9 G j:=by
 intro j q' G e;rw[List.getElem?_set] at e;by_cases z:i=j;.rw[AE z] at e;by_cases z2:un!;(.rw[AE z2] at e;have:HY!=(q',G):=ZO e;rw[<-(MP! this).2,<-z];show hi);.show AH? (AD z2)
 .rw[AD z] at e;show h j q' G e λz'=>z z'.symm
def Wl.next(x:DU!){i:Nat}{q:Addr}{G G':CN}{QC:wS}(hi:o0)(wB:JEB)(nu:g6!)(fq:∀l∈QC,UZ!)(JAR:∀t,C t->QG t G'+Ct t QC=QG t G+Ct t ls)(JV0:G'.AK.length+QC.length<=G.AK.length+ls.length+1):OC! Ed! QC:=by show⟨U! List.length_set x.len,x.sZ,Jt8 (P9:=λG j=>JZ! G/\G.BQ=Cx!) (λj q G e _=>⟨(HP! j q G e).1.up,(HP! j q G e).2⟩) ⟨wB,l9! nu (HP! i q G hi).2⟩,fq,λt hC=>?_,x.sh⟩;have h1:=x.sum t hC;have h2:=JAR t hC;rw[Je8 hi];change Hk t qs-QG t G+QG t G'+Ct t QC=0;lia
def Wl.up(x:DU!):Wl C m He! sh qs ls:=⟨x.len,x.sZ,λi q G e=>⟨(HP! i q G e).1.up,(HP! i q G e).2⟩,F4!,x.sum,x.sh⟩
def Wl.qM(x:DU!){t:T2}{j:Nat}{r:gi!}(e:qs[j]?=D! r)(ne:pL!):E8! r.2.AJ=0:=by have⟨s,nu⟩:=HP! j W! r.2 e;show E9 λz=>ne (by rw[pS! z,nu])
def Wl.rC(x:DU!){t:T2}{j:Nat}{r:gi!}(e:qs[j]?=D! r)(ne:pL!):JLw:=by have h1:=x.qM e ne;have h2:=Np (HP! j W! r.2 e).1.nn t;unfold QG;show Int.sub_nonneg_of_le (h1▸h2)
def Wl.there(x:DU!){l:LT}(hl:Yf!)(hC:C Sc){i:Nat}{q:Addr}{G:CN}(hi:o0)(e:Zk! Mb!):ku!:=by
 show u6! λno=>?_;have h1:=Je9 F4! hl;have h2:=Cd! Jcj t Sc l qs (λj r ej=>by show D? (bR! Mb!);(.show JW? (i=j) Bn! c;subst this;have er:HW!=r:=ZO (hi.symm.trans ej);have h3:=Np (HP! i W! r.2 ej).1.nn Sc;unfold QG;rw[<-er] at h3 ⊢;have h4:Aj BL! Sc=0:=E9 no;change 0<=Aj AO! Sc-Aj BL! Sc;have h3:0<=Aj AO! Sc:=h3;show Int.sub_nonneg_of_le (h4▸h3));.show x.rC ej c)
 have h3:=x.sum Sc hC;lia
def Wl.ky(x:DU!){i:Nat}{q:Addr}{G:CN}(hi:o0)(t:T2)(hC:Hw!->C t):0<=Ho!:=by
 show D? Hw!;.show A5?;(have e1:Zk! lc:=jp (pS! c) nu);have h1:=Jj0 (t:=t) hi λj r ej ne=>x.rC ej i!;have h2:=Wl! R9 F4!;have h3:=x.sum t (hC c);have h4:Dt!=0:=E9 λz=>s.ok.rk t z (pS! c);have h1:Dt!-Ho!<=Hk t qs:=h1;lia
 .rw[E9 c];show GJ!
open E
open S
variable {C:T2->Prop}{m n:Nat}{sh:Int}{qs:List (Addr×CN)}{ls:List LT}{i:Nat}{q:Addr}{G:CN}
def mem_mid(hz:z∈Ah!):z∈a++l::b:=Qy!
def Wl.same(x:DU!)(hi:o0){G':CN}(wB:JEB)(nu:g6!)(hr:G'.AK=G.AK)(ho:G'.AJ=G.AJ):Wl C m He! sh Ed! ls :=Mc! hi wB nu F4! (λt _=>by unfold QG;rw[hr,ho]) (KE hr Nn!)
def Wl.make(x:DU!)(hi:o0)(hn:Ae!)(a:Addr):JTA Wl C Vz!:=by
 show A5?;show Mc! hi (s.make x.sZ hn a) A! F4! (λt _=>?_) (by show DV?;show Nn!);have fr:JLF:=λz=>by show DT? z;show s.ok.fresh.2.1 r hr e
 have e:Aj (Rk!) t=Ho!:=by rw[<-Jo3 fr,C7];show D? (t=FD!);(.rw[Bk!,c,E9 fr]);.rw[AD c]
 show JK? Rk! ls;rw[e]
def Md(h:∀z∈ls,NP m z)(hl:UZ!):∀z∈ls++[l],NP m z:=Ai! (by show AE?;(.show h z hz);.rw[ZK hz];show hl)
def Wl.UZ(x:DU!)(hi:o0){b:T2}(hb:TB!)(hn:b.1=G.BQ){g:Int}(g0:FX!)(g1:g<m):OC! (mc! Zx Wq!) JFv:=by
 show A5?;have hs:=x.sh;show Ib? (s.out (s.ok.hk b hb hn) _) ⟨g0,g1,JPT,lX! JMK⟩ (by rw[ZE,FY];show DV?;show ZG _);rw[Hl];show I5? (Dt!-JMn b Wq!) JUK;rw[C7];unfold QZ;show CO?;.rw[Bk!,AE (zk!),AD Dk,c];change _+(_+sh)=_;lia
 show Jx?
def Pc(h:b∈ci MO!)(v:Int):vA! (Kd G b v).AK.length:=Jf1 h v
def Wl.WW(x:DU!)(hi:o0){b:T2}(hb:TB!)(hf:ka!){g:Int}(g0:FX!)(g1:g<m)(w2:2<=ho!) : OC! (mc! Kd et!) JPp:=by
 show A5?;show Ib? (s.kO hf (s.ip b (S! hb)) i!) ⟨g0,g1,JPT,lX! (by change 1<=iN!;lia)⟩ (by rw[ZE,FY,Pc (s.rk b (S! hb) hf)];show Ao!);rw[Hl];show I5? (JJ6 b et!) (ik! AL! g iN!);rw[C7];unfold QZ;show CO?;.rw[Bk!,AE (zk!),AD Dk,c];change _+(_+iN!)=_;lia
 show Jx?
def Wl.UY(x:DU!)(hi:o0){b:T2}(hb:TB!)(hf:ka!){g:Int}(g0:FX!)(g1:g<m)(w1:ho!=1) : OC! (Y6! sQ!) JPq:=by
 show A5?;have ib:=JPT;have hil:i<m:=NE! x.len hi
 show Ib? (s.kO hf ib GP!) ⟨ib.1.1,ib.2,ib,Zd! (Bc! ⟨A!,A!,g0,g1,by change 0<=sB;show DO!,by change sB<m;show G6! hil,by rw[nu] at hf;show ZW! hf⟩)⟩ (by rw[ZE,FY,Pc (s.rk b (S! hb) hf)];show Ao!);rw[Hl];show I5? (xh! b 0-Ho!) (ik! E4! b.1 g);rw[C7];unfold QZ;show CO?;.rw[Bk!,AE (zk!),BG!,c,w1];lia
 show Jx?
def Wl.wt(x:DU!){a b:wS}{l:LT}(es:kp!)(np:zl!)(hC:bP! (C Sc))(hi:Ba! (qs[l.g.toNat]?)) : ∃G',JPW/\OC! rJ! CE!:=by
 show E2?
 show Dk? F4!;have⟨s,nu⟩:=HP! _ q G hi;rw[N4!] at nu;have iU:bn! (NP m z):=Ai! (F4! z (lc! nU!));have len:yA!+1=ls.length:=by rw[es];simp only[ZE,BJ];show A!
 have lw:∀t,QZ t l=if Ma! then l.x else 0:=JLB np
 rcases kk with⟨k,x1⟩|⟨k,x1,ne⟩|⟨k,x1,eg⟩|⟨k,_⟩;· show D? (Mb!=G.BQ);(.have KG:=JNp (hC (by rw[k];show AI?)) (by rw[N4!,c,nu]);show⟨Jqx G Sc (bo!),Ks! k (GE ⟨c,_,O9 KG,A!⟩),ph! (s.rW KG ib _) JC3⟩;show Kz? (JMn Sc bo!) CE!;show FI?;show Ax?;(.show FD?);.show FC?);.have r0:=Np s.nn Sc;show⟨Jqy G Sc (Ux!),Ks! k (xO! c),ph! (s.rX c ib (eZ! (CJ x1 (FN r0)))) (by have:=L8 AO! Sc (Ux!);change(Bg AO! Sc _).length+_<=_;lia)⟩;show B2? (JJ6 Sc Ux!+Ct t CE!);show FI?;show Ax?;(.show FD?);.show FC?
 · (have c:Mb!≠G.BQ:=JAG (ZW! ne));have r0:=Np s.nn Sc;show⟨Kd G Sc (Ux!),UV! (Py! k),ph! (s.kO c ib (eZ! (CJ x1 (FN r0)))) (by have:=L8 AO! Sc (Ux!);change(Bg AO! Sc _).length+_<=_;lia)⟩;show B2? (JJ6 Sc Ux!+Ct t CE!);show FI?;show Ax?;(.show FD?);.show FC?
 · by_cases KG:ku!;(·(have e1:YW G Sc l.x=Bg BL! Sc (bo!):=by unfold YW;rw[AE KG]);show⟨Zx G Sc (bo!),Zd! ⟨k,Ds! e1⟩,ph! (s.out KG _) JC3⟩;show Kz? (JMn Sc bo!) CE!;show FI?;show Ax?;(.show FD?);.show FC?);·(have e1:YW G Sc l.x=G.AJ:=by unfold YW;rw[AD KG]);show⟨KP G,Zd! ⟨k,Ds! e1⟩,Mc! hi s.up.tk A! iU Lf! JC3⟩;show B2? (Dt!-Ho!+Ct t CE!);rw[es,Fw,lw];by_cases d:Ma!;(.show Ct! (JNp (KE d ht) (Bi! N4! eg)) KG);.rw[AD d];lia
 .show ED?
def Sd.pass(s:C6!)(KG:IA!)(hi:gw m tb)(sh:Int)(HV:Bool):JZ! (Fg G tb sh HV):=by
 have okh:R0! { G with hand:=W3! }:=by cases HV;(.show s.ok.mono (DU n));.show FX.Ok.de s.ok λ_=>KG
 show wD! s.of (FX.Ok.AJ (G:={ G with hand:=W3! }) okh KG _) Lf! ae! s.nn a5! Ye!;show B9? W3!;unfold aW at ht;cases HV;show Ad? ht
 .show Ae?;(.show As? ht);.rw[ht];show GM! hi (λe=>AJ! (hA! tb KG).1 e)
def Wl.pass(x:DU!){a b:wS}{l:LT}(es:kp!)(hp:Ne!)(hC:C Sc)(hi:Ba! (qs[l.th.1.toNat]?)):ku! /\ (zm!->OC! (a8! q!) JGH) /\ (zn!->OC! (a8! am) JGI):=by
 show E2?
 show Dk? F4!;have⟨s,nu⟩:=HP! _ q G hi;have hs:=x.sh;have KG:=JNp hC (Ec! BO ib.1.1);have iU:bn! (NP m z):=Ai! (F4! z (lc! nU!));have len:yA!+1=ls.length:=by rw[es];simp only[ZE,BJ];show A!
 have fin:kt!/\0<=l.x/\l.x<m/\0<=l.s/\l.s<m/\l.s≠Mb!:=by rcases kk with⟨h,_⟩|⟨h,_⟩|⟨h,_⟩|⟨_,h⟩;(.show I1? Dk);(.show I1? E5);(.show I1? E6);.show h
 have⟨eg,x0,x1,s0,s1,sne⟩:=fin;have okM:NP m Tz!:=⟨s0,s1,ib,UV! (JS! JMK sne)⟩;have okH:NP m a6!:=⟨x0,x1,ib,lX! JMK⟩;have lwP:∀t,QZ t l=B3! Ma! 1 0:=λt=>by unfold QZ;rw[AE hp]
 have lwM:∀t,QZ t Tz!=if Ma! then sh else 0:=JLB E5
 have lwH:∀t,QZ t a6!=if Ma! then sh else 0:=JLB Dk
 show⟨KG,λ_=>JTB (Sd.pass s KG ib sh q!) (Md iU okM) ?_,λ_=>JTB (Sd.pass s KG ib sh am) (Md (Md iU okH) okM) ?_⟩;.show JK? (iP! cQ q!) _;unfold cQ;rw[Hl,es,Fw,C7,lwP,lwM,BG!];show Ax?;(.rw[AE d,i1!,i1!,d];lia);.rw[AD d,jD!,jD!];try lia
 .rw[ZE,FY];show DV?;show len▸EU!
 .show JK? (iP! cQ am) _;unfold cQ;rw[Hl,Hl,es,Fw,C7,lwP,lwM,lwH,AD AO];show Ax?;(.rw[AE d,i1!,i1!,d];lia);.rw[AD d,jD!,jD!];try lia
 .rw[ZE,ZE,FY,FY];show DV?;lia
open E
abbrev Iy(i:Int)(y:EE!):LT:=⟨EJ!,i,y.1.1,AK!,y.2⟩
def Jhh(q:EE!)(l:Y!)(t:T2):Aj (q::l) t=JKt Lc!:=by
 unfold Aj;rw[CU];show AA?;.rw[AR e,AE e];rfl
 .rw[AL e,AD e]
def Yr(i:Int)(t:T2):∀{l:Y!},cd!->(X6! (0<=PP))->Ct t ((DC! (AG! Rc!)).map (Iy i))=Lc!
 | [],_,_=>rfl
 | q::l,nd,nn=>by show AM?;have ih:=Yr i t PM.2 (Ex! (nn r (AH! hr)));have q0:=ZN! nn q;rw[Jhh,FF];(have lw:QZ t (Iy i q)=JKt 0:=by unfold QZ;rw[AD (show ¬(Iy i q).kind=E4! from E6)];rfl);show D? Rc!;(.rw[AE (AR c)];change QZ t (Iy i q)+Ct t _=_;rw[lw,ih];show AA?;(.rw[AE e,AE e,Li! E9 PM.1];show vB! _);.rw[AD e,AD e];show vC! _);.rw[AD (by simpa using c),ih];show AA?;(.rw[AE e,Li! E9 PM.1];show vD! q0 (IJ.mp c));.rw[AD e]
def Vp(p:a.Perm b)(nd:AT! b.map)(t:T2):E8! a=E8! b:=by
 have sY:AT! a.map:=(Id! _).nodup_iff.mpr nd;show D? (FC! b.map);.show Dd? c;have h1:=IZ nd hq;have h2:=IZ sY (uS! hq);rw[e] at h1 h2;unfold Aj;rw[h1,h2]
 .rw[E9 c,E9 (GN! c (Id! _).mem_iff.mp)]
def Pa(P9:VZ!):∀l:Q!,Ak! DC! P9+Ak! DC! (λx=>! P9 x)=l.length
 | []=>rfl
 | x::l=>by have:=Pa P9 l;rw[FF,FF];cases e:P9 x<;>simp<;>lia
open S
variable {C:T2->Prop}{m n:Nat}{sh:Int}{qs:List (Addr×CN)}{ls:List LT}{i:Nat}{q:Addr}{G M:CN}
def Wl.clean(x:DU!)(hi:o0)(hC:kY! (C t)){k:Nat}{R:G!}(rc:eX!){rs:Y!}(pm:Em!) : OC! (Y6! WL!) (w3! GE!):=by
 show A5?;show Mc! hi (s.clean (s.ok.clean rc)) A! j2! (λt _=>?_) ?_;.show AE?;(.show F4! z hz);.show Bt? P8!;have⟨jh,gD⟩:=L6! hy;have jg:=jy! Md! jh;have im:=s.ir AK! (A5! (CB! y jg));show⟨im.1.1,im.2,im,dU! (ak! (by have:=BV gD;change 1<=y.2;show(BV gD)))⟩
 .rw[Hm];have eE:ce!:=JIz Yg!;have e1:Ct t ((Bo GE! rs).map (Iy sB))=UH! Kf! (λq=>! Ll!) :=Yr sB t (eE.sublist (List.filter_sublist.map _)) (Ex! (s.nn r (Md! RR!)));rw[e1,D6 rs (λt=>! do!) t,Vp pm Yg!];show B2? (pa! Ll!-UH! MQ! ll!+_);rw[pc! do!,D6 BL! (jI! Dh!) t];(have e2:H4! (y! (Aa! Dh!)) Ho! 0=Ho!:=by show D? Dh!;(.rw[AE (AR c)]);.rw[AD (by simpa using c)];have h1:=x.ky hi t (hC t);by_cases d:Hw!;(.have h2:¬0<Ho!:=λz=>c (rc.sub.2 t (by unfold startT Mx;show AG.mpr (Bv! (DJ! (AG.mpr ⟨d,AR z⟩)));rw[s.ok.ke];show AR d));show vD! h1 (IJ.mp h2));.rw[E9 d]);rw[e2];cases do!;(.rw[h4!,AE (by rfl)];lia);.rw[BG!,h4!];lia
 .rw[ZE,ZA];have h1:(Bo (keepR G R) rs).length<=cH! (λq=>! Ll!):=RC!;have h2:=JOc Ll!;show Ja? Ll! AO!;change Ak! F0! (λq=>Ll!)+_<=_;lia
def Wl.good(x:DU!)(hn:n<=60)(hi:o0):Good G:=by show A5?;have h1:=s.ok.hz;have h2:=s.ok.oz;have h3:=s.ok.rz;show⟨s.ok.hn,Rd! h1,s.ok.on,Rd! h2,Yg!,Rd! h3,Nc!⟩;have⟨a,fd⟩:=Cd! Sr l re t W! (KE s.ok.ke JMr);have⟨g1,g2,_⟩:=s.ok.get W!;show⟨a,_,fd,g1,Rd! g2⟩
open E
inductive gx(qs:cr)(t:T2):B!
 | mk (j:Nat) (q:Addr) (G:CN) (_:wp!) (_:Hw!)
structure SD(qs:cr)(ls:wS)(X:AQ!):B! where
 hand:bp! (O3! (¬X t))
 X_:Ii! (bP! (¬X Sc))
 hold:bp! (∀r∈G.holds,kX! (X t->X W!))
 old:bp! (∀t,X t->bR! lc->kZ!)
abbrev OB(qs:cr)(ls:wS)(qs':cr)(QC:wS):B!:=∀X,OJ! X->SD qs' QC X
def OB.refl(qs:cr)(ls:wS):Tb! qs ls:=λ_ h=>h
abbrev WN(ls:wS)(j:Int)(t:T2):B!:=∃l∈ls,Ma!/\((Ne!/\l.s=j)\/(zi!/\l.g=j))
abbrev WM(qs:cr)(ls:wS):B!:=bp! (∀t,Eh!->pL!->1<=Dt!\/WN ls Cx! t)
open S
variable {qs:List (Addr×CN)}{ls QC:List LT}{i:Nat}{q:Addr}{G G':CN}{X:T2->Prop}
def Eu{l:cr}{j:Nat}{q':Addr}{G2:CN}(e:(l.set i HY!)[j]?=D! (q',G2)):(j=i/\G2=G'/\q'=q)\/(j≠i/\l[j]?=D! (q',G2)):=by
 rw[List.getElem?_set] at e;by_cases z:i=j;.rw[AE z] at e;by_cases z2:un!;(.rw[AE z2] at e;have:HY!=(q',G2):=ZO e;show E? ⟨Fx!,(MP! this).2.symm,y5! this⟩);.show AH? (AD z2)
 .rw[AD z] at e;show GM! (λy=>z y.symm) e
def SD.next(x:OJ! X)(hi:o0)(h1:g7! (Ip!\/¬X t))(h2:∀l∈QC,bP! (Yf!\/¬X Sc))(h3:∀r∈G'.holds,kX! ((∃r0∈G.holds,JPX)\/¬X t))(h4:Kg!):SD Ed! QC X:=by
 show⟨λj q' G2 e t ht=>?_,hB! ?_,λj q' G2 e r hr t ht xt=>?_,λj q' G2 e t xt et=>?_⟩;.show Dl?;(.rw[e2] at ht;show C? (h1 t ht);(.show Df! i q G hi t h);.show h);.show Df! j q' G2 e t ht
 .show C? (h2 l hl nb);(.show x.X_ l h nb);.show h
 .show Dl?;(.rw[e2] at hr;rcases h3 r hr t ht with⟨r0,m0,e0,t0⟩|h;(.rw[<-e0];show x.hold i q G hi r0 m0 t t0 xt);.show I? xt h);.show x.hold j q' G2 e r hr t ht xt
 .rcases Eu e with⟨ej,e2,_⟩|⟨_,e⟩;(.rw[e2];have:=Rt! x.old t xt (Bi! et ej);show CJ this h4);.show x.old j q' G2 e t xt et
def OB.less(hi:o0)(h1:g7! Ip!)(h2:∀l∈QC,bP! Yf!)(h3:∀r∈G'.holds,∀t∈Bd!,∃r0∈G.holds,JPX)(h4:Kg!):JJN :=λX x=>Mc! hi (mo! h1) (hB! (GE (h2 l hl nb))) (Yh! (S! (h3 r hr t ht))) h4
def WM.next(x:WM qs ls)(hi:o0)(hp:∀(j:Nat) t,j≠i->WN ls Cx! t->WN QC Cx! t)(h':∀t,VG G' t->lc≠sB->1<=lp!\/WN QC sB t):JJu:=by
 intro j q' G2 e t ht ne;rcases Eu e with⟨ej,e2,_⟩|⟨ne2,e⟩;.subst ej;rw[e2] at ht ⊢;show h' t ht ne
 .show C? (x j q' G2 e t ht ne);(.show J?);.show d! (hp j t ne2 h)
def WN.mono(h:Ii! (l∈QC))(p:WN ls j t):WN QC j t:=let⟨l,hl,r⟩:=p;⟨l,h l hl,r⟩
def WM.less(x:WM qs ls)(hi:o0)(hl:Ii! (l∈QC))(h':∀t,VG G' t->lc≠sB->Eh!/\Dt!<=lp!):JJu :=Mc! hi (λj t _ p=>p.mono hl) (Yi! (by show U? (h' t ht ne);show C? (Rt! x t h1 ne);(.show E? (CJ h h2));.show d! (h.mono hl)))
open E
structure Wg(D:AQ!)(m n:Nat)(sh:Int)(qs:cr)(ls:wS):B! where
 wl:vY! Wl (λt=>¬D t\/gx qs t)
 sD:OJ! D
 rc:WM qs ls
def Wl.mono{C C':AQ!}{m n:Nat}{sh:Int}{qs:cr}{ls:wS}(x:DU!)(h:∀t,C' t->C t):vY! Wl C':=⟨x.len,x.sZ,HP!,F4!,λt c=>x.sum t (h t c),x.sh⟩
open S
variable {D:T2->Prop}{m n:Nat}{sh:Int}{qs:List (Addr×CN)}{ls QC:List LT}{i:Nat}{q:Addr}{G G':CN}
def gx.set(hi:o0){t:T2}(h:gx Ed! t):gx qs t\/FC! G'.AJ.map:=by
 have⟨j,q',G2,e,m⟩:=h;show Dl?;.rw[e2] at m;show o! m
 .show E? ⟨j,q',G2,e,m⟩
def Wg.step(x:Cc!)(hi:o0)(w9:Wl (λt=>¬D t\/gx qs t) m He! sh Ed! QC)(ho:JS1 (Hw!\/¬D t))(st:JJN)(rc:JJu):wW! Ed! QC :=⟨w9.mono λt h=>by show C? h;(.show J?);.show C? (h.set hi);(.show z?);.show C? (ho t h);(.show L? ⟨i,q,G,hi,h⟩);.show J?,st D x.sD,rc⟩
def Wg.BQ(x:Cc!)(hi:o0):C6!/\zj!:=x.wl.sd i q G hi
def Jfa(hi:o0)(nu:zj!)(a:Addr):Tb! (Y6! Vz!) ls:=λX x=>by (have nx:¬X FD!:=λz=>by have:=Rt! x.old _ z nu;show BC?);show Mc! hi Lf! (zo!) (Yh! ?_) (Mz! (G.AY<=FG!) (BW (AH _)));(.show Hj?;show HV?;(.show J?);.rw[ZK h];show o! nx);.show Ht?;show HW?;(.show E? (HZ! r h ht));.rw[ZK h] at ht;cases ht
def Wg.make(x:Cc!)(hi:o0)(hn:Ae!)(a:Addr):JTA Wg D Vz!:=by
 show AX?;show x.step hi (x.wl.make hi hn a) Lf! (Jfa hi nu a) (hC! hi (λl h=>h) (Yi! ?_));.show B9? ((G.AJ++[((FD!,0):EE!)]).map (DM!));rw[ZF] at ht;show HV?;(.show J?);·show IH?;show d! GY!;rw[e] at z;have:=Rt! x.sD.old _ z nu;show BC?
 .show⟨?_,GJ!⟩;show Dm?;(.have h:t∈NR!:=h;show CB?;(.show J?);·show IH?;show Ct! (b1! nu) ne);.show Ht?;show Bh?;(.show L? (UY! h));.show Az? (ZK hr)
def Vq(h:t∈EM l ta):∃r0∈l,r0.1=ta/\t∈r0.2.2:=by unfold EM at h;cases e:dE! (H!=ta) with | none=>show Ah? | some r =>show AC?;show⟨r,BI e,dM!,h⟩
def Ik(hr:r∈JU l ta h):(W!=ta/\Bd!=h)\/r∈l:=by
 unfold JU at hr;have⟨r0,m0,e⟩:=ZN hr;show D? (r0.1=ta);.rw[Bk!] at e;show Ks! p4! (by rw[<-e])
 .rw[Gh!] at e;show Li! d! m0
def Wg.hold(x:Cc!)(hi:o0){ta tb:T2}(hb:B8!):qZ! dx! dx!:=by
 show AX?;show Dn? dx! (λX y=>JHd iC! zo! (by rcases Ik hr with⟨e1,e2⟩|h;(.rw[e2] at ht;show C? Ty!;(.have⟨r0,m0,e0,t0⟩:=Vq h;show GE ⟨r0,m0,jp e0 e1,t0⟩);.rw[h];show d! (y.hand i q G hi tb hb));.show E? (HZ! r h ht)));show Fc? (s.hold hb);show Dm?;.show J?
 .rcases Ik hr with⟨e1,e2⟩|h2;(.rw[e2] at h;show C? (EF.mp h);(.show Gw h);.rw[h];show Ts!);.show L? ⟨r,h2,h⟩
def Wg.drop(x:Cc!)(hi:o0)(ta tb:T2):qZ! dy! dy!:=by
 show AX?;have key:∀r∈(Iv G ta tb).holds,∀t∈Bd!,∃r0∈G.holds,JPX:=Yh! (by rcases Ik hr with⟨e1,e2⟩|h;(.rw[e2] at ht;have⟨r0,m0,e0,t0⟩:=Vq Rv!;show⟨r0,m0,jp e0 e1,t0⟩);.show⟨r,h,A!,ht⟩)
 show Dn? dy! (OB.less hi yB! (λl hl _=>hl) FM GP!);show Fc? (s.drop ta tb);show Dm?;.show J?
 .have⟨r0,m0,_,t0⟩:=FM r hr t h;show o! ⟨r0,m0,t0⟩
def Wg.take(x:Cc!)(hi:o0){ta tb:T2}(ha:BZ!)(hb:Nd!):qZ! dp! dp!:=by
 show AX?;show Dn? dp! (λX y=>JHd (CU! (by show C? Ty!;(.show J?);.show d! GY!;rw[h] at z;have⟨r0,m0,e0,t0⟩:=Vq hb;show Rt! y.hand ta ha (CZ! e0 (y.hold i q G hi r0 m0 tb t0 z)))) zo! (lZ! hr));show Fc? (s.take hb);show C? ht;.show C? (EF.mp h);(.show J?);.rw[h];show Gw hb
 show BR?
def Wg.free(x:Cc!)(hi:o0)(tb:T2):qZ! dq! dq!:=by
 show AX?;show Dn? dq! (JNS (CU! Rv!) (λl hl _=>hl) hr);show Fc? (s.free tb);show C? ht;.show E? (IY.mp h).1
 show BR?
def Ti(hi:o0){l:LT}(hb:l.th∈G.hand)(h1:G'.hand=G.hand)(h2:vE!)(h3:u8!):Tb! Ed! (ls++[l]):=λX y=>y.next hi (CU! (xI! h1 ht)) (λl' hl _=>by show j? hl;(.show J?);.rw[ZK h];show d! (y.hand i q G hi _ hb)) (Yh! (lZ! JLj)) (U! h3 GJ!)
def zG(h1:G'.hand=G.hand)(h2:vE!)(h:VG G' t):Eh!:=by unfold VG at *;rw[h1,h2] at h;show h
def Wg.UZ(x:Cc!)(hi:o0){b:T2}(hb:TB!)(hn:b.1=G.BQ){g:Int}(g0:FX!)(g1:g<m):JGy (mc! Zx Wq!) JFv (Zx G b (Wq!)) JFv:=by
 show AX?;show Fk? (Zx G b (Wq!)) JUK;show Kr? (x.wl.UZ hi hb hn g0 g1) JDP hC! Qu! ⟨JRB,GJ!⟩;show G4? (Bg BL! b (Wq!)).map;show CP?;.rw[h];show s.ok.hk b hb hn
 .show h
def Wg.WW(x:Cc!)(hi:o0){b:T2}(hb:TB!)(hf:ka!){g:Int}(g0:FX!)(g1:g<m)(w2:2<=ho!) : JGy (mc! Kd et!) JPp (Kd G b (et!)) JPp:=by
 show Fk? (Kd G b (et!)) (ik! AL! g iN!);show Kv? (x.wl.WW hi hb hf g0 g1 w2) hD! (λj t _ p=>p.mono Qu!) ?_;change 1<=xh! b _\/_;rw[C7];show CO?;.rw[AE c];show Kr! S!
 .rw[AD c];show C? (x.rc i q G hi t (JRB) ne);(.show J?);.show d! (h.mono Qu!)
def Wg.UY(x:Cc!)(hi:o0){b:T2}(hb:TB!)(hf:ka!){g:Int}(g0:FX!)(g1:g<m)(w1:ho!=1) : JGy (Y6! sQ!) JPq sQ! JPq:=by
 show Fk? sQ! (ik! E4! b.1 g);show Kv? (x.wl.UY hi hb hf g0 g1 w1) hD! (λj t _ p=>p.mono Qu!) ?_;change 1<=xh! b 0\/_;rw[C7];show CO?;.show L? ⟨_,JCc,c.symm,GE Bj!⟩
 .rw[AD c];show C? (x.rc i q G hi t (JRB) ne);(.show J?);.show d! (h.mono Qu!)
open E
open S
def Jd7:JCK EJ!:=ZV
def Jd5:JF! E4! EJ!:=ZV
def O2:JCK S7!:=ZV
def Jd8:JCN S7!:=ZV
def Jd9:JCN AL!:=ZV
def Jd6:JF! S7! AL!:=ZV
def Wt.qE(h:JHb):(g7! (Ip!\/(kr!/\t=tb)))/\vE!/\u8!/\g6!/\G'.BF=Hd!/\(∀t,JGV G'.AK\/(t=tb/\lp!=Dt!+x))/\(JS1 Hw!) /\ (ze!->Aj G'.AK tb=zq!)/\(kr!->Gb!->Aj G'.AK tb=zq!):=by
 have put:∀t,E8! (Bg AO! tb (bq!))=B3! (t=tb) zq! Dt!:=λt=>Ds! C7
 rcases h with⟨k,⟨c,o,f,e⟩|⟨c,e⟩⟩|⟨k,e⟩|⟨k,e⟩;.show Ic? Gc! (λt=>S! (by rw[e])) Gc! O2 (λ_ z=>AJ! c z);(.show n?;show C? Ty!;(.show J?);.show AD? k h);.show n?;show CP?;(.rw[h];show A5! (Kq! (BI f)));.show h
 .show Ic? Gc! (λt=>?_) (qn! ht) O2 (λ_ _=>by rw[e];change Aj V6! tb=_;rw[put,BG!]);(.show n?;show C? Ty!;(.show J?);.show AD? k h);.rw[e];change JGV V6!\/_;by_cases d:t=tb;(.show AD? d (by change E8! V6!=_;rw[put,AE d,d]));.show S! (by rw[put,AD d])
 .show⟨qn! (GE ht),hz!,hz!,hz!,hz!,λt=>?_,qn! ht,λ_=>by rw[e];change Aj V6! tb=_;rw[put,BG!],JUM Jd6⟩;rw[e];change JGV V6!\/_;by_cases d:t=tb;(.show AD? d (by change E8! V6!=_;rw[put,AE d,d]));.show S! (by rw[put,AD d])
 .show Ic? (qn! (GE ht)) (λt=>S! (by rw[e])) Gc! Jd8 (JUM Jd9);show n?;show G4? (YW G tb x).map;unfold YW at ht;show D? IA!;(.rw[Bk!] at ht;show CP?;(.rw[h];show c);.show h);.rw[Gh!] at ht;show ht
def Wg.wt(x:Cc!){a b:wS}{l:LT}(es:kp!)(np:zl!)(hi:Ba! (qs[l.g.toNat]?)) : ∃G',JPW/\wW! rJ! CE!/\Tb! rJ! CE!:=by
 show E2?
 have hC:bP! (¬D Sc\/gx qs Sc):=λnb=>GE JGq;have⟨G',wt,w9⟩:=x.wl.wt es np hC hi;have⟨h1,h2,h3,h4,_,h5,h6,h7,h8⟩:=wt.qE;show AX?;show Dk? Yj!;rw[N4!] at nu;have sub:bn! (z∈ls):=Ai! (U! es nU!)
 have st:Tb! rJ! CE!:=λX y=>y.next hi (CU! (by rcases h1 t ht with h|⟨k,e⟩;(.show J?);.rw[e];show o! (y.X_ l hl (KE k Jd7)))) (λz hz _=>GE (sub z hz)) (Yh! (lZ! JLj)) (U! h3 GJ!);have x1:1<=l.x:=by rcases kk with⟨_,h⟩|⟨_,h,_⟩|⟨_,h,_⟩|⟨k,_⟩;(.show h);(.show h);(.show h);.show ED?
 show⟨G',wt,x.step hi w9 (mo! h6) st (hD! hi (λj t ne p=>?_) (Yi! ?_)),st⟩;.have⟨z,hz,e,c⟩:=p;rw[es] at hz;show AE?;(.show JV? hz);.show G1?;(.rw[hz] at c;rcases c with⟨k,_⟩|⟨_,g⟩;(.show ED?);.show Ct! (Ds! g) ne);.show⟨z,DJ! hz,e,c⟩
 .rw[N4!] at ne;have r0:=Np s.nn t;show Ax?;(.subst d;rcases kk with⟨k,_⟩|⟨k,_⟩|⟨k,_,eg⟩|⟨k,_⟩;(.show S! (by rw[h8 k (KE nu ne)];lia));(.show S! (by rw[h7 k];lia));(.show I? eg.symm ne);.show ED?);·(have hd:Eh!:=by show Dm?;(.rcases h1 t h with h|⟨_,h⟩;(.show J?);.show At? d);.show L? ⟨r,JLj,h⟩);(have er:lp!=Dt!:=by rcases h5 t with h|⟨h,_⟩;(.show h.symm);.show At? d);rcases x.rc _ q G hi t hd (KE N4! ne) with h|⟨z,hz,e,c⟩;(.show S! (JAH er));.show d! ⟨z,?_,e,c⟩;rw[es] at hz;show AE?;(.show Cs! hz);.show G1?;(.show I? (by rw[<-e,hz]) d);.show DJ! hz
def Om(KG:IA!):T2! (cQ G tb sh HV).map Hw!:=Ay! (by unfold cQ at ht;show CP?;(.rw[h];show KG);.show h)
def Wg.pass(x:Cc!){a b:wS}{l:LT}(es:kp!)(hp:Ne!)(hi:Ba! (qs[l.th.1.toNat]?)):ku! /\ (zm!->w5! (a8! q!) JGH (JDT q! JGH)) /\ (zn!->w5! (a8! am) JGI (JDT am JGI)):=by
 show E2?
 have nb:l.kind≠EJ!:=U! hp Jd5
 have⟨KG,p1,p2⟩:=x.wl.pass es hp (Am! JGq) hi;show AX?;show Dk? Yj!;have sub:bn! (z∈ls):=Ai! (U! es nU!)
 have stp:∀(HV:Bool)(more:wS),(∀z∈more,z.th=l.th)->JDT HV (zr!):=λHV more hm X y=>JHd (CU! (by show B9? (aW G Sc HV);unfold aW at ht;cases HV;(.show E? ht);.show C? Ty!;(.show J?);.rw[h];show o! (y.X_ l hl nb))) (λz hz _=>by show AE?;(.show E? (sub z hz));.rw[Gk! hm];show o! (y.X_ l hl nb)) (lZ! hr);have rcn:∀(HV:Bool)(more:wS),(Tz!:LT)∈more->WM (a8! HV) (zr!):=λHV more hm=>by (have pn:∀(j:Int) t,WN ls j t->WN (zr!) j t:=λj t ⟨z,hz,e,c⟩=>by rw[es] at hz;show AE?;(.show JV? (DK! hz));.show G1?;(.rw[hz] at c e;rcases c with⟨_,c⟩|⟨k,_⟩;(.show⟨_,DJ! hm,e,JBs c⟩);.rw[hp] at k;show AJ! k ZV);.show JV? (FH! hz));show hD! hi (λj t _ p=>pn _ t p) (Yi! ?_);(have hd:Eh!:=by show C? ht;(.have h:t∈aW G Sc HV:=h;unfold aW at h;cases HV;(.show J?);.show C? (EF.mp h);(.show J?);.show AJ! ?_ ne;rw[h,BO ib.1.1]);.show z?);show C? (x.rc _ q G hi t hd ne);(.show J?);.show L? (pn _ t h)
 show⟨KG,Um!,Um!⟩;·(have st:=stp q! [Tz!] (Ai! (by rw[ZK hz])));show⟨x.step hi (p1 e) (sS! KG) st (rcn q! _ ab!),st⟩
 ·(have st:=stp am (JSR [a6!]) (Ai! (by rcases ZI hz with hz|hz<;>rw[ZK hz])));have rn:=rcn am (JSR [a6!]) (FH! ab!);rw[<-BH] at st rn;show⟨x.step hi (p2 e) (sS! KG) st rn,st⟩
def Jg7(h:VG (Fo G R) t):Eh!/\y! do!:=by
 rcases h with h|⟨r,hr,h⟩;.have h:Ip!:=h;show⟨M7!,by unfold DK;rw[AR (show t∈(keepR G R).hand from h)];rfl⟩
 .have hr:r∈(keepR G R).holds:=hr;show f? (o! ⟨r,RR!,h⟩);unfold DK;show Ez? (keepR G R).holds.any (UY! h7!);show Ho?
def Wg.clean(x:Cc!)(hi:o0)(rc:eX!)(pm:Em!) : w5! (Y6! WL!) (w3! GE!) (nS! WL! GE!):=by
 have st:nS! WL! GE!:=JNS yB! (hB! (by show j? hl;(.show h);.have⟨y,_,rfl⟩:=ZN h;show AJ! A! nb)) RR!;show Kr? (x.wl.clean hi (CU! (o! ⟨i,q,G,hi,ht⟩)) rc pm) JDP hC! Qu! ?_;.show UI! ht
 .show U? (Jg7 ht);show f? h1;change Dt!<=pa! Ll!;rw[pc! do!,AE h2];show AH _
open E
open E K51
open N FX
open PySem PySem.Spec PyProof.Rows L2
open S
def Jhb(I:I!)(e:dT!):∃o,oD!/\ri! Rl!:=by
 have ok:=Au! d _ e;have⟨_,_,vs,_,o,es,ep,g,_⟩:=id ok;show⟨o,g,JRI (gO! (by have:=L7! d ob v z;show CJ?;cases this)) (Bv! g)⟩;show ok.RA (X2!) (j8!) j9!;show Iy?
 show IE?
def Ju1(I:I!)(hg:Ky! Rl!)(hd:NY!):∃vs,FU!/\cY!/\s.heap.DictAt Lt! d vs ep:=by have⟨g,z,lo,vs,rel,o',gU,jr,g',c',q',k',p',n'⟩:=JSm Rl! hg;rw[g] at g';cases g';rw[hd] at q';injection q' with q1 q2;subst q1;subst q2;show⟨vs,rel,lo,o,es,g,c',hd,k',p',n'⟩
open E
abbrev m9(d:Addr)(kvs:Bz!)(o:Obj):It :=
 U6! (kH! Rl! gP!) (∃k,Qb! (kvs[i]?) x) (kH! Rl! (kvs.length<=i))
def Jez{P:Program}{w:World}{K:W.Frag}{tg:Expr}(d it:Addr)(kvs:Bz!)(o:Obj)(es:Fc!)(ep:Nat)(hd:NY!):XI! (m9 d Db o) (h.IsValIter it d i MB! ep) where
 mem:=sK
 obj:=MA! (by
  show A0?
  subst e
  have⟨oi,e,c,q⟩:=st
  show K3? oi q)
 keep:=λi h h' ⟨oi,e,r⟩ k=>⟨oi,jZ! oi e,r⟩
 item:=by
  show C8?
  show e?
  show o?
  have⟨vs,rel,lo,da⟩:=Ju1 I hg hd
  have hl:Xg!:=RD!
  have hx:kvs[i]?=D! kvs[i]:=k6!
  have hy:vs[i]?=D! (vs[i]' i!):=k8! tt!
  have⟨ek,rv⟩:=A6 rel i _ _ hx hy
  have RV:s.heap.IsValIter it d i HA! ep:=A0! hl st
  show wpAny_pyNext_values_item RV da (k:=(vs[i]'(by show Xn!)).1) (v:=(vs[i]'(by show Xn!)).2) hy λh' dy sb=>?_
  show Kq? (nn! xX!)
  have⟨oi,e,c,q⟩:=id dy
  show P? (JUV q ⟨kvs[i].2,H,I1,rv,JS! kvs[i].1 hx,KE hl dy,iY! hf⟩)
 done:=by
  show C8?
  show e?
  show o?
  have⟨vs,rel,lo,da⟩:=Ju1 I hg hd
  have hl:Xg!:=RD!
  have RV:s.heap.IsValIter it d i HA! ep:=A0! hl st
  show wpAny_pyNext_values_end (SS! hc) RV da (KE List.getElem?_eq_none_iff Xn!) λh' eb=>A8! (nn! (eb b ob hb e))
 self:=Wf! wpAny_pyIter_valiter
open S
abbrev Jy1(td:TE):TI:=λσ H R=>Tv! td (NM λp d kvs=>kC!/\Pd! H1 Lu!/\HT! H1 d Af! Db/\∀o,R (m9 d Db o) (z! H1 d Rl!))
def Ja7{l:Expr}{td:TE}(hl:CS! l td):jb! (Jy1 td):=by
 show AJ?;show A2?;rintro v s1 ⟨x,H1,I1,r1,p,d,kvs,ex,hp,hd,hR⟩;subst ex;cases r1;have⟨o,g,I2⟩:=Jhb I1 hd;have⟨z,lo,vs,rel,o',es,ep,g',c',q',k',p',n'⟩:=Ta! (EX Bm! X.w H1 s1.heap d d4!) (I1.EI d _ hd);rw[g] at g';cases g';have hlen:Xg!:=RD!;have da:s1.heap.DictAt Lt! d vs ep:=⟨o,es,g,c',q',k',p',n'⟩;have hv:s1.heap.IsValuesView p d:=(I1.EI p _ hp).1;show wpAny_pyIter_values hv da ?_;have fresh:=dG!;show CN? (z! H1 d Rl!) (JK6 "dict_valueiterator" (JQG HA!)) (I2.kept (t':=s1.toks) (Sj! Hs!));show⟨Gd?,_,m9 d Db o,_,A!,I3,Jez d _ Db o es ep q',(by rw[C8!];show⟨_,Cu!,A!,A!⟩),GW!,hR o⟩;show CT?
 subst e;show I2.UQ (ZG _) fresh
open E
def Vr{d:Addr}{kvs:Bz!}{ob:Obj}{g:TG}{tb:TS}{D:Ends}{σ:L2.St}{H:Hp}(Pv:JCX)(h0:Vl!)(hf:wl! gq! (Ky! (as! Af! Db)))(hs:∀i k v σ H,JGo->Pv i σ H->x1! v)(hd:xu! MB!) : em! UQ! (bH! (XF! (m9 d Db ob).stop (m9 d Db ob).go UQ! (m9 d Db ob).RU)):=by
 show Cg? (kvs.length-i) gq! MB!;rintro i m σ H ⟨rfl,hi,pv⟩;have fz:=hf i σ H hi pv;by_cases IP:gP!;.show Co? ⟨fz,IP⟩ (kvs.length-AB!);have⟨e,k,ek⟩:=y;subst e;show hs i k x σ _ ek pv
 show GT? (i=kvs.length) ⟨fz,Ao!⟩ (cS! pv)
open S
open E
def uk(h1:dB!)(h2:LB b c):LB a c:=by rw[E4] at *;lia
def zk(h:a≠b)(h1:¬dB!):LB b a:=by rw[E4] at *;have:¬(es!/\a.2=b.2):=λz=>h (On! z.1 z.2);lia
def Od(key:C4!)(x:α):∀{s:Q!},(s.map FM).Pairwise LB->(∀y∈s,FM x≠FM y)->∃s':Q!,j4! (s'.Perm (x::s)) s'.map
 | [],_,_=>pO! [x]
 | y::s,h,ne=>by have h':=E_.mp h;by_cases e:LB (FM x) (FM y);(.show E9? (x::y::s) (.refl _) h;show HC?;(.show e);.show uk e (h'.1 z hz));.have⟨s',p,q⟩:=Od FM x h'.2 (wd! ne);show E9? (y::s') (JPY p.cons s) q;have⟨u,hu,rfl⟩:=P8!;rcases ZM (X4! hu) with rfl|hu;(.show zk (ne y Hp!) e);.show h'.1 _ (BL hu)
def sorts(key:C4!):JJm FM (∃s:Q!,j4! (s.Perm l) s.map)
 | [],_=>pO! []
 | x::l,nd=>by show AM?;have⟨s,p,q⟩:=sorts FM PM.2;have⟨s',p',q'⟩:=Od FM x q λy hy e=>NK! PM.1 ⟨y,X4! hy,Bn!⟩;show⟨s',p'.trans (p.cons x),q'⟩
def RB{a b c:Str}{k:NameKind}{cl:CF!}{y:Str}(hc:oZ!)(h:Qf! po! po!):Lv! :=r2! (by show DB?;rcases hp with rfl|rfl|rfl;(.show Gf?);(.show Gf?);.show hc)
def Ym{K:W.Frag}{a p:Addr}{xs:C!}{tt:TT}{te:TE}{caps:Cb!}{σ:L2.St}{H:Hp}{Q:Gi!}(Pv:No!)(h0:OL!)(hl:pe! (V7! H2))(hs:so!)(hd:We!) : Ff! (FV! (FP! (XI K a).stop Dv! (XI K a).go (XI K a).RU (UJ! H3 M6! DW!))):=by
 show EX?;show Cq?
 show Cj?
def ye:∀{ds:LW!},(∀d∈ds,d.canLay0=true/\d.depth<=n)->Cw! PyData.canLayAll0 ds/\PyData.depthAll ds<=n
 | [],_=>⟨by simp[PyData.canLayAll0],by simp[PyData.depthAll]⟩
 | d::ds,h=>by show U? (ye eC!);have⟨h3,h4⟩:=Go! d;show⟨by simp[PyData.canLayAll0,h1,h3],by simp only[PyData.depthAll];show uH! ⟨h4,h2⟩⟩
def Jz7:Fd! (KR! (QR t) (QR u)) (t=u):=by have⟨a,b⟩:=t;have⟨c,d⟩:=u;unfold QR;simp only[PyData.eqv,PyData.eqvAll,Prod.mk.injEq];by_cases h1:a=c<;>by_cases h2:b=d<;>simp[h1,h2,PyData.eqv]
@[reducible]abbrev HS:=G!×B0!×Y!
inductive iF(K:W.Frag)(H:Hp)(v:V)(r:Mq!):B!
 | mk (a t hd:Addr) (cs:Z!) (_:Qi!) (_:Dp! a [JM!,T! CD!,h! hd]) (_:h0! W!) (_:JNz hd) (_:c5! Bd!)
inductive iG(K:W.Frag)(H:Hp)(v:V)(q:EE!):B!
 | mk (a t:Addr) (_:Qi!) (_:Dp! a [JM!,T! PP]) (_:h0! H!)
inductive XX(K:W.Frag)(H:Hp)(x:Addr)(S:HS):B!
 | mk (y1 y2 y3:Addr) (as:Z!) (bs ds:C!) (_:Dp! x JPy) (_:JCe y1) (_:BS H as S.1) (_:Dp! y2 bs) (_:Zw! iF bs LM!) (_:Dp! y3 ds) (_:Zw! iG ds S.2.2)
open S
variable {K:W.Frag}{H H':Hp}
def iF.keep(k:BB!){v:V}{r:Mq!}(h:iF K H v r):Jz! iF r:=by have⟨a,t,hd,cs,e,e1,e2,e3,th⟩:=h;show⟨a,t,hd,cs,e,k.sq e1,c0!,k.sq e3,ml! th⟩
def iG.keep(k:BB!){v:V}{q:EE!}(h:iG K H v q):Jz! iG q:=by have⟨a,t,e,e1,e2⟩:=h;show⟨a,t,e,k.sq e1,c0!⟩
def XX.keep(k:BB!){x:Addr}{S:HS}(h:UP! x S):XX K H' x S:=by have⟨y1,y2,y3,as,bs,ds,e,e1,t1,e2,t2,e3,t3⟩:=h;show⟨y1,y2,y3,as,bs,ds,k.sq e,k.sq e1,ml! t1,k.sq e2,JFq t2,k.sq e3,JFq t3⟩
open E
open S
variable {p:Addr}{b:T2->Bool}{ts:List T2}{H:Hp}{tt:TT}{caps:List (Str×Nat)}{σ:L2.St}{Q:Hp->Prop}
def Jhl{K:W.Frag}{l:Addr}{as:Z!}(hp:Kv!)(hz:ke!)(hl:JCe l)(th:IM!)(ht:JKa)(k:JQ3 O5!) : Ff! (FV! (FP! (XI K l).stop Dv! (XI K l).go (XI K l).RU (JEA H3 JOL DW!))):=by
 show G6?;show Ym (K:=K) (a:=l) (p:=p) (xs:=c9!) (be:=be) (K1! JOF) (L_.start hp) (λi ys H2 _ pv=>?_) (λi x ys H2 N hx pv n=>?_) λys H2 pv=>?_;.have⟨bs,_,sm,JG,_⟩:=pv;show⟨(JX sm).sq hl,JG⟩
 .show AU?;cases ea:XJ! with | none=>show Hs? | some a =>rw[ea] at hx;show IA?;subst hx;have⟨t,et⟩:=ZX! ts JNc;show J6? et;have⟨bs,e0,sm,JG,XO⟩:=id pv;show yY hp hz ht pv et (NE sm ha) n
 .have⟨bs,ey,sm,JG,XO⟩:=pv;rw[ZA,lt,BY] at XO;show JRQ
open E
inductive Jo2(K:W.Frag)(x:V)(vs:C!)(H:Hp)(Q:VK):B!
 | mk l b xs zs (_:Un!) (_:vs=[B9!]) (_:Rn!) (_:Dp! b zs) (_:yr!) (_:JJE (xs++zs))
def Jiw{X:E!}:jB X "list.extend" (Jo2 Kx):=by
 show Ab?;show Fz?;show H?;show Bm?;cases ru;show CM?;have⟨R_,r2,⟨o2,e2,c2,n2,q2⟩,z2⟩:=Et! hB;have l1:=r.length;have l2:=r2.length;have hsz:B5! gE!:=by rw[BG,BG];lia
 have dW:¬AU! (tn!&&uC! (gE!)):=Dq! (Jgp hsz) uD! AO
 show DA F.slot_list_extend xM! F.entry_list_extend ?_ (AC! F.args_list_extend_2);show BG? (Builtin.List.listExtendWith (IN l) (IN b) IR);unfold Builtin.List.listExtendWith;show ZR (gB! (T:=Er!) ⟨o2,e2,c2⟩ ?_);have ht:AU! (JFH == JFH):=by rfl
 rw[JDq AE ht];show ZR (uT! e2 q2 (ZR (uT! e A! ?_)));rw[AD dW];show ZR (uU! e A! ?_ (cA! (AA EU! (hl▸hz))) (show(its.toArray++R_.toArray).size<=zD! by rw[Array.size_append];show CW! Dr!));show ZS (Dn! ⟨Av!,_,JKZ (its++R_) JLR,A!,q⟩);rw[ZE];assumption
abbrev rowsOf(L:FY!):B0!:=bG! Me!
abbrev Hh(l:Y!)(t:T2):Ch:=JLy
abbrev addW(a:Y!)(q:EE!):Y!:=Bg a H! (Hh a H!+PP)
abbrev Cv(L:FY!):Y!:=(Me! Il!).foldl E5! []
inductive Led(L:FY!):AQ!
 | hand {S:HS} {t:T2} (h:S∈L) (m:t∈S.1):Rz!
 | out {r:Mq!} (h:zP!) (m:CD!≠Hh (Cv L) W!):Led L W!
 | step {r:Mq!} {u:T2} (h:zP!) (m:u∈Bd!) (l:Led L W!):Led L u
structure Found(L:FY!)(ts:G!):B! where
 pw:ts.Pairwise LB
 mem:∀t,t∈ts↔(JCJ/\¬Rz!)
def Oz(a:T2):¬LB a a:=λh=>by rw[E4] at h;lia
def uo:∀{l m:G!},l.Pairwise LB->m.Pairwise LB->(∀t,HC!↔t∈m)->l=m
 | [],[],_,_,_=>rfl
 | [],b::m,_,_,h=>by have:=(h b).mpr (CT!);cases this
 | a::l,[],_,_,h=>by have:=(h a).mp (CT!);cases this
 | a::l,b::m,h1,h2,h=>by have b_:=E_.mp h1;have XT:=E_.mp h2;(have e:a=b:=by rcases ZM ((h a).mp Hp!) with e|ha;(.show e);.rcases ZM ((h b).mpr Hp!) with e|hb;(.show Bn!);.show I? (uk (b_.1 b hb) (XT.1 a ha)) (Oz a));subst e;congr 1;show uo b_.2 XT.2 λt=>⟨λht=>?_,λht=>?_⟩;(.rcases ZM ((h t).mp (AH! ht)) with e|hm;(.show n?;show AJ! (b_.1 a ht) (Oz a));.show hm);.rcases ZM ((h t).mpr (AH! ht)) with e|hm;(.show n?;show AJ! (XT.1 a ht) (Oz a));.show hm
def Found.one(a:PG! L ts)(b:PG! L us):ts=us:=uo a.pw b.pw λt=>(a.mem t).trans (Ec! b.mem t)
open E FX
open N K51
open PySem L2 FX
abbrev Mo(t:T2)(rs:Y!):Ch:=(KT! λq=>JKt 0).sum
def Jbr(t:T2):∀(rs a:Y!),Hh (rs.foldl E5! a) t=Hh a t+Mo t rs
 | [],a=>by simp[Mo]
 | q::rs,a=>by rw[List.foldl_cons,Jbr t rs];have e:Hh (E5! a q) t=E8! (Bg a H! (Hh a H!+PP)):=rfl;rw[e,C7];unfold Mo;rw[AI,DL];show D? (t=H!);(.rw[Bk!,AE c.symm,c];show L! u9! _);.rw[AD c,AD (ZW! c)];change Hh a t+_=_;lia
def Jnz(t:T2)(a b:Y!):Mo t CE!=Mo t a+Mo t b:=by unfold Mo;rw[ZF,OQ]
def Jax(t:T2):∀(L:FY!),Mo t (Me! Il!)=JMg BX!
 | []=>rfl
 | S::L=>by rw[DI,Jnz,Jax t L,AI,DL]
def Jm5(t:T2)(L:FY!):Hh (Cv L) t=JMg BX!:=by unfold Cv;rw[Jbr,Jax];change 0+_=_;show vC! _
def Je7{t:T2}:∀{rs:Y!},ce!->Mo t rs=E8! rs
 | [],_=>rfl
 | q::rs,nd=>by show AM?;have ih:=Wl! Je7 PM.2;rw[Jhh];unfold Mo at *;rw[AI,DL,ih];show D? Cr!;(.rw[Bk!,Bk!,E9 (A0! c PM.1)];show vB! _);.rw[AD c,Gh!];show vC! _
def Mu{α:UF}{f:α->Ch}{b:VZ!}:∀{l:Q!},(∀x∈l,0<=f x)->JEf DC! f<=kO! f/\∀j∈l,wT (b j)->JEf DC! f+f j<=kO! f
 | [],_=>⟨sK,λj hj=>GG! hj⟩
 | a::l,h=>by have⟨i1,i2⟩:=HJ! Mu f f b b l l (λx hx=>h x (AH! hx));have h0:=Go! a;rw[FF];cases c:b a with | true =>rw[BG!,AI,DL,AI,DL];show⟨Int.add_le_add_left i1 _,λj hj bj=>?_⟩;rcases ZM hj with e|hj;(.rw[e,c] at bj;cases bj);.have:=i2 j hj bj;lia | false =>rw[AD AO,AI,DL];show⟨CJ i1 (FN h0),λj hj bj=>?_⟩;rcases ZM hj with e|hj;(.rw[e];lia);.have:=i2 j hj bj;show CJ this (FN h0)
abbrev aU(t:T2)(qs:cr)(h:Nat):Ch:=JLz (λp=>E8! p.2.AK)
abbrev bG(t:T2)(qs:cr)(h:Nat):Ch:=JLz (λp=>E8! p.2.AJ)
def Tg(t:T2):∀(qs:cr),Hk t qs=JM3 (aU t qs h)-JM3 pW!
 | []=>by simp[Hk]
 | p::qs=>by have ih:=Tg t qs;rw[BJ,List.range_succ_eq_map];simp only[AI,AX,DL];(have e1:JMk (me! aU h) (aU t qs h):=by funext h;simp[aU]);(have e2:JMk (me! bG h) pW!:=by funext h;simp[bG]);rw[e1,e2];change aC! pi qs=_;rw[ih];unfold QG;(have e3:me! aU 0=E8! p.2.AK:=by simp[aU]);(have e4:me! bG 0=E8! p.2.AJ:=by simp[bG]);rw[e3,e4];lia
def Jjz{f:IG!}{h0:Nat}:∀{m:Nat},h0<m->(∀h,h≠h0->f h=0)->oi! f=f h0
 | 0,hl,_=>X!
 | m+1,hl,h=>by rw[GW,ZF,OQ];simp only[AI,GN,DL,PH];show D? (h0=m);(.subst c;(have:∀k,k<=h0->((At! k).map f).sum=0:=λk=>by induction k with | zero=>intro _;simp | succ k ih =>intro hk;rw[GW,ZF,OQ,ih (CF hk)];simp only[AI,GN,DL,PH];rw[h k (BN hk)];lia);rw[this h0 CC!];lia);.rw[Jjz (m:=m) (LU (HN hl) c) h,h m (ZW! c)];show vB! _
structure uU(G:CN)(S:HS):B! where
 hand:O3! (t∈S.1)
 row:∀t∈Mo!,∃r∈LM!,W!=t
 JAX:∀r∈LM!,W!∈Mo!/\CD!=Aj BL! W!
 JAY:∀r∈LM!,Ox! (H!=W!->∀t∈BF!,t∈Bd!)
 AK:∀t,Mo t S.2.2=Dt!
 JIo:∀t∈S.1,Ip!
 JIm:∀r∈LM!,kX! (t∈EM re W!)
abbrev Lb(m:Nat)(b:ca!)(S1:Lg!):FY!:=ER! yY! b S1
abbrev GS(m:Nat)(b:ca!)(S1:Lg!)(t:T2):B!:=FC! (CP! JJy).map/\¬Led JJy t
def aO{m:Nat}{b:ca!}{S1:Lg!}{S:HS}:S∈Lb m b S1↔∃h,h<m/\qX!/\S1 h=S:=by
 unfold Lb;rw[AQ];show q?;.rintro⟨h,hh,e⟩;show U? (L6! hh);show⟨h,Ck! h1,h2,e⟩
 .rintro⟨h,h1,h2,e⟩;show⟨h,N1! (XT! h1) h2,e⟩
def PF{L:FY!}{r:Mq!}:zP!↔∃S∈L,r∈LM!:=by unfold rowsOf;show EN
open S
variable {D:T2->Prop}{m n:Nat}{sh:Int}{qs:List (Addr×CN)}{ls:List LT}
def Wg.snap(x:Cc!){b:ca!}{S1:Lg!}(hs:∀(h:Nat) q G,JCD->qX!->uU G (S1 h)):OJ! (GS m b S1):=by
 have lm:=x.wl.len;have key:JRC ((NM λ(h:Nat)(q:Addr)(G:CN)=>JCD/\qX!/\lc=ii/\Hw!)/\Ct t ls=0/\qo! (wT (b j)) (Dt!=0)):=λt ⟨ht,nl⟩=>by show Hp?;have⟨S,hS,OU⟩:=PF.mp hr;have⟨h,hm,bh,e2⟩:=aO.mp hS;subst e2;have⟨⟨q,G⟩,eq⟩:=Mm! qs h (lm▸hm);have T:=hs h q G eq bh;have⟨o1,o2⟩:=T.JAX r OU;show Hd?;rw[e] at o1 o2;(have t1:lc=ii:=jp (pS! o1) nu);have ew:CD!=Hh (Cv JJy) W!:=u6! λz=>Li! nl (.out hr z);rw[e,Jm5] at ew;(have eR:∀k,k<m->HK λq G=>Ba! (qs[k]?)/\eB!=Dt!/\bG t qs k=Ho!:=λk hk=>by have⟨⟨q,G⟩,eq⟩:=Mm! qs k (lm▸hk);show⟨q,G,eq,by unfold aU;rw[eq];rfl,by unfold bG;rw[eq];rfl⟩);(have eA:JMg (Lb m b S1).map=JEf yY! (λk=>eB!):=by unfold Lb;rw[AX];congr 1;show DF bh!;show U? (L6! hk);have⟨q',G',VN,e3,_⟩:=eR k (Ck! h1);change Mo t (S1 k).2.2=eB!;rw[e3,(hs k q' G' VN h2).AK t]);rw[eA] at ew;(have nnR:∀k∈At! m,0<=eB!:=λk hk=>by have⟨q',G',VN,e3,_⟩:=eR k (Ck! hk);rw[e3];show Np (Iq! VN).1.nn t);(have sO:oi! (λk=>bG t qs k)=pW!:=Jjz hm λk nk=>by by_cases hk:k<m;(.have⟨q',G',VN,_,e4⟩:=eR k hk;rw[e4];show x.wl.qM (r:=(q',G')) VN (KE t1 (GN! nk.symm TA!)));.unfold bG;rw[ER (lm▸(G1! hk))];rfl);(have oh:pW!=Ho!:=by unfold bG;rw[eq];rfl);have sm:=x.wl.sum t (d! ⟨h,q,G,eq,o1⟩);rw[Tg,lm,sO,oh,<-o2] at sm;have l0:=Wl! R9 Yj!;have⟨f1,f2⟩:=Cd! Mu f (λk=>eB!) b b nnR;show⟨⟨h,q,G,eq,bh,t1,o1⟩,X!,λj q' G' VN bj=>?_⟩;show JH? VN;have f3:=f2 j (XT! hj) bj;(have e5:aU t qs j=E8! G'.AK:=by unfold aU;rw[VN];rfl);have nn5:=nnR j (XT! hj);rw[e5] at f3 nn5;lia
 have nol:JRC (Ii! (l.th≠t)):=λt ht l hl e=>by have:=Je9 Yj! hl;show w? e (FM t ht).2.1;lia
 have far:JRC (qo! (wT (b j)) (¬Eh!)):=λt ht j q G eq bj hd=>by have⟨⟨h,q',G',VN,bh,t1,_⟩,_,z⟩:=FM t ht;(have nj:pL!:=λy=>by show JW? (h=j) t1.symm y;rw[this,bj] at bh;cases bh);rcases x.rc j q G eq t hd nj with r|⟨l,hl,e,_⟩;(.have:=z j q G eq bj;show AJ! r (IY! (KW this)));.show nol t ht l hl e
 show⟨λj q G eq t ht gs=>?_,λl hl _ gs=>nol _ gs l hl A!,λj q G eq r0 YT t ht gs=>?_,λj q G eq t gs tj=>?_⟩;.cases bj:b j with | false=>show far t gs j q G eq bj (Am! ht) | true =>show JH? eq;show gs.2 (.hand (aO.mpr ⟨j,hj,bj,A!⟩) ((hs j q G eq bj).hand t ht))
 .cases bj:b j with | false=>show GO! d! ⟨r0,YT,ht⟩ (far t gs j q G eq bj) | true =>show JH? eq;have T:=hs j q G eq bj;show Hd?;have⟨r,hr,e⟩:=T.row r0.1 (JB1 s.ok.ke r0 YT);have mr:r∈CP! (Lb m b S1):=PF.mpr (BM! (aO.mpr ⟨j,hj,bj,A!⟩) hr);show⟨A5! ⟨r,mr,e⟩,λld=>gs.2 ?_⟩;show .step mr (T.JAY r hr r0 YT Bn! t ht) (Z4! ld)
 .have⟨⟨h,q',G',VN,bh,t1,o1⟩,_⟩:=FM t gs;show JW? (h=j) t1.symm tj;subst this;have e:(q',G')=HW!:=ZO (VN.symm.trans eq);show Hd?;show(hA! t (CZ! JGZ o1)).2
open E
abbrev Qk(G:CN)(ts:G!):CN:=KP (HZ DI!)
open S
variable {D F:T2->Prop}{m n:Nat}{sh:Int}{qs:List (Addr×CN)}{ls:List LT}{i:Nat}{q:Addr}{G:CN}{ts:List T2}
def Jd2{t:T2}(h:VG mB! t):Eh!/\y! dn!:=by
 rcases h with h|⟨r,hr,h⟩;.have h:Ip!:=h;show⟨M7!,by unfold DK;rw[AR (show t∈(Av G ts).hand from h)];rfl⟩
 .have hr:r∈(Av G ts).holds:=hr;show f? (o! ⟨r,RR!,h⟩);unfold DK;show Ez? (Av G ts).holds.any (UY! h7!);show Ho?
def Jyq(ok:AR!)(h1:O3! Yk!)(h2:∀r∈G.holds,W!∉ts->kX! Yk!):V9!:=by
 have sub:(MQ! λq=>decide (Jm!)).Sublist BL!:=IU;show⟨ok.hn,ok.hz,ok.on.sublist (sub.map _),AA sub.length_le ok.oz,?_,ok.rn,ok.rz,Ex! (O6! r RR!),Ay! (YN! t ((sub.map _).subset ht)),Qr!,λr hr t ht e=>?_,ok.rk⟩;.show Ij? Jm! (MQ! (AG! Jm!)).map;(have e1:Mn! (gp! (AG! Jm!)).map JFm (hb! Yk!):=JCy);(have e2:Mn! (MQ! (AG! Jm!)).map oN! (hb! Yk!):=JCy);rw[e1,e2,Ka!]
 .have m:=JIG;have⟨o,ho,eo⟩:=Gg!;show A5! (Ea! (N1! ho (by rw[eo];simpa using h1 t ht)) eo)
 .have⟨HJ,OU⟩:=L6! hr;have m:=ok.lk r HJ t ht e;have⟨o,ho,eo⟩:=Gg!;show A5! (Ea! (N1! ho (by rw[eo];simpa using h2 r HJ (by simpa using OU) t ht)) eo)
def Jx9(x:C6!)(cR:V9!):JZ! mB!:=by show H4? (cR.HZ.mono (DU n)) (o! ⟨q,ir!,ht⟩) (eI! I2!) pj! (λt ht hk=>?_);show Dd? hk;show A5! ⟨q,JI0 hq,e⟩;rw[e];show(Cd! Jd2 G G ts ts ht).2
def Wg.JA3(x:Cc!)(hi:o0)(sF:OJ! F)(fD:∀t,F t->D t)(ht:JKJ (Zk! lc)){rs:Y!}(pm:Em!) : wW! JC6 (w3! DI!)/\nS! az! DI!/\V9!:=by
 show AX?;have sQ:V9!:=Jyq s.ok (λt m z=>Rt! sF.hand t m ((ht t).mp z).1) λr hr nr t m z=>nr ((ht W!).mpr ⟨sF.hold i q G hi r hr t m ((ht t).mp z).1,jp (hA! W! (CZ! s.ok.ke JMr)).1 nu⟩);have st:nS! az! DI!:=JNS yB! (hB! (by show j? hl;(.show h);.have⟨y,_,rfl⟩:=ZN h;show AJ! A! nb)) RR!;have gone:YO! (¬(¬D t\/gx JC6 t)):=λt m z=>by have⟨f,t1⟩:=(ht t).mp m;rcases z with z|⟨j,q',G2,e,o⟩;(.show z (fD t f));.rcases Eu e with⟨_,e2,_⟩|⟨nj,e⟩;(.rw[e2] at o;have⟨y,hy,ey⟩:=ZN o;show B5? hy;show N? ey;show(BV this) m);.have⟨s2,nu2⟩:=Iq! e;have:=(s2.ok.new t o).1;lia
 have C':∀t,(¬D t\/gx JC6 t)->(¬D t\/gx qs t):=λt h=>by show C? h;(.show J?);.show C? (h.set hi);(.show z?);.show L? ⟨i,q,G,hi,UI! h⟩
 show⟨⟨(x.wl.mono C').next hi (Jx9 s sQ) A! j2! (λt ct=>?_) ?_,st D x.sD,hC! hi (Qu!) (Yi! ?_)⟩,st,sQ⟩;.show AE?;(.show Yj! z hz);.show Bt? P8!;have⟨jh,gD⟩:=L6! hy;have jg:=jy! Md! jh;have im:=s.ir AK! (A5! (CB! y jg));show⟨im.1.1,im.2,im,dU! (ak! (by have:=BV gD;change 1<=y.2;show(BV gD)))⟩
 .rw[Hm];have eE:ce!:=JIz Yg!;have e1:Ct t ((Bo DI! rs).map (Iy sB))=UH! Kf! (λq=>! Lk!) :=Yr sB t (eE.sublist (List.filter_sublist.map _)) (Ex! (s.nn r (Md! RR!)));rw[e1,D6 rs (λt=>! dn!) t,Vp pm Yg!];show B2? (pa! Lk!-UH! MQ! (AG! Jm!)+_);rw[pc! dn!,D6 BL! (jI! Yk!) t];rw[AE (AR (Ta! (¬t∈ts) (λz=>gone t z ct)))];cases dn!;(.rw[h4!,AE (by rfl)];lia);.rw[BG!,h4!];lia
 .rw[ZE,ZA];have h1:(Bo (Av G ts) rs).length<=cH! (λq=>! Lk!):=RC!;have h2:=JOc Lk!;show Ja? Lk! AO!;change Ak! F0! (λq=>Lk!)+_<=_;lia
 .show U? (Jd2 ht);show f? h1;change Dt!<=pa! Lk!;rw[pc! dn!,AE h2];show AH _
def Wg.more(x:Cc!)(sF:OJ! F):vY! Wg (λt=>D t\/F t) :=⟨x.wl.mono λt h=>by show C? h;(.show E? (GN! h S!));.show z?,⟨λj q G e t ht z=>Sp! (x.sD.hand j q G e t ht) (sF.hand j q G e t ht),λl hl nb z=>Sp! JGq (sF.X_ l hl nb),λj q G e r hr t ht z=>Sp! (λz=>S! (x.sD.hold j q G e r hr t ht z)) λz=>d! (sF.hold j q G e r hr t ht z),λj q G e t z tj=>Sp! (λz=>x.sD.old j q G e t z tj) λz=>sF.old j q G e t z tj⟩,x.rc⟩
open E
open E K51
open N FX
open PySem PySem.Spec PyProof.Rows L2
abbrev rg(n:Nat):At:=cg! n zs!
def Nd(n:Nat):Ak! rg n=n:=by unfold rg;rw[ZA,DT]
def SH:x∈rg n↔(0<=x/\x<n):=by
 unfold rg;rw[AQ];show q?;.rintro⟨k,hk,rfl⟩;have:=Ck! hk;show⟨Ng!,(G6! this)⟩
 .show Bu?;show⟨x.toNat,mp!,Vw! BO⟩
open S
open E
open E FX
open N K51
open PySem L2 FX
inductive LL where
 | w (l:LT)
 | ask (s g n u:Int)
 | MY (s g n u tick:Int) (S:HS)
 | lt (s g:Int) (ts:G!)
abbrev r6:Y5! LL LT
 | .w l=>Ix l
 | _=>none
abbrev j7(n u:Int):Y5! LL Ch
 | .ask _ g n' u'=>iO! (n'=n) (u'=u) g
 | _=>none
abbrev mS(n u:Int):LL->ON! (kM!)
 | .MY s _ n' u' tick S=>iO! (n'=n) (u'=u) IL!
 | _=>none
abbrev Cu(al:l!)(n u:Int):At:=vF! (j7 n u)
abbrev Ci(al:l!)(n u:Int):IJ!:=vF! (mS n u)
abbrev LP(al:l!):wS:=vF! r6
def B4(a b:l!)(n u:Int):JFb=Cu a n u++Cu b n u:=VC ..
def Bx(a b:l!)(n u:Int):xd! u=Ci a n u++Ci b n u:=VC ..
def Da(a b:l!):ov!=LP a++LP b:=VC ..
def Gb(z:LL)(b:l!)(n u:Int):Cu (z::b) n u=(j7 n u z).toList++Cu b n u:=by unfold Cu;rw[IV];cases j7 n u z<;>rfl
def Eg(z:LL)(b:l!)(n u:Int):Ci (z::b) n u=(mS n u z).toList++Ci b n u:=by unfold Ci;rw[IV];cases mS n u z<;>rfl
abbrev J18(al:l!):B!:=∀n u,Lj!=[]/\JGc
def P7:∀ls:wS,JLV J18
 | []=>λn u=>Bj!
 | l::ls=>λn u=>⟨by rw[AI,Gb];show yT!,by rw[AI,Eg];show yU!⟩
def zB:∀ls:wS,JLV LP=ls
 | []=>rfl
 | l::ls=>by change l::JLV LP=_;rw[zB ls]
structure pF(h:Int)(S:HS):B! where
 nd:AT! S.2.1.map
 hz:S.1.length<=60
 rz:S.2.2.length<=60
 oz:∀w∈LM!,w.1.1=h/\0<=w.1.2/\w.2.2.length<=60
structure Jr(qs:cr)(r:kM!):B! where
 tk:qo! (bR! W!) (CD!<=G.BF/\(CD!=G.BF->uU G Bd!))
 so:pF W! Bd!
 nw:qo! (bR! W!) (∀w∈r.2.2.2.1,w.1.2<G.AY)
abbrev Jb(fi:IJ!)(h:Nat):Ch:=((TC! N0!).map Ic!).getD 0
abbrev M8(fi:IJ!)(h:Nat):HS:=((TC! N0!).map Il!).getD ([],[],[])
abbrev Still(qs:cr)(al:l!)(n:Int)(fi:IJ!)(se:U4!)(h:Nat):B! :=
 (∃r∈se,j3! (r.2=V8!))\/(∃r∈JY! 2,j3! (CD!=V8!))\/(ii∈dH!/\HK λq G=>JCD/\G.BF=V8!)
structure TJ(m:Nat)(qs:cr)(ls:wS)(al:l!)(n:Int)(fi:IJ!)(se:U4!):B! where
 t1:(ZJ! 1++n8! al++ci Yl!).Perm (rg m)
 t2:(vG!/\dH!=[]/\jQ! 2/\se=[])\/(TD!/\JIB dH! al Q2!)
 f1:∀r∈fi,Jr qs r
 f2:zp! (JY! 1)
 s2:TD!->∀b:ca!,(∀h:No,h<m->qX!->Still qs al n fi se h)->OJ! (GS m b (M8 fi))
def Juz{m:Nat}{fi:IJ!}(pm:JIA){h:Nat}(hh:h<m):∃r∈fi,vu!/\V8!=CD!/\M8 fi h=Bd!:=by have m1:ii∈ci Yl!:=hE! (SH.mpr JPU);have⟨r0,YT,e0⟩:=ZN m1;cases e:TC! N0! with | none =>show JG?;simp[e0] at this | some r =>show⟨r,BI e,dM!,?_,?_⟩;(.unfold Jb;rw[e];rfl);.unfold M8;rw[e];rfl
open S
variable {m:Nat}{qs qs':List (Addr×CN)}{ls QC:List LT}{al al':List LL}{n:Int}{fi:List (Int×Int×HS)}{se:List (Int×Int)}{i:Nat}{q:Addr}{G G':CN}
def TJ.whole(x:OD!)(e:TD!):ZJ! 1=[]/\jQ! 1/\JIA:=by have l:=x.t1.length_eq;rw[ZE,ZE,ZA,ZA,Nd] at l;have e1:ZJ! 1=[]:=Vo!;have e2:jQ! 1:=Vo!;show S? e1 e2;have t:=x.t1;rw[e1,e2] at t;show t
def TJ.kR(x:OD!)(ha:∀u,JGj=Lj!)(hb:∀u,JGk=JY! u)(st:Tb! qs QC):TJ m qs QC xL n fi se:=by show⟨q9! x.t1,q9! x.t2,x.f1,U! hb x.f2,λe b hs=>st _ (x.s2 e b kv!)⟩;have:=hs h hh bh;unfold Still at *;show w? ha hb;show this
def TJ.dJ(x:OD!)(hi:o0)(tk:Ym!)(md:Kg!)(ha:∀u,JGj=Lj!)(hb:∀u,JGk=JY! u)(st:JJN):TJ m Ed! QC xL n fi se:=by
 have fo:∀r,Jr qs r->Jr Ed! r:=λr h=>⟨vH! (by rcases Eu e with⟨e1,e2,_⟩|⟨_,e⟩;(.have:=h.tk i q G hi (Bi! ej e1);rw[e2];show⟨CJ St! (uR! tk),λz=>b6! (CJ tk (KW Fx!)) IY! St!⟩);.show h.tk j q2 G2 e ej),h.so,λj q2 G2 e ej w9 hw=>by rcases Eu e with⟨e1,e2,_⟩|⟨_,e⟩;(.have:=Rt! h.nw (Bi! ej e1) w9 hw;rw[e2];show CJ this md);.show h.nw j q2 G2 e ej w9 hw⟩;show⟨q9! x.t1,q9! x.t2,Ex! (fo r (x.f1 r hr)),Ex! (fo r (x.f2 r (CZ! hb hr))),λe b hs=>st _ (x.s2 e b kv!)⟩;have:=hs h hh bh;unfold Still at *;show w? ha hb;rcases this with h1|h1|⟨h1,q2,G2,e2,e3⟩;.show E? h1
 .show B6? h1
 .rcases Eu e2 with⟨e4,e5,_⟩|⟨_,e4⟩;(.exfalso;have⟨r,hr,er,et,_⟩:=Juz (x.whole e).2.2 hh;have:=((x.f1 r hr).tk i q G hi (Bi! er e4)).1;rw[e5] at e3;lia);.show AV? ⟨h1,q2,G2,e4,e3⟩
def TJ.asked(x:OD!)(es:Lp! (I3! s g n' u))(g0:FX!)(hi:Ba! (qs[g.toNat]?))(et:tick=G.BF)(tl:uU G S)(so:pF g S)(nw:∀w9∈LM!,w9.1.2<G.AY):TJ m qs ls (Ah!++[JUC]) n fi se:=by
 have A:∀n u2,Cu (JFw) n u2=wJ! u2:=λn u2=>by rw[B4];change _++[]=_;rw[AM]
 have A0:∀u2,ZJ! u2=Cu a n u2++(JSN (n'=n) (u=u2) g++Cu b n u2):=λu2=>by rw[es,B4,Gb];rfl
 have B:∀u2,Ci (JFw) n u2=JY! u2++JSN (n'=n) (u=u2) dN!:=λu2=>by rw[Bx,Bx,es,Bx,Eg,Eg];change WK! (n'=n) (u=u2) dN! []=_;rw[AM];rfl
 have eG:∀(j:Nat) q2 G2,qs[j]?=D! (q2,G2)->g=Cx!->G=G2:=vH! (by (have:j=g.toNat:=X!);rw[this,hi] at e;show(MP! (ZO e)).2)
 have fo:Jr qs dN!:=⟨vH! (by rw[<-eG j q2 G2 e ej];show⟨by change tick<=G.BF;show(KW et),λ_=>tl⟩),so,λj q2 G2 e ej w9 hw=>A0! (eG j q2 G2 e ej) (nw w9 hw)⟩;have pmv:∀(P9 Q R T:At)(y:Int),(P9++([y]++Q)++R++T).Perm (P9++Q++(R++[y])++T):=λP9 Q R T y=>by show MQ T ?_;have h1:(P9++([y]++Q)).Perm (y::(P9++Q)):=List.perm_middle;(have h2:(P9++Q++(R++[y])).Perm (y::(P9++Q++R)):=JNy [y]);show UT! h1.append_right R h2.symm
 have tok:∀u2 (T:At),(ZJ! u2++h9! Ci al n u2++T).Perm (rg m)->(Cu (JFw) n u2++h9! Ci (Ah!++[JUC]) n u2++T).Perm (rg m):=λu2 T h=>by rw[A,B,B4,ZF];rw[A0] at h;show D? (n'=n/\u=u2);(.rw[Bk!] at h ⊢;show(pmv _ _ _ _ g).symm.trans h);.rw[Gh!] at h ⊢;simpa using h
 show⟨tok 1 _ x.t1,?_,x.f1,Nc!,λe bb hs=>x.s2 e bb kv!⟩;.rcases x.t2 with⟨z1,z2,z3,z4⟩|⟨z1,z2⟩;(.rw[A0] at z2;(have nc:¬(n'=n/\u=2):=λc=>by rw[Bk!] at z2;simp at z2);rw[AD nc] at z2;show S! ⟨z1,?_,?_,z4⟩;(.rw[A,B4];simpa using z2);.rw[B,AD nc,z3];rfl);.show AD? z1 (tok 2 _ z2)
 .rw[B] at hr;show Bh?;(.show x.f2 r hr);.show D? (n'=n/\u=1);(.rw[Bk!] at hr;(have:r=dN!:=by simpa using hr);rw[this];show fo);.show EL? Gh!
 .have:=hs h hh bh;unfold Still at *;rcases this with h1|⟨r,hr,e1,e2⟩|⟨h1,h2⟩;(.show E? h1);(.rw[B] at hr;show Bh?;(.show B6? (eA! r hr));.show D? (n'=n/\u=2);(.rw[Bk!] at hr;(have er:r=dN!:=by simpa using hr);rw[er] at e1 e2;have e1:g=ii:=e1;have e2:tick=V8!:=e2;(have eh:h=g.toNat:=X!);show AG? ⟨?_,q,G,JAF hi,QV! e2 et⟩;rw[A0,Bk!,<-e1];show DJ! (DK! ab!));.show EL? Gh!);.rw[A,B4] at h1;show AG? ⟨?_,h2⟩;rw[A0];rcases ZI h1 with h1|h1;(.show Cs! h1);.show DJ! (FH! h1)
open E
open S
abbrev Dr(m:Nat)(g n u:Int):l!:=cg! m (JQJ I3!)
def Iz:Cu JPg n2 u2=B3! (n=n2/\u=u2) (rg m) []:=by
 unfold Cu Dr;rw[List.filterMap_map];show D? (n=n2/\u=u2);.rw[AE c];(have:(j7 n2 u2 ∘ JQJ PH!)=λi:Nat=>Ix sB:=by funext i;change(iO! (n=n2) (u=u2) sB)=_;rw[AE c]);rw[this];unfold rg;show congrFun List.filterMap_eq_map' _
 .rw[AD c];(have:(j7 n2 u2 ∘ JQJ PH!)=λ_:Nat=>none:=by funext i;change(iO! (n=n2) (u=u2) sB)=_;rw[AD c]);rw[this];simp
def Ml:Ci JPg n2 u2=[]:=by simp_all [Ci,Dr,mS]
def Jli:LP (Dr m g n u)=[]:=by simp_all [LP,Dr,r6]
def Juo(m:Nat):H3! rg m:=by unfold rg List.Nodup;rw[EW];show r1! (λz=>BN h (TA! z))
def Qae(m1:1<=m)(h1:∀u,Lj!=[])(h2:∀u,JGc)(g:Int):TJ m qs ls (al++JHY) n [] []:=by
 have A:∀u,Cu (al++JHY) n u=w6! (rg m) []:=λu=>by rw[B4,h1,Iz];show D? (u=1);(.rw[AE (A8! c.symm),Bk!];rfl);.rw[AD (λz=>c z.2.symm),Gh!];rfl
 have B:∀u,Ci (al++JHY) n u=[]:=λu=>by rw[Bx,h2,Ml];rfl
 show⟨?_,GE ⟨Mz! (0<m) m1,?_,B 2,A!⟩,Ex! (Zb! hr),Nc!,Um!⟩;.rw[A,B,BG!];simp
 .rw[A,aM!]
 .rw[B] at hr;cases hr
 .have:0=m:=e;show AJ! m1 (qw! this.symm)
def TJ.first(x:OD!)(es:Lp! (.MY s g n 1 Cp! S)) : vG!/\zt!/\(zu!≠m->TJ m qs ls CE! n (Qv!) se)/\(zu!=m->Wg D m N sh qs ls->∀g,TJ m qs ls (Ah!++Dr m g n 2) n (Qv!) se):=by
 have A:∀u,Lj!=JFb:=λu=>by rw[es,B4,Gb,B4];rfl
 have B1:JY! 1=Ci a n 1++IL!::Ci b n 1:=by rw[es,Bx,Eg];change WK! (n=n) (H5!=1) IL! _=_;rw[AE Bj!];rfl
 have B2:JY! 2=xd! 2:=by rw[es,Bx,Eg,Bx];change WK! (n=n) (H5!=2) IL! _=_;rw[AD (λz=>JCU z.2)];rfl
 have pm:(oH!++n8! CE!++ci (Qv!).map).Perm (rg m):=by show List.Perm.trans ?_ x.t1;rw[A,B1,Bx];simp only[ZF,AI,GN];generalize oH!=P9;generalize n8! a=Q;generalize n8! b=R;generalize ci Yl!=T;(have h1:(i7!++(T++[s])).Perm (s::oL!):=JNy [s]);(have h2:(na!++T).Perm (s::oL!):=by (have:(na!).Perm (s::(i7!)):=lG! BH BH List.perm_middle);show this.append_right T);show h1.trans h2.symm
 have nd:Np! Qv!:=by have h1:=(pm.nodup_iff).mpr (Juo m);show(Cm! h1).2.1
 have sn:zt!:=λz=>by rw[ZF] at nd;show dV! s z s ab! A!
 have lt:vG!:=by show Br?;rw[ZE,ZE,ZA,ZA,Nd,ZE] at this;have e:[(IL!:kM!)].length=1:=rfl;show AA Nm! (e▸nh!)
 have z2:dH!=[]/\jQ! 2/\se=[]:=by rcases x.t2 with⟨_,h⟩|⟨h,_⟩;(.show h);.lia
 have⟨z2a,z2b,vX⟩:=z2;have f1:zp! Qv!:=Ex! (by show j? hr;(.show x.f1 r h);.rw[ZK h];show x.f2 _ (KE B1 ZL!))
 have f2:zp! JHT:=Ex! (x.f2 r (by rw[B1];rw[Bx] at hr;show HW?;(.show M4!);.show DW?));have ln:FQ! Qv!=zu!:=Ds! ZE
 show⟨lt,sn,λne=>⟨pm,GE ⟨X!,A0! A z2a,A0! B2 z2b,vX⟩,f1,f2,λe=>X!⟩,λee wg g2=>?_⟩;have A1:Cu (s4!) n 1=oH!:=by rw[B4,Iz,AD (λz=>by have:=z.2;lia),AM]
 have A2:Cu (s4!) n 2=rg m:=by rw[B4,Iz,AE Bj!,<-A,z2a];rfl
 have C:∀u,Ci (s4!) n u=xd! u:=zK! Bx Ml
 have C2:Ci (s4!) n 2=[]:=by rw[C,<-B2,z2b]
 have pf:JTf (Qv!).map:=by have l:=pm.length_eq;rw[ZE,ZE,ZA,ZA,Nd,ln] at l;have e1:oH!=[]:=Vo!;have e2:JHT=[]:=Vo!;have t:=pm;rw[e1,e2] at t;show t
 show⟨Dq! A1 C pm,GM! (Eq.trans ln ee) (by rw[A2,C2,vX];simp),f1,U! C f2,λ_ bb hs=>wg.snap λh q G eq bh=>?_⟩;have hh:h<m:=NE! wg.wl.len eq
 rcases hs h hh bh with⟨r,hr,_⟩|⟨r,hr,_⟩|⟨_,q2,G2,e2,e3⟩;.rw[vX] at hr;cases hr
 .rw[C2] at hr;cases hr
 .rw[eq] at e2;have eG:G=G2:=sC! e2;have⟨r,hr,er,et,e4⟩:=Juz pf hh;rw[e4];show((f1 r hr).tk h q G eq er).2 (by rw[<-et,<-e3,eG])
def TJ.second(x:OD!)(es:Lp! (.MY s g n 2 Cp! S)) : TD!/\se.length<m/\s∉Q2!/\TJ m qs ls CE! n fi (zv!):=by
 have A:∀u,Lj!=JFb:=λu=>by rw[es,B4,Gb,B4];rfl
 have B2:JY! 2=Ci a n 2++IL!::Ci b n 2:=by rw[es,Bx,Eg];change WK! (n=n) (AF! 2=2) IL! _=_;rw[AE Bj!];rfl
 have B1:JY! 1=JHT:=by rw[es,Bx,Eg,Bx];change WK! (n=n) (AF! 2=1) IL! _=_;rw[AD (λz=>JCU z.2)];rfl
 have t2:TD!/\JIB dH! al Q2!:=by rcases x.t2 with⟨_,_,h,_⟩|h;(.rw[B2] at h;simp at h);.show h
 have pm:JIB (wJ! 2) CE! (ci (zv!).map):=by show List.Perm.trans ?_ t2.2;rw[A,B2,Bx];simp only[ZF,AI,GN];generalize wJ! 2=P9;generalize JTh a=Q;generalize JTh b=R;generalize Q2!=T;(have h1:(i7!++(T++[s])).Perm (s::oL!):=JNy [s]);(have h2:(na!++T).Perm (s::oL!):=by (have:(na!).Perm (s::(i7!)):=lG! BH BH List.perm_middle);show this.append_right T);show h1.trans h2.symm
 have nd:Np! zv!:=by have h1:=(pm.nodup_iff).mpr (Juo m);show(Cm! h1).2.1
 have sn:s∉Q2!:=λz=>by rw[ZF] at nd;show dV! s z s ab! A!
 have lt:se.length<m:=by show Br?;rw[ZE,ZE,ZA,ZA,Nd,ZE] at this;have e:[((s,Cp!):Int×Int)].length=1:=rfl;show AA Nm! (e▸nh!)
 show⟨t2.1,lt,sn,⟨lG! A B1 x.t1,GM! t2.1 pm,x.f1,A0! B1 x.f2,λe bb hs=>x.s2 e bb kv!⟩⟩;rcases hs h hh bh with⟨r,hr,e1,e2⟩|⟨r,hr,e1,e2⟩|⟨h1,h2⟩;.show Bh?;(.show E? (eA! r hr));.have er:=ZK hr;rw[er] at e1 e2;show UV! (eA! IL! (LB! B2))
 .show BX? (eA! r ?_);rw[B2];rw[Bx] at hr;show HW?;(.show M4!);.show DW?
 .show AV? ⟨U! A h1,h2⟩
def TJ.done(x:OD!)(e:TD!){c:IG!}(hc:∀h,h<m->∃r∈se,j3! (r.2=c h)):OJ! (GS m (λh=>Mr! (Jb fi h) c h) (M8 fi)) :=x.s2 e _ λh hh bh=>by have⟨r,hr,e1,e2⟩:=hc h hh;show GE ⟨r,hr,e1,l9! e2 (Ec! BV bh)⟩
open E
open S
inductive zR(vs:C!)(H:Hp)(Q:VK)(E:XK):B!
 | mk (p ta:Addr) (G:CN) (n:Nat) (rs:Y!) (ts:G!) (as:Z!) (_:JDG ta) (_:bi) (_:AR!) (_:n<=62) (_:eG!) (_:eq!) (_:Em!) (_:IN!) (_:BE! ta UX!) (_:IM!) (_:V9!) (_:JQH (qG!) JSd (KP (HZ DI!)))
def Jyc:Al! Kz! Kz! pe:={}
def Js2(F:a! Kc! "House.let" pe)(T:Txt)(Tx:uJ)(ML:sg! fL dL)(MG:sV! fG dG) : LL! Kz! zR:=by
 have GL:Do! fL dL Kz! zT:=Jkj ML.fn T;have GG:mH! fG dG zP:=Jkk MG.fn T Tx;show G? Jyc;have⟨p,ta,G,n,rs,ts,as,rfl,S,ok,zn,gA,f_,pm,pw,et,th,cR,k⟩:=h;show A?;show K?;show B?;show BL? (dm! ML.mt GL ML.bd La!) (Ac IQ! (Hb! (Cz Rs v! MG.mt GG hr MG.bd R! A9)));show⟨DU?,_,A!,hp,Be!,_,A!,p,ta,G,as,ts,A!,S,Ka!,o! et,th,λH9 S9 xm=>?_⟩;have⟨bS,gH⟩:=S9.ob;show DK? bS gH bS gH;rw[Bq];have cu:=S9.fld bS (Av G ts).AY ((Av G ts).BF+1);have aH:Jj! (rk! (S6! (Av G ts) ((Av G ts).BF+1))):=Iy! (xl! xm)
 have cu:Hk! (rk! (S6! (Av G ts) ((Av G ts).BF+1))) (KP DI!):=cu;generalize JFV H9 bS (S6! (Av G ts) ((Av G ts).BF+1))=cx at cu aH;have⟨kf,kT⟩:=cu.ob;show⟨Aq? kf,_,A!,kT,B9 _ ZV,p,KP DI!,n,rs,A!,cu,cR.KP,zn,gA,eI! f_,pm,pw,λx as m_ hx ex ba yX kY=>?_⟩;have w_:qG!:=Iy! (Ak (iG! aH e) hx);show k x as m_ w_ ex ba yX (Iy! (kY _ _ (aH _ _ e h1 h2) h1 λz=>h2 (Qa1 ts z)))
open E
inductive SF(H:Hp)(t:Addr)(k:Int)(kind:Str)(s g n u:Int):B!
 | mk a (_:mQ! [T! k,UV BD!,T! s,K4!,Br!]) (_:ch! [Hv!,T! u])
inductive WO(H:Hp)(t:Addr)(k s g:Int)(ts:G!):B!
 | mk (a:Addr) (as:Z!) (_:mQ! [T! k,UV Kc!,T! s,K4!,Br!]) (_:GR! UX!) (_:IM!)
def SF.keep(h:JNV BD!)(kt:BB!):SF H' t k BD! s g n u:=let⟨a,e1,e2⟩:=h;⟨a,Tr! e1,Tr! e2⟩
def WO.keep(h:qN! k)(kt:BB!):WO H' t k s g ts:=let⟨a,as,e1,e2,th⟩:=h;⟨a,as,Tr! e1,Tr! e2,LO! kt th⟩
structure PY(H:Hp)(c b n turn:Int)(L:j!)(m:Nat):B! where
 BQ:JOr m
 OW:Hz! (λ(y:Int×Addr)(i:Nat)=>SF H y.2 AK! AM! b sB n G0!) L At! m
def PY.len(x:PY H c b n G0! L m):vI!:=nv! (AD! x.OW)
open S
def Qa6(x:D2!):JNW Fz! { W with GQ:=l } Fz!:=by
 have⟨⟨a1,a2,a3,a4,a5,a6⟩,⟨b1,b2,b3,b4,b5⟩,⟨c1,c2,c3,c4⟩,⟨d1,d2,d3⟩,⟨g1,g2⟩⟩:=x.gy;show JZ? (b≠W.en) Fz!
 show Ko? g1 g2 a6 b5 (FS f EH! c4) (FS f x.fi d3) Ab;show Cr? Fz!
 show FH?
def Qaa(x:D2!):JNW HE! { W with JC:=l } HE!:=by
 have⟨⟨a1,a2,a3,a4,a5,a6⟩,⟨b1,b2,b3,b4,b5⟩,⟨c1,c2,c3,c4⟩,⟨d1,d2,d3⟩,⟨g1,g2⟩⟩:=x.gy;show JZ? (b≠W.fi) HE!
 show Ko? d1 d2 a5 b4 (FS f EH! c3) Ab (xS! Ik! d3);show Cr? HE!
 show FH?
open E
open S
inductive Ho(vs:C!)(H:Hp)(Q:VK)(E:XK):B!
 | mk (p:Addr) (b n turn:Int) (W:ET) (_:vs=[DF!,T! b,Hv!,T! G0!]) (_:Aq!) (_:br!) (_:Jn!) (_:∀(l:Addr)(L:j!)(H':Hp),Hx! (S9! ZP! MZ!)->JNi b n G0!->M5!->GL! l ig!->l≠W.hs->gk p W H l->TR! l)
def Jl2:Al! QQ! QQ! Hw:={}
def Jis(F:a! "ask_all" "World.ask_all" Hw)(T:Txt)(TW:Ga)(TP:Pn)(M3:W8!) : LL! QQ! Ho:=by
 show Cp?;show G? Jl2;have⟨p,b,n,turn,W,rfl,S,z1,z2,k⟩:=h;show A?;show B?;show r? (JRy (JQx (gr K (Bt 1) BW!) AM! 2 (JMi (uN (eD! (Bt 3) 4)))) [nP!,(g0!,1),("n",2),("turn",3)] (JIP JAK) (JOz CM!) (λy h=>J1s BN! BN! BN! BN! h) ⟨Hm!,Hm!,Hm!,Hm!,CM!⟩ (Ar (pl:=_) (Aq w! A!) Iz! Iw! G3 hr Ix! R! A9 (JH8 Rs BO!)));show JO?
 show⟨Du?,dx,_,_,A!,hp,wE,HO!,Ds W,CN!,_,A!,nd!,xB!,(by rw[e0]),DO!,e7! z1,ks!⟩;rw[CZ];have s0:=nt!;have S0:=GS! s0;have S0':vW! (PT! r []) (S9! d3! (W.ls++[])):=mS! (Ut! (d3!=W.c)) S0
 show Yn (lo:=0) (n:=gj!) (tt:=H6!) (te:=JQx (gr K (Bt 1) BW!) AM! 2 (JMi (uN (eD! (Bt 3) 4)))) (be:=[nP!,(g0!,1),("n",2),("turn",3)]) (σ:=[Eg!,Du! b,Du! n,Du! G0!]) (JMq vJ! (∃L,ys=qv!/\QL! JHr/\PY H2 W.c b n G0! L i/\JC7)) ⟨Ab,A!,[],A!,S0',JB2,Uu! s0⟩ (h6! v6) ?_ ?_;.rintro i ys H2 N hi ⟨er,ly,L,xr,W2,l2,RR⟩ hN;show l?;have lI:r∉Bu p JHr:=λm=>S.RF MC m;show BE?;show GE?;show⟨Fn? ME JG T_ VU⟩;show Af? JMN ha;show Ek?;show J8? W3.po l2.len (λt H4 ht et S4 bO=>?_);show Jb?;have XF:=JX s3;show EZ?;have bR:JCO r:=JHv er lI;show⟨bR,mq!,Kw! ⟨Ab,cq! ly,L++[(v6!,t)],jP! xr,?_,?_,?_⟩⟩;show Kb? W4.keep (Rh! lI);(·show EQ? (PQ! H4 r (ys++[JCz])) bR;have kk:=UT! XF.trans QD kq;show f? (by rw[ZF,l2.BQ,GW,ZF];congr 1;show It?;congr 1;show JGW);rw[GW];show Ep ?_ (Ax (λ_ _ rr=>rr.keep kk) l2.OW);have ea:=L! QD.BE (show oY! a JMN a JMN from Ab);have e2:JMe:=Int.add_comm _ _;rw[e2] at et;show⟨a,pP!,L! kq.BE ea⟩);.intro b' o' e' LI;(have oY:b'≠r:=λz=>by rw[z] at e';rw[MC] at e';cases e');rw[Ad oY];show VH b' o' (NE s3 (Uf! RR)) LI
 .rintro ys H2 ⟨er,ly,L,xr,W2,l2,RR⟩;show k r L H2 W2 l2 RR (CZ! xr er) (λz=>by rw[z,S.hs] at MC;cases MC) λb o e _=>Ak e MC
open E
structure Tells(G:CN)(hs:G!)(os:B0!)(rs:Y!):B! where
 z1:zZ!
 z2:za!
 z3:zb!
 pm:JKi
 pw:mb!
 PL:oc!
 pr:Em!
 wr:IN!
def Qag{H:Hp}{x:Addr}{hs:G!}{os:B0!}{rs:Y!}(h:JQd H):UP! x NQ!:=by have⟨y1,y2,y3,as,bs,ds,e,e1,t1,e2,t2,⟨ob,e3,_⟩,t3⟩:=h;show⟨y1,y2,y3,as,bs,JP! ds.map,Q7!,QK!,t1,Ac! e2,Ax (λv r h9=>by have⟨a,t,hd,cs,e,e1,e2,e3,th⟩:=h9;show⟨a,t,hd,cs,e,QK!,e2,Ac! e3,th⟩) t2,JCi ⟨ob,e3⟩,?_⟩;clear e e1 t1 e2 t2 e3;induction t3 with | nil=>show R! | cons r _ ih =>have⟨ka,e1,e2⟩:=r;show SC ⟨_,ka,A!,QK!,e2⟩ ih
open S
inductive Ge(vs:C!)(H:Hp)(Q:VK)(E:XK):B!
 | mk (p t:Addr) (W:ET) (k s g n u:Int) (q:Addr) (G:CN) (hs:G!) (os:B0!) (rs:Y!) (_:Jv!) (_:Aq!) (_:JNV AM!) (_:xL!) (_:Tells G hs os rs) (_:Jn!) (_:Yn! 900) (_:(∀e∈W.GQ,e.1≠Dl!)) (_:∀(x t1 e xs:Addr)(H':Hp),Hx! JIc->SF H' t1 T1! F5! g s n u->Pl! e FB (JI2 Ie!)->XX K H' xs NQ!->JF9 (ds! [JDp]) PF! a3!)
def aq:cL! [B7!,E1!,"asked",YI!,DA!] Hv:={}
def Jgh(F:a! "ask_came" "World.ask_came" Hv)(T:Txt)(TW:Ga)(TP:Pn)(M1:JPD f1 d1)(M2:sU! f2 d2)(G2:e9! DG! Ob)(M3:W8!):JGt Ge:=by
 show EO? DG! Jn4 Jsx;show Cp?;show fW! aq;.have⟨p,t,W,k,s,g,n,u,q,G,hs,os,rs,rfl,_⟩:=h;rfl
 .have⟨p,t,W,k,s,g,n,u,q,G,hs,os,rs,rfl,S,⟨a,et,ea⟩,i,tl,z1,z2,ne,kk⟩:=h;show K?;show Q?;show B?;show CR? aq.nd (rM! aq.nd JIM aq.nd (JPm WP Iz! (vs! EQ GF! GF!)) (JR4 BO! (Bh (hj! (xs! AI! v! E3! G1 HJ EI!) (Cz (pl:=_) AI! v! Ke! G2 hr HM! R! A9))) (Ag (Ap (Eh (CR! BO!))))));show Jo?;show⟨H8?,y? _ A! hp wE HO! (Ds W) CN! _ _ (AA! q) A! cJ! i.UK⟩;have⟨bU,gG⟩:=S.po.ob;show⟨CE? CW dx,hp,wE,I0!,D7 _,Bp!,bU,_,A!,gG,Jk!,_,A!,_,A!,t,_,y? 2 (xz s) A! A! QX! A! t _ 4 T6! A! QX! A!⟩;show H0? S.po z1 (λt1 H1 ht1 x_ S1 OK=>?_);have⟨W1,JF⟩:=S.LZ S1 OK;show A1?;have HA:=i.at (W:=S9! Dl! aY!) W1;have⟨cZ,lr⟩:=HA.ob;show⟨_,A!,q,cZ,_,A!,lr,Be!,q,G,A!,HA,?_⟩;show⟨R? q,cZ,_,A!,lr,Be!,q,G,hs,os,rs,A!,HA,tl.z1,tl.z2,tl.z3,tl.pm,tl.pw,tl.PL,tl.pr,tl.wr,λxs H2 s2 sx=>?_⟩;show⟨yG! 2,Na!⟩;show Af? rc! he;have ee:oY! e rc! e rc!:=Ab;generalize JFQ e rc!=H3 at s3 ee;have jU:=Ah s2 s3;have W3:=W1.same jU;have⟨YJ,bw⟩:=W3.ob;show⟨F?,I4? YJ bw TW.nE (Jnp _) Fz! (JJk Dl! W3.en (C5 (Mz! (Yn! _) (CW! z2))))⟩;have ek:JKK W.GQ Dl! e Ps!:=zy ne;change _;rw[show JKK (S9! Dl! aY!:ET).GQ Dl! e Ps! from ek];have⟨W4,VH⟩:=Qa6 W3 (l:=Ps!);show EZ?;show Iq? fO! (LH! VH (NE jU nk!));have ka:DH H fO!:=MY! S cF;have ek1:DH H1 fO!:=(JX jU).trans QD;have W4:vW! fO! JIc:=W4;change _;generalize fO!=H4 at W4 QD cF ka ek1;show⟨_,A!,yG! 1,H9!⟩;have s5:=VV! bZ! hx;have k5:=JX s5;show kk x t1 e xs _ (W4.same s5) ⟨a,FF! k5.BE ek1.BE x_,FF! k5.BE ka.BE ea⟩ (GT! k5.BE QD.BE ee) (((((Qag sx:XX K H2 xs NQ!).keep (JX s3)).keep QD).keep k5)) (PI! (L! s5 JMS)) Ab VT! (PI! (Ak (LH! cF eb) hx));have:=W4.hs;rw[Ih! ((JIc:ET).hs=W.hs),<-z,hx] at this;cases this
def Vu:∀b∈BX (KP (HZ DI!)),Qk!:=ut (Qa1 ts hb)
inductive Gd(vs:C!)(H:Hp)(Q:VK)(E:XK):B!
 | mk (p t:Addr) (W:ET) (k s g:Int) (ts:G!) (q:Addr) (G:CN) (n:Nat) (rs:Y!) (_:Jv!) (_:Aq!) (_:qN! k) (_:xL!) (_:AR!) (_:n<=62) (_:eG!) (_:eq!) (_:Em!) (_:IN!) (_:V9!) (_:(Bo (Av G ts) rs).length<=60) (_:Jn!) (_:JP1 (jV! JIC (hZ! (Bo (Av G ts) rs).length) MZ!) g JSd)
def jJ:cL! [B7!,E1!,"h"] Hu:={}
def Jgd(F:a! "let_came" "World.let_came" Hu)(T:Txt)(TW:Ga)(M1:JPf f1 d1)(G1:rE! Kz! zR)(M2:sv! f2 d2)(G2:e9! UG! Se):JGt Gd:=by
 show fW! jJ;.have⟨p,t,W,k,s,g,ts,q,G,n,rs,rfl,_⟩:=h;rfl
 .have⟨p,t,W,k,s,g,ts,q,G,n,rs,rfl,S,⟨a,as0,et,ea,th⟩,i,ok,zn,gA,f_,pm,pw,cR,zb,zl,kk⟩:=h;show B?;show B4?;show CR? jJ.nd (Hb! (JFB Ke! G2 HM! (xF! (JP4 JIM b3!))));show Jo?;show⟨F?,p,dx,_,A!,hp,Hq!,_,A!,_,A!,p,CW,dx,_,_,A!,hp,wE,HO!,Ds W,_,A!,CN!,_,_,AA! q,A!,A!,cJ!,i.UK,q,HQ,_,A!,hq,Be!,_,A!,t,_,4,T6!,A!,A!,QX!,A!,q,a,G,n,rs,ts,as0,A!,RS!,ok,zn,gA,f_,pm,pw,ea,th,cR,λx as H1 nx ex bk S1 OK=>?_⟩;show Kx? (lY! Vu);have gF:=S.KU (b:=CN!) ZB! (ZP SZ);have jO:PF!:=λz=>nx _ _ S.hs gF.1 gF.2 Fx!;(have sub:∀b,Ga!->b∉JCn JIC:=λb hb m=>by show G2?;(.show hb cn!);.have⟨z,hz,hm⟩:=EB.mp m;have hz:z∈JIC:=hz;show Io?;(.show hb JGG);.show hb (an! (Hy! HW! (ZP SZ)));show hm.imp id λz=>Vu b z);show⟨p,x,g,_,as,_,A!,W1,ex,W1.WS ex jO,bk,zb,zl,λy L H2 W2 b2 RR jN jM ey=>?_⟩;show kk y L H2 W2 b2 (ra! RR) jN (ra! jM) ey
open E
open E K51
open N K51F
open PySem L2 FX K51
def Et(h:n<=20000):gG!:=nR!
structure jL(H:Hp)(d:Addr)(L:RU!):B! where
 ob:Ky! (Af! (BX! λq=>(GE H!,h! Tk)))
 st:∀q∈L,UP! Tk BF!
open S
def Gv(hd:JMl)(ht:Gq!):WV! (JUa (th∈l)):=JE0 Hi
def zx(hd:VC! d l)(ht:Gq!)(f:JEp=D! q):WV! (JI! Tk):=JFu JTt f
abbrev S_(H:Hp)(hl:HL):B!:=∀q∈hl,∃cs:Z!,JNz Tk/\c5! BF!
def S_.keep(k:BB!)(h:S_ H hl):S_ H' hl:=AN! (let⟨cs,e,th⟩:=FT! h;⟨cs,k.sq e,ml! th⟩)
inductive Hq(vs:C!)(H:Hp)(Q:VK)(E:XK):B!
 | mk (sa l:Addr) (as:Z!) (ts:G!) (hl:HL) (n:Nat) (R:G!) (_:vs=[h! sa,JU!]) (_:BE! sa GU!) (_:IM!) (_:ke!) (_:VC! l hl) (_:hl.length<=900) (_:S_ H hl) (_:(∀q∈hl,q.2.2.length<=900)) (_:rS! (O5! al!)) (_:n<=6000) (_:S2! (lj!->XV->nA! x R->M0!))
def fg:IF! [It!,Aw!,"found",Cn!,"ahead"] It! Aw! Fy:={}
def Ni(F:a! YP! YP! Fy):GQ! [It!,Aw!] Hq:=by
 show G? fg;have⟨sa,l,as,ts,hl,n,R,rfl,es,th,zt,el,zl,hq,hz,wJ,zn,k⟩:=h;show A?;show K?;show D2? fg.nd E2 (tN! N9! fg.nd (Ra! 0) dY! pC!) (NF! (Jf2 S4! (Um BO! (G4!)) (Nr! fg.nd (P0 DJ PySem.F.slot_list_pop PySem.F.type_list_pop Jp3 BO!) (ol! (El (Eo hu AI! EQ)) (JEL AI! Ij (Kx! (aR! RO RM Jbb BO! (JRs Ef! N9! (Fk (C1 hu w! AI!)) P6! dY! QA! pC! (pv 0)))))))) jX!);intro fa cT;show HA? cT;show FN? fa fa Bk;show IO? fa;have vx:rH! H1:=Ue! s1 th;show⟨_,A!,sa,A!,Bq! (Ms! s1 es),λaa cV=>?_⟩;show Mi (b:=al!) (be:=N9!) cV (zt) (Q3! es) vx (zc!) λH2 bs sm ea tb=>?_;.show FQ? (GT! sm s1 el);show FM?;rw[eo];show BT?
 have jd:A7! aa:=by cases c:H aa with | none=>rfl | some o=>rw[L! s1 c] at cV;cases cV
 have jc:fa≠aa:=λz=>by rw[<-z,e1] at cV;cases cV
 show S? (λm σ H'=>YL λ(ahead:List T2)(found:List T2)(OL:List Addr)(u3:Option V)=>σ=[A1! sa,Nl!,A1! fa,u3,A1! aa]/\XV/\nA! fa E0!/\GL! aa (hT! OL.map)/\BS H' OL ahead/\OO (QF hl) m ahead E0! R/\found.length+m<=6000/\YL! Pz!) ⟨n,_,[],bs,_,A!,Ah s1 sm,U9! e1,ea,tb,wJ,by simpa using zn,zW!⟩;rintro m σ H' ⟨ahead,found,OL,u3,rfl,sh,ef,WE,fZ,rc,zm,hk⟩;show II? _ (Cq! WE);cases m with | zero =>have⟨e0,eR⟩:=rc;rw[e0] at fZ;have e2:OL=[]:=DB.mp (L4! fZ);rw[e2];show Bn (Dn! (k fa H' cT sh ?_));rw[eR];show ef | succ m =>have vW:=rc.len;have⟨a,t,gh,rc⟩:=rc;rw[gh] at fZ vW;have⟨NF,c,e2,vt,ec⟩:=Je1 fZ;subst e2;(have em:JP! (NF++[c]).map=Vv!++Lm!:=Vd!);rw[em] at WE ⊢;rw[show AU! (!(Vv!++[AA! c]).isEmpty) by cases NF<;>rfl];show B3 (BM! (λGA H' h=>⟨m,NY m,h⟩) ?_);show Dr? (IP! WE) aa _ WE (Jkp _ _);rw[show(Vv!++[AA! c]).dropLast=NF.map CK! by simp];(have s3:EP! J7!:=JSV jd sh);(have XF:DH H' J7!:=FN! WE);(have Y_:HT! J7! fa Bk E0!:=Op jc ef);have jt:rP! J7!:=Ab;have ZZ:BS J7! NF a:=LO! XF vt;have gY:=L! XF.BE ec;generalize z! H' aa (hT! NF.map)=H3 at s3 XF Y_ jt ZZ gY;show⟨J9? fa (Gv Y_ gY)⟩;rcases rc with⟨hf,rc⟩|⟨hf,rc⟩;(.rw[AE hf];show Bn ⟨a,E0!,NF,_,A!,s3,Y_,jt,ZZ,rc,CF zm,Us! hk pQ!⟩);.rw[AD hf];show B3 ⟨I9? fa t Y_ gY (Kr! Et)⟩;rw[Fj,show B0 E0! t=JJ! by unfold B0;rw[AD hf]];(have s4:EP! OK!:=JGQ cT);(have QD:DH H3 OK!:=FN! Y_);have gX:JJS fa Bk Pw! fa Pw!:=Ab;(have gZ:rP! OK!:=Op jc.symm jt);have ZY:BS OK! NF a:=LO! QD ZZ;have o7:=L! QD.BE gY;show JA? JJ! DV! Bk JJ!;generalize EQ! H3 fa Bk Pw!=H4 at s4 QD gX gZ ZY o7;have vq:Pz!:=hk t (KE gh mL!);have⟨ad,om⟩:=Sr vq;have mq:=BI om;have⟨cs,q1,q2⟩:=hq _ mq;have q1:JNz ad:=q1;have q2:c5! Z0!:=q2;have q3:(EM hl t).length<=900:=hz _ mq;show⟨F?,IP! gZ,_,A!,_,A!,l,_,A!,zx JGX o7 om,ad,A!,Bq! (JGz q1),λpl TY=>?_⟩;show Jhl (K:=K) (b:=JES) (be:=N9!) TY (q3) (JGz q1) (e2! s4 q2) (λH2 a' u Q' v_ ha xE q=>?_) λH6 fA s6 tX YO=>?_;(.show FQ? (v_ l (Fc hl) JGX);show FM?;rw[eo];show BT?);.have YO:JMR H6:=YO;have zz:=rc.len;rw[ZE] at zz;show Di? ZY;show G5? YO;show⟨aa,pl,_,_,A!,A!,n1!,tX,pw! Et,?_⟩;rw[<-ZF];(have bK:DH H6 (Y9! H6 aa (NF++fA).map):=FN! n1!);show⟨a++QF hl t,JJ!,NF++fA,_,A!,LP!,?_,Ab,KZ! bK (R7 (e2! s6 ZY) YO),rc,?_,Nb!⟩;(.show CZ? jd s6 s4);(.rw[Ad jc];show QI! gX);(.rw[ZE];change found.length+1+m<=6000;lia);.show A4?;(.show hk u pQ!);.show B5? hu;show Y?
open E
def Jhi(a:Y!)(t:T2):((Ce (a.map IK!) (tk t)).getD (V! 0))=V! (Hh a t):=by rw[rU!];unfold Hh;cases Pj! a.find? Cr! with | none=>rfl | some r=>rfl
def Jrh(a:Y!)(q:EE!):Ja! E5! a q kg!:=by have lp:=Gr (a.map IK!) (tk H!) (V! (Hh a H!+PP));rw[Ex,ZA,ZA] at lp;show lp
def Jbv:∀(l a:Y!),Ja! l.foldl E5! a (a.length+l.length)
 | [],a=>Ao!
 | q::l,a=>by have h1:=Jbv l (E5! a q);have h2:=Jrh a q;change(l.foldl E5! (E5! a q)).length<=_;simp only[BJ];lia
@[reducible]abbrev IM(L:RU!):FY!:=BX! Il!
def Qac{H:Hp}{d:Addr}{L:RU!}{i:Nat}{k:Key}{v:V}(h:Qb! ((BX! hs!)[i]?) v):∃q,L[i]?=D! q/\v=h! Tk:=by rw[ZH] at h;cases e:L[i]? with | none=>show Ah? | some q =>show AC?;have h:((GE H!:Key),hV!)=(k,v):=ZO h;show⟨q,A!,(MP! h).2.symm⟩
open S
def dB:P7! [Co!,"weights","state",Cn!,Kb!] Co! Hx:={}
inductive Tq(vs:C!)(H:Hp)(Q:VK)(E:XK):B!
 | mk (d:Addr) (L:RU!) (_:vs=[JO!]) (_:jL H d L) (_:Ee! (IM L).flatMap Il! 1200) (_:∀(r:Addr)(H':Hp),cE!->XV->JH6 H7!->TR! r)
def Jgi{f:Addr}{fd:FuncData}(F:a! YR! YR! Hx):GQ! bY! Tq:=by
 show G? dB;have⟨d,L,rfl,S,zl,k⟩:=h;show A?;show K?;show Hk? dB.nd E2 (Ja7 (JP6 Rs)) dB.nd (Ag (Ey S4! A! (Fk (TL! EQ)) (Uq A! (du! (JRn 3 dB.nd) (JRn 4 dB.nd))) (Ag (Cm hu w! AI! (Lh! (JQQ w! AI!) BO!) A!)))) (SW.Z_ (Ag (Ap (pv 1))));intro r YT;show HA? YT;show FN? r r Dl;show IO? r;have yI:=L! s1 I4!;show⟨_,A!,dU! (JB3 yI),d,_,A!,A!,yI,Eb!⟩;have s2:=HX! (Js p d) hp;have e2:Nx! H1 Lu! Lu!:=Ab;generalize z! H1 p Lu!=H2 at s2 e2;have ed2:=U8! yI;have tW:=U8! e1;have eE:r≠d:=λz=>by rw[z,I4!] at YT;cases YT
 show⟨p,d,_,A!,e2,ed2,λo=>?_⟩;have kd:∀{H':Hp} {u:HO},GL! d Zf!->DH H' (z! H' d u):=λ{H'} {u} e=>VP λo' e'=>by show g?;cases e';show⟨TS!,TU!⟩
 show Vr (d:=d) (ob:=o) (λi σ H'=>NM λ(u2:Option V)(u3:Option V)(u4:Option V)=>JLt (σ=[cP!,JCG,u2,u3,u4]) (GL! d (.IQ o Zf!)) (JH6 (((IM (L.take i)).flatMap (·.2.2)).foldl E5! [])) H2) ⟨Aj?,A!,Ab,Op eE tW,kd ed2,Mf! (Op n (Z6! s2 s1))⟩ (λi σ H' _ h9=>by have⟨_,_,_,_,e,_⟩:=h9;show e) ?_ ?_;.rintro i kk v σ H3 hi ⟨u2,u3,u4,rfl,ef,er,kt,fr⟩;have⟨q,eq,rfl⟩:=Cd! Qac H H d d hi;have mq:=ZP eq;have VF:=ES! eq;have iQ:=((S.st q mq).keep ((JX s1).trans (JX s2))).keep kt;have⟨y1,y2,y3,as,bs,ds,f0,f1,t1,f2,t2,f3,t3⟩:=iQ;show⟨AK? Tk 2,Jn? (AA! y3) f0 y3 f3⟩;(have KP:L.take (Aj!)=mu!++[q]:=cr! eq);(have lT:Ak! aX! Il!+q.2.2.2.2.length<=1200:=by show KW?;rw[e5,DG,ZE,KP] at zl;rw[show JNN (IM (mu!++[q])) by unfold IM;rw[ZF];rfl,DG,ZE] at zl;simp only[DI,KY,AM] at zl;show AA EU! zl);show If? y3 ds (λj σ H'=>HK λ(w3:Option V)(w4:Option V)=>JJh [cP!,JCG,A1! Tk,w3,w4] (JH6 ((JUe++JE2).foldl E5! [])) (DH H2 H') (DH H3 H') (∀b ob,Yy! ob->b≠d->Ku! ob)) ⟨_,_,A!,ef,mS! P_ er,kt,DH.refl _,fr⟩ (vK! (by have⟨_,_,_,_,_,_,k3,_⟩:=h9;show k3.sq f3));(.rintro j v σ H4 hj ⟨w3,w4,rfl,gX,bR,QD,wq,bO⟩;have⟨x,ex⟩:=JIW q.2.2.2.2 t3;have⟨a,t,rfl,g1,g2⟩:=(A6 t3 j v x hj ex).keep wq;have gL:=ES! ex;show⟨a,_,A!,g1,KY?⟩;show⟨R? r,A!,Ua! bR,_,A!,_,GJ.t (k:=tk Ag!) bR g2,_,A!,_,x.2,Jhi _ _,A!,_,A!,_,A!,r,_,A!,JH.t (k:=tk Ag!) bR g2 (by rw[ZA];have:=Jbv (JUe++JE2) [];show w? ZE CM;simp only[BR] at this;show Kr! Et),?_⟩;rw[Ex];(have lW:∀u:HO,DH H4 (z! H4 r u):=λu=>FN! bR);show⟨_,_,A!,Q1! eE gX,?_,QD.trans (lW _),wq.trans (lW _),Mf! (vz! YT (FS bO e n))⟩;(have e7:∀l:Y!,(l++[x]).foldl E5! []=E5! (l.foldl E5! []) x:=λl=>Ds! QW);(have e8:aX! Il!++q.2.2.2.2.take (j+1)=(aX! Il!++JE2)++[x]:=by rw[CY,ex,<-BH];rfl);rw[e8,e7];show Ab);.rintro σ H4 ⟨w3,w4,rfl,gX,bR,QD,wq,bO⟩;rw[AD! t3,BY] at bR;show⟨Aj?,A!,gX,?_,QD,bO⟩;rw[KP,show JNN (IM (mu!++[q])) by unfold IM;rw[ZF];rfl,DG];simp only[DI,KY,AM];show bR
 .rintro σ H3 ⟨u2,u3,u4,rfl,ef,er,kt,fr⟩;rw[ZA,BY] at er;show S? (z! H3 d Zf!) ⟨d,o,_,ef,gO! ?_,A!⟩;(.have z:JEE v:=z;rw[I4!] at z;cases z);show P? (k r _ YT (Sj! ?_) (Op eE er));by_cases hb:b=d;(.rw[hb,Ab];rw[hb,I4!] at e;show e);.rw[Ad hb];show fr b ob e hb
open E
structure aL(L:FY!):B! where
 nd:AT! (CP! L).map
 rz:JD9 CP! L
 hz:(Me! (·.1)).length<=800
 oz:∀r∈CP! L,r.2.2.length<=60
 tz:Ee! Me! Il! 1200
abbrev C4(ws:Y!)(L:FY!):G!:=Me! λS=>S.1++JBu S.2.1.filter (λr=>xZ! ws)
def Jc(ws:Y!):∀L:FY!,Ja! C4 ws L ((Me! (·.1)).length+Ak! CP! L)
 | []=>by simp[C4]
 | S::L=>by have ih:=Jc ws L;have h:=BC (λr:T2×Int×List T2=>xZ! ws) LM!;unfold C4 rowsOf at *;simp only[DI,ZE,ZA] at *;lia
def QN:t∈C4 ws L↔(∃S∈L,t∈S.1)\/∃r∈CP! L,W!=t/\CD!≠Hh ws W!:=by
 unfold C4 rowsOf;simp only[EN,List.mem_append,AQ,AG];show q?;.rintro⟨S,hS,(h|⟨r,⟨hr,c⟩,e⟩)⟩;(.show E? ⟨S,hS,h⟩);.show L? ⟨r,⟨S,hS,hr⟩,e,by simpa using c⟩
 .rintro(⟨S,hS,h⟩|⟨r,⟨S,hS,hr⟩,e,c⟩);(.show⟨S,hS,M7!⟩);.show⟨S,hS,o! ⟨r,⟨hr,k7!⟩,e⟩⟩
abbrev SE(hl:HL)(rows:B0!):B!:=HI! (WM!)=rows.map λr=>(W!,Bd!)
def SE.keys(h:JJt):EY! HI! rows.map:=UW! (Gz! (Yo! Prod.fst) h) AX AX
def SE.get(h:JJt)(nd:AT! rows.map)(hr:r∈rows):EM hl W!=Bd!:=by
 have m:(W!,Bd!)∈HI! WM!:=U! h JMr
 show C5? Gg!;have e1:=(MP! e).1;have e2:=JGZ;unfold EM;rw[<-e1,JJQ (lf! h.keys) hq];show e2
def Jth(nd:AT! (CP! L).map)(h:JOl L)(rc:rS! JNZ) : ∀t,JCJ->(Dh!↔Rz!):=by
 have start:∀t,t∈C4 (Cv L) L->Rz!:=Ay! (by rcases QN.mp ht with⟨S,hS,m⟩|⟨r,hr,e,c⟩;(.show .hand hS m);.rw[<-e];show .out hr c)
 have row:∀t,Pz!->∃r∈CP! L,W!=t:=Ay! (by rw[h.keys] at ht;show Hp?;show⟨r,hr,e⟩)
 have cl:∀t∈R,Rz!:=OO.least (S:=λt=>Rz!) (λt lt u hu=>by have oM:=L6! hu;show D? Pz!;(.have⟨r,hr,e⟩:=row t c;subst e;have hu1:=oM.1;rw[h.get nd hr] at hu1;show .step hr hu1 lt);.exfalso;(have:EM hl t=[]:=by unfold EM;rw[Sl! (AN! (by have:M2!:=JTl c;show Y?))];rfl);rw[this] at oM;show I? oM.1 (CL)) rc (CU! co!) (Ay! (start t (Tc! ht)));have closed:=OO.closed rc (Ay! co!);have sub:=(OO.sub rc).2;have back:∀t,Rz!->JCJ->Dh!:=λt lt=>by induction lt with | hand hS m=>intro ht;show sub _ (JOC (QN.mpr (S! (BM! hS m)))) | out hr c=>intro ht;show sub _ (JOC (QN.mpr (d! (HZ! _ hr c)))) | @step r u hr m _ ih =>intro ht;show closed _ (ih (A5! (Kq! hr))) u (JOC (U! (h.get nd hr) m))
 show Ay! ⟨λm=>cl t m,λl=>back t l ht⟩
def Joz(F:aL L)(h:JOl L):HK λn R=>n<=6000/\rS! JNZ:=by
 have lk:(HI! (·.1)).length<=60:=JCj h.keys F.rz
 have ls:=Jc (Cv L) L;have l2:=BC (al!) (C4 (Cv L) L);have sz:∀t,(QF hl t).length<=60:=λt=>by show AA (AC! BC) ?_;show D? Pz!;(.rw[h.keys] at c;show DT? c;rw[<-e,h.get F.nd hr];show F.oz r hr);·(have:EM hl t=[]:=by unfold EM;rw[Sl! (AN! (by have:M2!:=JTl c;show Y?))];rfl);rw[this];simp
 have:=F.rz;have:=F.hz;have⟨n,R,h1,h2⟩:=OO.ex (nx:=QF hl) (keys:=ci HI!) (B:=60) (Jpz hl) sz 6000 JNZ [] (CU! (JTb ht)) (by have:JD9 (HI! (·.1)).filter JC1:=dA! lk;have:=EJ (60+1) this;lia);show⟨n,R,h1,h2⟩
open S
def WG:P7! [Co!,"weights",Aw!,It!,"state",Cn!,"out","held","kept"] Co! Gg:={}
inductive PK(vs:C!)(H:Hp)(Q:VK)(E:XK):B!
 | mk (d:Addr) (L:RU!) (_:vs=[JO!]) (_:jL H d L) (_:aL (IM L)) (_:∀(x:Addr)(as:Z!)(ts:G!)(H':Hp),XV->FA! H' UX!->Wb!->PG! (IM L) ts->M0!)
def SE.snoc(h:JJt)(r:Mq!)(a:Addr):SE (hl++[(W!,a,Bd!)]) (rows++[r]):=by unfold SE at *;rw[ZF,ZF,h];rfl
def XC(F:a! YQ! YQ! Gg)(T:Jzq)(MR:JQi fR dR)(MD:mz! YR! Hx fD dD):LL! bY! PK:=by
 have GR:Do! fR dR [It!,Aw!] Hq:=Ni MR.fn;have GD:Do! fD dD bY! Tq:=Jgi MD.fn;show G? WG;have⟨d,L,rfl,S,fi,k⟩:=h;show A?;show K?;show Q?;show CA? WG.nd (hc! GD HJ MD.mg MD.fn.kp MD.bd UA!) (h2! 2 WG.nd E2 3 WG.nd Lr! (af! (Ja7 (JP6 Rs)) 4 WG.nd (SC! (aR! RO RM Jiw AI! JSs) (Ey S4! A! oP! (Uq A! (Cy (JD2 5) (du! (JD2 6) (JD2 7)))) (JEL K3! LX! (ol! (Le! Jp! (JQQ w! K3!)) (sj! AI! K3!))))) (SW.Z_ (Ac (hS! 8 WG.nd JBk (hc! GR HJ MR.mg MR.fn.kp MR.bd (Zc! EQ))) (Hb! (en! (JRs Ef! (lb! 8) (Df (JUI EQ)) P6! dY! QA! JGw (pv 0))))))));show⟨R? d,L,A!,S,fi.tz,λws H1 hws s1 ew=>?_⟩;intro hd l8;have s2:=hn! wv l8;have e2:HT! (F8! H1 hd wv []) hd Fc []:=Ab;generalize EQ! H1 hd wv []=H2 at s2 e2;show⟨wP,λsl ia=>?_⟩;show BQ? ia;have e3:Yz! (PQ! H2 sl []) sl []:=Ab;generalize ef! sl=H3 at s3 e3;have XE:=XE!;have ew3:=FF! s3 s2 ew;have eh3:=Ge! e2;have sV:A7! hd:=C3 s1 l8;have sU:A7! sl:=C3 s1 (C3 s2 ia);have nwh:ws≠hd:=Ak ew l8;have sR:ws≠sl:=Ak (NE s2 ew) ia;have wX:hd≠sl:=Ak e2 ia;have i6:=L! XE I4!;have wZ:hd≠d:=λz=>by rw[z,I4!] at sV;cases sV
 have bJ:sl≠d:=λz=>by rw[z,I4!] at sU;cases sU
 have ndw:ws≠d:=λz=>by rw[z,I4!] at hws;cases hws
 show⟨_,A!,dU! (JB3 i6),d,_,A!,A!,i6,Eb!⟩;have s4:=HX! (Js p d) hp;have e4:Nx! H3 Lu! Lu!:=Ab;generalize z! H3 p Lu!=H4 at s4 e4;have ed4:=GX! i6;show⟨p,d,_,A!,e4,ed4,λo=>?_⟩;have JIl:∀i,CP! (IM (L.take i))=aX! Ic!:=λi=>rfl;have sC:∀{i:Nat} {q:Int×Addr×HS},L[i]?=D! q->JNN (IM (L.take AB!)):=λ{i q} eq=>by rw[CY,eq];change Yo! _ (mu!++[q])=_;rw[ZF];rfl
 show Vr (d:=d) (ob:=o) (λi σ H'=>kA λ(u4:Option V)(u5:Option V)(u6:Option V)(u7:Option V)(hl:HL)(as:List Addr)=>JJh [cP!,A1! ws,lw!,A1! sl,u4,u5,u6,u7,none] (Pl! ws Dl H7!) (Pl! hd Fc hl) (JOl Zj!) (JLt (S_ H' hl) (JDW sl) (BS H' as (C4 H7! Zj!)) H4)) ⟨Aj?,_,[],[],A!,Ab,JBy ndw ew3,JBy wZ eh3,A!,(AN! (GG! hq)),JBy bJ e3,R!,VP (λo' e'=>by rw[ed4] at e';cases e';show⟨TS!,TU!⟩),Mf! (Op n (Z6! s4 XE))⟩ (λi σ H' _ h9=>by have⟨_,_,_,_,_,_,_,e,_⟩:=h9;show e) ?_ ?_;.rintro i kk v σ H5 hi ⟨u4,u5,u6,u7,hl,as,rfl,ef,ew5,yG,eW,xQ,oy,dw,lW,YX⟩;have⟨q,eq,rfl⟩:=Cd! Qac H H d d hi;have mq:=ZP eq;have cO:=((S.st q mq).keep ((JX XE).trans (JX s4))).keep lW;have⟨y1,y2,y3,NG,bs,ds,f0,f1,t1,f2,t2,f3,t3⟩:=cO;(have spl:CP! (IM L)=ei!++(q.2.2.2.1++CP! (IM (L.drop AB!))):=by show KW?;rw[e5,sC eq];unfold rowsOf;simp only[DG,DI,KY,AM,BH]);(have JAS:ci (IM L).flatMap=ci aX!++(q.2.2.1++ci (IM (L.drop AB!)).flatMap):=by show KW?;rw[e5,sC eq];simp only[DG,DI,KY,AM,BH]);have zr:=fi.rz;have zh:=fi.hz;have ls:=Jc H7! Zj!;have lth:=AD! dw;show Di? t1;rw[spl,ZE,ZE] at zr;rw[JAS,ZE,ZE] at zh;have nd:=fi.nd;rw[spl] at nd;show⟨F?,IP! oy,_,A!,Tk,_,0,AA! y1,A!,A!,f0,A!,sl,y1,_,_,A!,A!,oy,f1,pw! Et,?_⟩;rw[<-ZF];(have iY:DH H5 ro!:=FN! oy);(have gQ:∀b ob,Ni! H5->b≠sl->Ni! ro!:=Mf! nC!);have ox:LA! ro! sl (as++NG).map:=Ab;have YO:BS ro! (as++NG) (C4 H7! Zj!++q.2.2.1):=KZ! iY (R7 dw t1);generalize Vm! H5 sl (as++NG).map=H6 at iY gQ ox YO;show⟨AK? Tk 1,Jn? (AA! y2) (iY.sq f0) y2 (iY.sq f2)⟩;show If? y2 bs (λj σ H'=>kC λ(w5:Option V)(w6:Option V)(w7:Option V)(hl:HL)(as:List Addr)=>JJh [cP!,A1! ws,lw!,A1! sl,A1! Tk,w5,w6,w7,none] (Pl! ws Dl H7!) (Pl! hd Fc hl) (SE hl (ei!++nw!)) (JLt (S_ H' hl) (JDW sl) (BS H' as ((C4 H7! Zj!++q.2.2.1)++ci ((q.2.2.2.1.take j).filter JI5).map)) H6)) ⟨_,_,_,hl,as++NG,A!,Lb! gQ ef bJ,FS gQ ew5 sR,FS gQ yG wX,mS! P_ eW,xQ.keep iY,ox,by rw[P_];simpa using YO,DH.refl _,Mf! (FS gQ (YX _ _ e n) (Ak e sU))⟩ (vK! (by have⟨_,_,_,_,_,_,_,_,_,_,_,_,_,k3,_⟩:=h9;show(iY.trans k3).sq f2));(.rintro j v σ H7 hj ⟨w5,w6,w7,XR,pB,rfl,yH,xw,mH,aF,kW,yA,jQ,oJ,UI⟩;have⟨r,er⟩:=JIW q.2.2.2.1 t2;have⟨a,t,ha,cs,rfl,g1,g2,g3,g4⟩:=(A6 t2 j v r hj er).keep (iY.trans oJ);have gL:=ES! er;(have KP:JF5=nw!++[r]:=cr! er);(have iW:W!∉ci XR.map:=by rw[aF.keys];intro z;have e9:q.2.2.2.1=JF5++q.2.2.2.1.drop (j+1):=(GZ _ _).symm;rw[e9,KP,<-BH,<-BH,<-BH,BH (ei!++nw!++[r])] at nd;(have YH:AT! (ei!++nw!++[r]).map:=by rw[ZF] at nd;show cB! nd);rw[ZF] at YH;show nf! W! z W! KB A!);(have lh:XR.length<=60:=by show AP? aF.keys;rw[ZA,ZA,ZE,CM] at this;lia);have lf:=BC (λr:T2×Int×List T2=>xZ! H7!) (q.2.2.2.1.take j);rw[CM] at lf;have la7:=AD! jQ;rw[ZE,ZE,ZA] at la7;show⟨a,_,A!,g1,A!,_,_,KY?⟩;show⟨F?,I9? hd W! mH g2 (Za! Et lh)⟩;rw[Lz (CK! ha) (λq hq z=>NK! iW Z8!)];rw[show(XR.map Nv!)++[(tk W!,AA! ha)]=(QG!).map Nv! by rw[ZF];rfl];(have YQ:DH H7 (F8! H7 hd Fc bL!):=FN! mH);(have gP:∀b ob,Ni! H7->b≠hd->Ni! (F8! H7 hd Fc bL!):=Mf! nC!);have yE:HT! (F8! H7 hd Fc bL!) hd Fc bL!:=Ab;show JA? QG! Nv! Fc QG!;generalize EQ! H7 hd Fc bL!=H8 at YQ gP yE;(have qe:S_ H8 (QG!):=λq' YV=>by rcases ZI YV with YV|YV;(.show(kW.keep YQ) q' YV);.rw[ZK YV];show⟨cs,YQ.sq g3,LO! YQ g4⟩);(have qh:SE (QG!) (ei!++JF5):=by rw[KP,<-BH];show aF.snoc r ha);have tT:=FS gP xw nwh;have tV:=Lb! gP yA wX;have i5:=Lb! gP yH wZ;have g28:=L! YQ.BE g2;have nV:=LO! YQ jQ;show⟨t?,A!,ws,A!,Ua! tT,_,A!,_,GJ.t (k:=tk W!) tT g28,?_⟩;rw[Jhi];show⟨A!,_,A!,?_⟩;show Io (λc=>?_) (λc=>?_);(·(have c:¬CD!=Hh H7! W!:=λz=>by rw[z] at c;simp at c);show⟨AT? (IP! tV),A!,sl,_,_,A!,A!,tV,ee! Et,?_⟩;(have si:DH H8 (ip! H8 sl (JP! pB.map) (AA! t)):=FN! tV);show⟨_,_,_,QG!,pB++[t],A!,Q1! bJ i5,Op sR tT,Op wX yE,qh,qe.keep si,JLZ,?_,UT! oJ.trans YQ si,Mf! (vz! sU (FS gP (UI _ _ e n) (Ak e sV)))⟩;rw[KP,LV,ZF,<-BH];(have mI:([r].filter JI5)=[r]:=by simp[c]);rw[mI];show Jl (KZ! si nV) (NE si.BE g28));·(have c:CD!=Hh H7! W!:=k7!);show⟨_,_,_,QG!,pB,A!,i5,tT,yE,qh,qe,tV,?_,oJ.trans YQ,Mf! (FS gP (UI _ _ e n) (Ak e sV))⟩;rw[KP,LV];(have mI:([r].filter JI5)=[]:=by simp[c]);rw[mI,AM];show nV);.rintro σ H7 ⟨w5,w6,w7,XR,pB,rfl,yH,xw,mH,aF,kW,yA,jQ,oJ,UI⟩;rw[AD! t2,BY] at aF jQ;show⟨Aj?,_,XR,pB,A!,yH,xw,mH,?_,kW,yA,?_,UT! lW.trans iY oJ,UI⟩;(.rw[sC eq];unfold rowsOf at aF ⊢;simp only[DG,DI,KY,AM];show aF);.rw[sC eq];unfold C4 at jQ ⊢;simp only[DG,DI,KY,AM];rw[BH] at jQ;show jQ
 .rintro σ H5 ⟨u4,u5,u6,u7,hl,as,rfl,ef,ew5,yG,eW,xQ,oy,dw,lW,YX⟩;rw[ZA,BY] at eW dw;show S? (z! H5 d Zf!) ⟨d,o,_,ef,gO! ?_,A!⟩;(.have z:JEE v:=z;rw[I4!] at z;cases z);(have s6:EP! W9!:=Sj! (by by_cases hb:b=d;(.rw[hb,Ab];rw[hb,I4!] at e;show e);.rw[Ad hb];show YX b ob e hb));(have sq6:∀{b:Addr} {xs:C!},DC K H5 b xs->DC K W9! b xs:=λ{b xs} z=>by rcases z with(z|⟨ob,z⟩)|z;(.show As? (JBm (Ad (λy=>by rw[y,ef] at z;cases z))));(.show DM? (xA! ob (Ad (λy=>by rw[y,ef] at z;cases z)) z));.show L? z);have YO:∀{as:Z!} {ts:G!},rH! H5->rH! W9!:=λ{as ts} z=>Ax (λb t e=>h8! (Ad (λy=>by rw[y,ef] at e;cases e))) z;(have qg:S_ W9! hl:=AN! (by have⟨cs,e,t⟩:=FT! xQ;show⟨cs,sq6 e,YO t⟩));have qF:=YO dw;(have ox:AT W9! sl GU!:=Op bJ oy);(have yF:HT! W9! hd Fc hl:=Op wZ yG);clear sq6 YO;generalize z! H5 d Zf!=H6 at s6 qg qF ox yF;have⟨n,R,zn,rc⟩:=Joz fi eW;have ls:=Jc H7! (IM L);have zr:=fi.rz;have zh:=fi.hz;(have lh:hl.length=(CP! (IM L)).length:=by show AP? eW.keys;show ES?;show this);show⟨_,A!,_,A!,sl,hd,as,_,hl,n,R,A!,ox,qF,X!,yF,lS! AA (lh▸zr),qg,BQ!,rc,zn,λx H7 hx s7 ex=>?_⟩;(·(have m:ot! (CP! (IM L)).map:=JB1 eW.keys q hq);(have e8:EM hl H!=BF!:=by unfold EM;rw[JJQ (KE eW.keys fi.nd) hq];rfl);have⟨r,MC,e⟩:=Gg!;rw[<-e,eW.get fi.nd MC] at e8;rw[<-e8];show BY? (fi.oz r MC));have mH:=L! s7 yF;have⟨so,pm,pw⟩:=JK0 FX.sorts (ci (CP! (IM L)).map) (KE MK fi.nd);(have pw:so.Pairwise LB:=by simpa using pw);(have dr:Rd H7 hd (wv ((HI! λq=>(H!,hV!)).map at!)):=by show Hh? (((HI! λq=>(H!,hV!)).map at!)=HI! Nv!);rw[e];show E? mH);show⟨F?,hd,_,so,A!,dr,CY! (lS! AF (lh▸zr)),?_,pw,λr2 XW OU XO=>?_⟩;(.rw[AX];change by! so.Perm HI!;rw[eW.keys];show pm);have s8:=Ro! MX! OU;have e8:LA! (Y9! H7 r2 MX!) r2 MX!:=Ab;have nV:=Ue! s8 XO;generalize Vm! H7 r2 MX!=H8 at s8 e8 nV;have ex8:=L! s8 ex;show D3? r2 e8 (λp2 JG=>?_);(have lso:so.length<=60:=JCj pm.length_eq zr);show Mi (b:=λt=>JE6) (be:=lb! 8) JG (Td! lso) e8 nV (λH9 a t Q' sm ha ht q=>?_) λH9 bs sm ea tb=>?_;(.show⟨J9? x (Gv (NE sm ex8) ha)⟩;show D? Dh!;(.rw[AE c];rw[show Ad! JE6 by simp[c]] at q;show q);.rw[AD c];rw[show AU! JE6 by simp[c]] at q;show q);.show IR? p2 ea (λtt htt=>?_);have s9:=qA! En! htt;show k tt bs _ _ (Ji! s6 s7 (Ji! s8 sm s9)) Ab (e2! s9 tb) ⟨pw.filter _,λt=>?_⟩;have li:=Jth fi.nd eW rc;rw[AG];show q?;(.show Bu?;have m:=Md! h1;show⟨m,λz=>by rw[(li t m).mpr z |> AR] at h2;simp at h2⟩);.show Bu?;show⟨hE! h1,by have:t∉R:=GN! h2 (li t h1).mp;simp[this]⟩
open E
open E K51F
open N FX
open PySem PySem.Spec PyProof.Rows L2
def Ut:∀{es:lD!} {vs:EN! (Key×Value)} {ns:At},Pairs Zq! es vs->Mn! Sb! CL! AV!->IntsAre (es.map PJ!) ns
 | _,_,ns,.nil,e=>by cases ns with | nil=>show R! | cons n ns=>cases e
 | _,_,ns,.cons (e:=d) (kv:=kv) h _ t,e=>by cases ns with | nil=>cases e | cons n ns =>have e:kv.1::_=aN!::Ug! AV!:=e;have⟨e1,e2⟩:=KY! e;have ih:=Ut t e2;rcases Cd! Cw k kv.1 v d.key h with⟨i,tk,e3,e4⟩|⟨x,tk,e3,e4⟩;(.rw[e1] at e3;have:n=i:=Sr! e3;rw[AI,e4,<-this];show SC n tk ih);.rw[e1] at e3;cases e3
def Jri{es:Fc!}{acc:BP!}(ha:ItemsOf (sF!) acc EC!):acc.toList=O4! PJ!:=by
 show En?;by_cases hj:gN!;·(have h1:j<acc.size:=U! ha.1 hj);have⟨e2,e3,e4⟩:=ha.2 j acc[j] (by simp[h1]);(have e5:es[j]?=D! es[j]:=by simp[hj]);rw[e5] at e3;cases e3;(have h2:acc.toList[j]?=D! acc[j]:=by simp[h1]);(have h3:es.toList[j]?=D! es[j]:=by simp[hj]);rw[h2,ZH,h3,e4];rfl
 .rw[ER (Dq! DY ha.1 qR!),ER (ck! DY qR!)]
open S
variable {X:Cx Kx}
inductive Nu(xs:C!)(H:Hp)(Q:VK):B!
 | mk (d:Addr) (kvs:Bz!) (ns:At) (_:nL!) (_:dT!) (_:Mn! Fu! CL! AV!) (_:ns.length<64) (_:∀(r:Addr)(ms:At),cE!->ms.Perm ns->ms.Pairwise (·<=·)->cO! r r (EO! ms.map wp))
def Pk(hc:BK!):oU! Nu:=by
 show F5?;have⟨d,kvs,ns,rfl,hd,ek,XS,q⟩:=h;have⟨u,rfl,rx⟩:=vals1 rv;show H?;have⟨z,lo,vs,rel,o,es,ep,g1,g2,g3,g4,g5,g6⟩:=JGv d4!;have ev:∀{a:Bz!} {b:EN! (Key×Value)},KV a b->EY! b.map a.map:=λ{a b} r=>by induction r with | nil=>rfl | cons h _ ih=>rw[AI,AI,ih,v6]
 have hI:IntsAre (O4! PJ!) ns:=Ut g5 (Bi! (ev rel) ek);have hl:es.size=ns.length:=UW! (IntsAre.length hI) ZA DY
 show JQ7 (by show F3?;show Kd? W.kdu_collect JRT JL9 JPd (P9! hl CV m8!) (λh1 tk acc kp ha=>?_);rw[Jri ha];show I3? { s with heap:=h1,toks:=tk };show JR? (by rw[ZA,DY,hl,CV];show m8!);have e1:AT (h1.push (MK! B4! (K2! O4! PJ!) 0)).get? HB! (MK! B4! (K2! O4! PJ!) 0):=Cu!;show KG? e1 (list_sort_tree e1 hI (by rw[ZA,DY,hl];show XS) λout ms a1 a2 a3=>cV!);show JC?;have⟨c,ec⟩:=sortedHeap_at (out:=out) e1;(have old:∀b ob,Ni! SG!->Ni! (sortedHeap (h1.push (MK! B4! (K2! O4! PJ!) 0)) HB! (O4! PJ!) out).get?:=λb ob hb=>by have IP:=AU hb;rw[sortedHeap_old (BN IP) (ac! size_push' Nat.lt_succ_of_lt IP)];show ZT _ hb);show JD? (iw! I1.laid HB! (.BK (ms.map wp)) tk old CC! ⟨?_,out.toList,c,Jar a1,by simpa using ec⟩) (q _ ms hn a2 a3);rw[ZA,a2.length_eq,CV];show m8!)
open E
open E FX
open N K51F
open PySem L2 FX K51
abbrev iN(os:Bh!):C!:=De! λk:Nat=>xz EX!
def Jyi(n:Nat):(rg n).map wp=iN x8!:=by unfold rg iN;rw[AX];rfl
def Jlt{L:RU!}{h:Int}(n:h∉ci BX!):Ce (BX! hs!) Jc!=none:=by
 unfold Ce;rw[P',Sl!];.rfl
 .intro q hq z;(have z:Zy! H!=S! h:=z8!);injection z with z;show NK! n Z8!
def q1:JCM Kd!:=ZV
def q2:JCM Iu!:=ZV
def q3:JCM Co!:=ZV
def q4:JF! Co! Kd!:=ZV
def q5:JF! Co! Iu!:=ZV
def q6:JF! Iu! Kd!:=ZV
abbrev Gu(m:Int)(sd fd cd:Addr):DP!:=nz! Kd! cd (Y4! Iu! fd Co! sd (TO! MV! m))
open S
def Jk2:HT! (Gu m sd fd cd).lookup (E7! MV!) V! m:=by unfold Gu;rw[Bj,AD q1,Bj,AD q2,Bj,AD q3,Bj,BG!]
def Jbw:JEs Co! sd:=by unfold Gu;rw[Bj,AD q4,Bj,AD q5,Bj,BG!]
def O8:JEs Iu! fd:=by unfold Gu;rw[Bj,AD q6,Bj,BG!]
def Qg:JEs Kd! cd:=by unfold Gu;rw[Bj,BG!]
def a7{x:Str}(h1:¬x=Kd!)(h2:¬x=Iu!)(h3:¬x=Co!)(h4:¬x=MV!):Ab! (Gu m sd fd cd).lookup x:=by unfold Gu;rw[Bj,AD h1,Bj,AD h2,Bj,AD h3,Bj,AD h4];rfl
open E
structure Iq where
 m:Ch
 sd:F!
 fd:F!
 cd:F!
 ss:Bz!
 fs:Bz!
 cs:Bz!
structure ID(H:Hp)(p:Addr)(I:Iq):B! where
 ob:∃dx,wZ! CI (Gu I.m E6! Dj! EK!)
 s:JBr E6! I.ss
 f:JBr Dj! I5!
 c:JBr EK! I.cs
 sf:I.sd≠I.fd
 sc:I.sd≠I.cd
 fc:I.fd≠I.cd
def ID.keep(x:W4!)(k:∀b,(b=p\/b=I.sd\/b=I.fd\/b=I.cd)->∀o,Hf!->IE!):e6! I :=⟨QS! (k p Ht! _ e),k _ JEY _ x.s,k _ (cf! A!) _ x.f,k _ (JCb A!) _ x.c,x.sf,x.sc,x.fc⟩
def ID.same(x:W4!)(s:XV):e6! I:=x.keep λb _ o e=>Jb! s
open S
inductive QI(vs:C!)(H:Hp)(Q:VK)(E:XK):B!
 | mk (p dx:Addr) (n:Int) (_:cy!) (_:wZ! CI []) (_:∀(H':Hp)(I:Iq),JHo->e6! I->I.m=n->I.ss=[]->I.fs=[]->I.cs=[]->A7! E6!->A7! Dj!->A7! EK!->Pi!)
def J0z:Al! Q5! Q5! Uc:={}
def WZ(F:cR! gz! Uc)(T:gm):GQ! Q5! QI:=by
 show G? J0z;have⟨p,dx,n,rfl,hp,k⟩:=h;show A?;show Cm? (hu! w!) RZ! (NF! RZ! RZ!);have l1:=Ba MV! l2! [];show⟨EI?,CI,dx,[],A!,hp,v!,T.nM,JT1,λd1 h1=>?_⟩;have iV:p≠d1:=Ak Ab h1;have l2:=λv=>Ba Co! v (TO! MV! n);show⟨a?,CI,dx,_,A!,oB! iV,v!,T.nS,(by show GJ?;show NI!),λd2 h2=>?_⟩;have lK:p≠d2:=Ak Ab h2;have l3:=λv u=>Ba Iu! u (Az Co! v (TO! MV! n));show⟨a?,CI,dx,_,A!,oB! lK,v!,T.nF,(by have:=QW! l2 d1;show GJ?;show NI!),λd3 h3=>?_⟩;have oC:p≠d3:=Ak Ab h3;show⟨GS? CI (oB! oC) v! T.nT (by have:=QW! l2 d1;have:=l3 (IN d1) (IN d2);show GJ?;show NI!)⟩;have g1:A7! d1:=by rw[RQ!] at h1;show h1
 have f9:d1≠d2:=λz=>by rw[<-z,RQ!,Ab] at h2;cases h2
 have g2:A7! d2:=by rw[c2!,ZA! f9,c2!] at h2;show h2
 have je:d2≠d3:=λz=>by rw[<-z,c2!,Ab] at h3;cases h3
 have jf:d1≠d3:=λz=>by rw[<-z,RQ!,Ad f9,RQ!,Ab] at h3;cases h3
 have g3:A7! d3:=by rw[mm!,ZA! je,mm!,ZA! jf,mm!] at h3;show h3
 show k _ ⟨n,d1,d2,d3,[],[],[]⟩ (YZ! ?_) ⟨Hr! Ab,?_,?_,?_,f9,jf,je⟩ A! A! A! A! g1 g2 g3;.have m1:=Ak e g1;have m2:=Ak e g2;have m3:=Ak e g3;rw[FR!,Ad m3,FR!,Ad m2,FR!,Ad m1,FR!];show e
 .rw[RQ!,Ad jf,RQ!,Ad f9,RQ!];show Ab
 .rw[c2!,Ad je,c2!];show Ab
 .rw[mm!];show Ab
inductive a9(vs:C!)(H:Hp)(Q:VK)(E:XK):B!
 | mk (p:Addr) (I:Iq) (h t:Int) (v:V) (_:vs=[DF!,DH!,T! t,v]) (_:W4!) (_:I.fs.length<=500) (_:I.ss.length<=500) (_:∀H',e6! { I with ss:=EA! I.ss Jc! v,fs:=EA! I5! Jc! (V! t) }->(JMh IE!)->Hg! (a2! bv (d9! (AF! (putK I.fs (.inl h) (.int t)).length) I.m)))
def wC:Al! ji! ji! Oi:={}
def dq(F:a! "first" "Inquiry.first" Oi)(T:gm)(hl:Vf!):GQ! ji! a9:=by
 show G? wC;have⟨p,I,h,t,v,rfl,S,zf,zs,k⟩:=h;show A?;show K?;show B?;show HU? EQ (WQ! AI! (JCY (ve! Qn hl WP) WP));have npf:p≠I.fd:=JL2 S.f
 have nps:p≠I.sd:=JL2 S.s
 show⟨KB? hp T.nF O8 Dj! S.f zf⟩;have IW:JME (PO! Dj! Af! aP!):=Op npf hp
 have s1:JNE E6! I.ss:=Op S.sf S.s
 have c1:JNE EK! I.cs:=Q1! S.fc S.c
 have f1:JNE Dj! aP!:=Ab;have k1:JMh (GA! (PO! Dj! Af! aP!)):=λb o e _ n=>nC!
 generalize Ti! Dj! Af! aP!=H1 at IW s1 c1 f1 k1;show⟨KB? IW T.nS Jbw E6! s1 zs⟩;have JG:JME (bA! E6! Af! jn!):=Op nps IW
 have s2:JPs E6! jn!:=Ab;have c2:JPs EK! I.cs:=Q1! S.sc c1
 have f2:JPs Dj! aP!:=Q1! S.sf f1
 have k2:JMh (GA! (bA! E6! Af! jn!)):=λb o e n1 n2=>Op n1 (k1 b o e n1 n2)
 generalize EQ! H1 E6! Af! jn!=H2 at JG s2 c2 f2 k2;show⟨EF? CI,_,_,A!,JG,v!,T.nF,O8,Dj!,J2? f2 p CI dx JG v! T.nM Jk2 (k H2 ⟨Hr! JG,s2,f2,c2,S.sf,S.sc,S.fc⟩ k2)⟩
inductive YD(vs:C!)(H:Hp)(Q:VK)(E:XK):B!
 | mk (p:Addr) (I:Iq) (h t:Int) (_:UF! DH! t) (_:W4!) (_:I.cs.length<=500) (_:∀H',e6! { I with cs:=EA! I.cs Jc! (V! t) }->(WN! (b≠I.cd))->Hg! (a2! bv (d9! (AF! (putK I.cs (.inl h) (.int t)).length) I.m)))
def lG:Al! jU! jU! Kt:={}
def bZ(F:a! "second" "Inquiry.second" Kt)(T:gm)(hl:Vf!):GQ! jU! YD:=by
 show G? lG;have⟨p,I,h,t,rfl,S,zc,k⟩:=h;show A?;show K?;show B?;show HU? EQ (JCY (ve! Qn hl WP) WP);have npc:p≠I.cd:=JL2 S.c
 show⟨KB? hp T.nT Qg EK! S.c zc⟩;have IW:JME (PO! EK! Af! i6!):=Op npc hp
 have s1:JNF E6! I.ss:=Op S.sc S.s
 have c1:JNF EK! i6!:=Ab;have f1:JNF Dj! I5!:=Op S.fc S.f
 have k1:ha! Hf! (b≠I.cd) (PO! EK! Af! i6!):=λb o e n=>nC!
 generalize Ti! EK! Af! i6!=H1 at IW s1 c1 f1 k1;show⟨EF? CI,_,_,A!,IW,v!,T.nT,Qg,EK!,J2? c1 p CI dx IW v! T.nM Jk2 (k H1 ⟨Hr! IW,s1,f1,c1,S.sf,S.sc,S.fc⟩ k1)⟩
structure Full(I:Iq)(n:Nat)(f c:IG!)(a:RF!):B! where
 ks:∃os:Bh!,JF6 os.Perm/\Mn! I.fs.map De! (λk:Nat=>Zy! EX!)
 fs:JOd I5! V! f
 cs:JOd I.cs V! c
 ss:JOd I.ss Ep! a
abbrev Dc(n:Nat)(f c:IG!):Bh!:=(List.range n).filter JQ5
def Jly:∀{ms:At} {n:Nat},ms.Perm (rg n)->ms.Pairwise (·<=·)->ms=rg n:=λ{ms n} pm pw=>by (have pr:(rg n).Pairwise (·<=·):=by unfold rg;rw[EW];show r1! (MC! (A_ h)));show pm.eq_of_pairwise (λa b _ _ h1 h2=>vD! h1 h2) pw pr
inductive WU(vs:C!)(H:Hp)(Q:VK)(E:XK):B!
 | mk (p:Addr) (I:Iq) (n:Nat) (f c:IG!) (a:RF!) (_:Ju!) (_:W4!) (_:n<=60) (_:Full I n f c a) (_:JOb XV (ec! iN wi!))
def J0m:dr! Oh:={}
abbrev Jxw:TT:=Ki (UG iS (fb! Iu!) (fb! Kd!))
def dm(F:a! "still" "Inquiry.still" Oh)(T:gm)(hso:mf!):Vt! WU:=by
 show G? J0m;have⟨p,I,n,f,c,a,rfl,S,hz,fu,k⟩:=h;show A?;show K?;show B?;show r? (Cs (tt:=Jxw) (te:=Ef!) (be:=OG!) A! (Df (A7 (Pk A!) Dk! hso F_ (CR! WP))) A! ZV A! ZV A! P6! dY! QA! ZV (JIZ fE! fE!) ai!);have⟨os,pm,ek⟩:=fu.ks;have lo:os.length=n:=jp pm.length_eq DT
 show⟨a?,CI,dx,_,_,A!,hp,v!,T.nF,O8,Dj!,I5!,De! (zs!),A!,S.f,JCw ek,CY! (lS! AF (lo▸hz)),λr ms MC wM pw=>?_⟩;have em:ms=rg n:=Jly (wM.trans (pm.map _)) pw;subst em;rw[Jyi];show Dj? iN x8! MC;have e1:lt! (PT! r x7!) x7!:=Ab;show GZ? r .BK x7!;show D3? r e1 Jl!;show Kk? Es r xs (JF6 iN) tt Jxw te Ef! OG! (λi ys H'=>Y1! H' l/\BZ H1 H'/\ys=iN (Dc i f c)) (CB! Ab (Ai hl)) (λi ys H' _ z=>lI! z.2.1 e1 z.1);.rintro i v ys H2 N hi ⟨el,s2,rfl⟩ hN;have VF:=ES! hi;(have li:(iN (List.range n)).length=n:=by unfold iN;rw[ZA,DT]);rw[li] at VF;(have hi:xz sB=v:=by unfold iN at hi;rw[ZH,List.getElem?_range VF] at hi;show ZO hi);subst hi;have d9:=Ah s1 s2;have S2:=GS! d9;show BD?;(have gf:JM7 H2 Dj! sB (V! (f i)):=nu! sB S2.f (fu.fs i VF));(have gc:JM7 H2 EK! sB (V! (c i)):=nu! sB S2.c (fu.cs i VF));(have BK:(Dc i f c).length<=i:=nv! (BC (JQ5) (At! i)));(have st1:Dc (Aj!) f c=Dc i f c++H4! (f i=c i) [i] []:=by unfold Dc;rw[GW,LV];congr 1;by_cases z:f i=c i;(.rw[AE z];simp[z]);.rw[AD z];simp[z]);show⟨a?,CI,ME,_,_,A!,JG,v!,T.nF,O8,_,A!,Dj!,_,A!,gf,_,A!,p,CI,ME,_,_,A!,JG,v!,T.nT,Qg,_,A!,EK!,_,A!,gc,A!,_,A!,?_⟩;show Io (GY!) VT!;(·(have z:f i=c i:=by have:=BV z;injection this);show⟨_,A!,el,Et (by unfold iN;rw[ZA];lia),xR! Ab (JR7 hl (Jb! s2))⟩;rw[st1,AE z];unfold iN;rw[ZF];rfl);.have z:¬f i=c i:=λy=>JDq z y;show xR! el s2;rw[st1,AD z,AM]
 .rintro ys H2 ⟨el,s2,rfl⟩;(have li:(iN (List.range n)).length=n:=by unfold iN;rw[ZA,DT]);rw[li] at el;show k l H2 (C3 s1 hl) JH4 el
abbrev OC(n:Nat)(f c:IG!)(a:RF!)(S:Lg!):RU!:=(Dc n f c).map λk:Nat=>JOZ S
inductive UX(vs:C!)(H:Hp)(Q:VK)(E:XK):B!
 | mk (p:Addr) (I:Iq) (n:Nat) (f c:IG!) (a:RF!) (S:Lg!) (_:Ju!) (_:W4!) (_:n<=60) (_:Full I n f c a) (_:(∀k<n,JQa)) (_:aL (IM (OC n f c a S))) (_:∀(x:Addr)(as:Z!)(ts:G!)(H':Hp),XV->FA! H' UX!->Wb!->PG! (IM (OC n f c a S)) ts->M0!)
def dN:Z5! [B7!,Co!,"h"] Ku:={}
def Jrs{a:RF!}{S:Lg!}{ks:Bh!}{k:Nat}(h:k∉ks):Ce ((KM! λk:Nat=>JOZ S).map hs!) (Am! EX!)=none:=by show Jlt Qn!;rw[AX] at m;have⟨j,hj,e⟩:=Gg!;have e:Cx!=EX!:=e;show LF! h (show k=j by show TA! Bn!) hj
def Jn1(n:Nat)(f c:IG!):(Dc n f c).Nodup:=List.nodup_range.filter _
def bc{f fS fU:Addr}{fd dS dU:FuncData}(F:a! "result" "Inquiry.result" Ku)(T:gm)(MS:JPn fS dS)(GS:mH! fS dS WU)(MU:mz! YQ! Gg fU dU)(GU:EL 2 fU dU bY! (PK)):jl! DG! UX:=by
 show G? dN;have⟨p,I,n,f,c,a,Sf,rfl,S,hz,fu,st,fi,k⟩:=h;show A?;show K?;show Q?;show Aa?;show B?;show Hk? dN.nd F0 (Df (xs! Rs v! MS.mt GS HJ MS.bd)) dN.nd (Ag (Cm hu w! EQ JFC A!)) (Hb! (hc! GU OU MU.mg MU.fn.kp MU.bd La!));intro d hd;have s1:=m4! hd;have e1:vn! d Af! [] d Af! []:=Ab;show GZ? d Af! [];show AY?;show Z?;show⟨F?,p,HQ,_,A!,IW,a7 ZV ZV ZV ZV,p,I,n,f,c,a,A!,S1,hz,fu,λl H2 hl s2 el=>?_⟩;show D3? l el ?_;have lO:d≠l:=λz=>by rw[z] at e1;rw[e1] at hl;cases hl
 have ls:Ak! iN wi!=(Dc n f c).length:=by unfold iN;rw[ZA]
 have lz:(Dc n f c).length<=n:=nv! (BC (JQ5) x8!)
 show Vs (K:=K) (a:=l) (xs:=iN (Dc n f c)) (λj σ H'=>∃u2,σ=[Eg!,cP!,u2]/\XV/\ec! iN wi!/\Pl! d Af! (((Dc n f c).take j).map (λk:Nat=>JOZ Sf) |>.map hs!)) ⟨_,A!,Ah s1 s2,el,U8! e1⟩ (vK! (by have⟨_,_,_,z,_⟩:=h9;show Cq! z)) ?_ ?_;.rintro j v σ H3 hj ⟨u2,rfl,s3,YZ,i6⟩;have gL:=ES! hj;rw[ls] at gL;have⟨kk,tY⟩:=A4 (xs:=Dc n f c) gL;(have hj:xz lM!=v:=by unfold iN at hj;rw[ZH,tY] at hj;show ZO hj);subst hj;have mk:=ZP tY;have hk:kk<n:=jy! Ck! mk;have S3:=GS! s3;show Bq?;(have gs:JM7 H3 E6! lM! (Ep! (a kk)):=nu! lM! S3.s (fu.ss kk hk));(have iW:kk∉(Dc n f c).take j:=λz=>by have⟨i,hi,e⟩:=List.mem_iff_getElem.mp z;rw[CM] at hi;rw[List.getElem_take] at e;have e3:=(ZJ tY).2;have:=(NZ (Jn1 n f c)).mp (e.trans e3.symm);lia);show⟨F?,p,CI,T_,_,_,A!,TC,v!,T.nS,Jbw,_,A!,E6!,_,A!,gs,_,A!,_,A!,d,_,A!,JH.k (k:=GE lM!) i6 (Et (by show Be?;lia)),?_⟩;rw[Ib _ (Jrs iW)];show⟨_,A!,JGQ hd,Q1! lO YZ,?_⟩;rw[Ab,CY,tY];simp only[Option.toList_some,ZF,AI,GN]
 .rintro σ H3 ⟨u2,rfl,s3,YZ,i6⟩;rw[ls,BY] at i6;show⟨R? d,OC n f c a Sf,A!,⟨i6,BQ!⟩,fi,λx as ts H4 s4 ex th fo=>k x as ts H4 (Ah s3 s4) ex th fo⟩;have⟨j,hj,rfl⟩:=ZN hq;show FO! (st j (Ck! (Tc! hj))).keep s3
open E
open E K51F
open N K51
open PySem L2 FX
def Nk:∀{R U:G!},R.Nodup->(∀t∈R,t∈U)->R.length<=U.length
 | [],U,_,_=>Bu!
 | a::R,U,nd,h=>by show AM?;have ha:=Go! a;have ih:=Nk (R:=R) (U:=U.erase a) PM.2 (Ay! ((List.mem_erase_of_ne (λz=>ZY! PM.1 ht)).mpr (h t (AH! ht))));rw[List.length_erase_of_mem ha] at ih;have:=List.length_pos_of_mem ha;simp only[BJ];lia
abbrev yp(p:Addr)(W:ET)(io:Addr)(I:K51F.Iq):B!:=JKR Ga!
structure mR(H:Hp)(c b:Int)(ts:G!)(L:j!)(m:Nat):B! where
 BQ:JOr m
 OW:Hz! (λ(y:Int×Addr)(i:Nat)=>WO H y.2 AK! b sB (O5! ma!)) L At! m
def mR.len(x:mR H c b ts L m):vI!:=nv! (AD! x.OW)
open S
inductive Ps(vs:C!)(H:Hp)(Q:VK)(E:XK):B!
 | mk (p:Addr) (b n:Int) (W:ET) (io:Addr) (I:K51F.Iq) (m:Nat) (f c:IG!) (a:RF!) (S:Lg!) (_:vs=[DF!,T! b,Hv!]) (_:Aq!) (_:JP2 n io) (_:JMv) (_:m<=60) (_:K51F.Full I m f c a) (_:(∀k<m,JQa)) (_:JJB rx!) (_:br!) (_:Jn!) (_:zw!) (_:(∀e∈W.JC,e.1≠n)) (_:∀(x xf:Addr)(as:Z!)(ts:G!)(L:j!)(H':Hp),PG! (K51F.IM rx!) ts->Hx! (zx! ZP! MZ!)->JJ4 b gj!->JMC->Wb!->JF9 xb! PF! a3!)
def YB:Al! [B7!,g0!,"n","found","went","h","there"] jf! Ko:={}
abbrev Jz9:TT:=Ki (UG iS pn! (Bt 1))
def Jir(F:a! "let_all" "World.let_all" Ko)(T:Txt)(TW:Ga)(TP:Pn)(TI:gm)(M1:JPo f1 d1)(G1:EL 3 f1 d1 DG! (K51F.UX))(M3:W8!):EL 4 f fd jf! (Ps):=by
 show Cp?;show G? YB;have⟨p,b,n,W,io,I,m,f,c,a,Sf,rfl,S,vi,SI,zm,fu,st,fi,z1,z2,z3,nf,k⟩:=h;show A?;show K?;show Q?;show B?;have⟨i8,jm⟩:=SI.ob;show Ac? (JCB YB.nd (Cz (pl:=_) JFC TI.cl E3! G1 hr EI! R! A9)) (JFD AI! (JCf YB.nd Lr! (Ac (Ey S4! A! (JIP JAK) (By (i:=5) YB.nd A! JBk) (mO! YB.nd (en! (Cs (tt:=Jz9) (te:=Ef!) (be:=[("h",5)]) A! (Fk (pv 3)) A! ZV A! ZV A! P6! dY! QA! ZV (JIZ DR! w!) ai!)) (sj! BO! (JPm WP Iz! (vs! w! K3! Jp!))))) (JDe 4))));have gi:GJ H CO! l2! (JI! io):=nu! n S.iq vi
 show⟨EF? CW,_,_,A!,hp,wE,TW.nI,Sy W,_,A!,CO!,_,A!,gi,io,i8,_,A!,jm,JKV,io,I,m,f,c,a,Sf,A!,SI,zm,fu,st,fi,λxf as ts H1 s1 YY th fo=>?_⟩;have W1:=GS! s1;have⟨HQ,IW⟩:=W1.ob;show⟨Au?,I4? HQ IW TW.nF (Jno W) HE! (JH.k (k:=aN!) W1.fi (KE O1 (C5 (by show BY? z3))))⟩;rw[zy nf];have⟨W2,RR⟩:=Qaa W1 (l:=Qd!);have lX:=MY! W1 RR;show Iq? (JEg HE! Qd!) (LH! RR (Q3! eb));have kZ:=L! lX.BE YY;have XO:=LO! lX th;generalize z! H1 HE! (iM! Qd!)=H2 at W2 lX cF kZ XO;show⟨wP,ks!⟩;show BQ? MC;have e3:lt! (PQ! H2 r []) []:=Ab;show Ek?;generalize ef! r=H3 at s3 e3 W3;have qL:∀W':ET,Ns!=GK!->r∉Ns!:=λW' e m=>by rw[e] at m;show W2.RF MC m
 have⟨T_,TC⟩:=W3.ob;show JO?
 show⟨Du?,T_,_,_,A!,TC,wE,HO!,Ds _,CN!,_,A!,P2! W3.hs,xB!,(by rw[<-e0]),R2!,by show e7! z1,?_⟩;rw[CZ];have aY:as.length=ts.length:=AD! XO;have JA2:ts.length<=60:=by have nd:ts.Nodup:=List.Pairwise.imp (λ{a b} (h:LB a b) (z:a=b)=>JLx) fo.pw;have:=Nk nd (Ay! ((fo.mem t).mp ht).1);show BP?;show AA this fi.rz
 show Mh (lo:=0) (n:=gj!) (λi σ H'=>NM λ(u5:Option V)(u6:Option V)(L:List (Int×Addr))=>σ=[Eg!,Du! b,Du! n,A1! xf,JCG,u5,u6]/\GL! r ig!/\Hx! (zx! (hZ! i) MZ!)/\JJ4 b i/\DH H3 H'/\M5!) ⟨_,_,[],A!,e3,by (have e:(zx! d3! (W.ls++[]):ET)={ W with JC:=Qd! }:=sK);rw[e];show W3,JB2,DH.refl _,PI! (Ge! JMS)⟩ ?_ ?_;.rintro i σ H4 hi ⟨u5,u6,L,rfl,er,W4,l4,k4,VH⟩;rw[show JMe by lia];have qv:=FF! k4.BE s3 kZ;have th4:=LO! k4 (e2! s3 XO);show⟨_,A!,xf,A!,lk! qv,BQ!⟩;show Jhl (K:=K) (b:=ma!) (be:=[("h",5)]) hq (by show BY? JA2) (ED! qv) th4 (λH5 a5 t5 Q' sm ha ht qq=>?_) λH5 bs sm ep tb=>?_;(.show⟨R? a5,_,0,xz t5.1,A!,GR? A! (Ac! ha) _⟩;rw[show Fd! (iu! t5.1 sB) (Zk! t5.1) by by_cases z:Zk! t5.1;(.rw[z];simp);.rw[AL z,AL λy=>z (by injection y)]];show qq);show IR? q ep (λx6 hx6=>?_);have s6:=qA! En! hx6;have e6:AT (z! H5 x6 JDv) x6 JDv:=Ab;have tb6:=Ue! s6 tb;have bE:=Ah sm s6;generalize z! H5 x6 JDv=H6 at s6 e6 tb6 bE;have W6:=W4.same bE;have⟨YJ,bw⟩:=W6.ob;have⟨jw,hq7⟩:=W6.po.ob;have er6:=L! bE er;show⟨R? (IP! er6),CE? CW YJ,y? bw wE I0! (D7 _) Bp! jw hq7 Jk! _ A! _ _ A!⟩;show J8? W6.po l4.len (λt7 H7 ht7 xy S7 UI=>?_);have⟨W7,lE⟩:=W6.LZ S7 UI;have bK:=MY! W6 lE;have er7:AT H7 r ig!:=FS lE er6 (qL _ A!);show⟨r,_,_,A!,A!,er7,C5 (ck! l4.len (ZI! (AA hi z1))),?_⟩;show Kw? H7 (ip! H7 r qv! JCz) er7;have kk:=UT! (JX bE).trans bK kq;show⟨_,_,L++[(v6!,t7)],A!,JLZ,?_,JC5,k4.trans kk,?_⟩;show Kb? W7.keep (qL _ A! (ln! hb));(.rw[ZF,l4.BQ,GW,ZF];congr 1;show It?;congr 1;show JGW);(.rw[GW];show Ep ⟨x6,bs,L! kq.BE xy,FF! kq.BE bK.BE e6,KZ! kq (KZ! bK tb6)⟩ (Ax (λ_ _ rr=>rr.keep kk) l4.OW));.intro b' o' e' LI;have oY:b'≠r:=Ak (cF b' o' e' LI) MC;rw[Ad oY];show lE b' o' (NE bE (Uf! VH)) LI
 .rintro σ H4 ⟨u5,u6,L,rfl,er,W4,l4,k4,VH⟩;show P? (k r xf as ts L H4 fo W4 l4 (GT! k4.BE s3 kZ) (KZ! k4 (KZ! (JX s3) XO)) VH er (λz=>by have:=W2.hs;rw[Ih! (({ W with JC:=Qd! }:ET).hs=W.hs),<-z,MC] at this;cases this) (PI! (Ak (LH! cF eb) MC)))
open E
abbrev XY(p:Addr)(W:ET)(I:K51F.Iq)(H H':Hp):B!:=Ce! (Hf!->Ga!->b≠I.sd->b≠I.fd->b≠I.cd->IE!)
open S
def XY.FQ(x:Aq!)(y:JMv)(f:XY p W I H H'):BB!:=by
 have ne:∀{b:Addr} {o:HO} {d:Addr} {kvs:Bz!},Hf!->(∀kvs,o≠Af! Db)->dT!->b≠d:=λ{b o d kvs} e n ed z=>by rw[z,ed] at e;injection e with e;show n _ Bn!
 show⟨Xw! (f a _ e (x.df e) (XD! y.s) (XD! y.f) (XD! y.c)),λa ob u e=>f a _ e (λm=>by have⟨o,e',_,h⟩:=m1!;show g?;cases e';show L! h A!) (XD! y.s) (XD! y.f) (XD! y.c)⟩
def AW.off(x:Aq!)(f:WN! kA!):vb! H':=x.keep λb o m e=>FI! f m
def Jk6(nd:Np! pv!):jc! (pv!) (Am! k)=D! lK!/\Dx (HD! (pv!)) (Am! k)=HD! (EL!):=⟨GH! O0 (Jhk nd),Jho nd⟩
open E
open S
inductive Tp(vs:C!)(H:Hp)(Q:VK)(E:XK):B!
 | mk (p t:Addr) (W:ET) (k s g n u:Int) (e1 e2:j!) (e xs:Addr) (tick:Int) (io:Addr) (I:K51F.Iq) (_:Jv!) (_:Aq!) (_:JNV F5!) (_:W.GQ=pv!) (_:AT! W.GQ.map) (_:Ml! e (JI2 Cp!)) (_:JP2 n io) (_:JMv) (_:JQq) (_:I.fs.length<=500) (_:I.ss.length<=500) (_:I.cs.length<=500) (_:br!) (_:Jn!) (_:((u=1/\(jB! I5!≠I.m->S2! (JM0 (Hx! bs!) { I with ss:=w2! I.ss,fs:=JRq I5! } (ds! [])))/\(kw! I5!->∀(x:Addr)(L:j!)(H':Hp),Hx! { W with GQ:=EL!,c:=ZP!,ls:=MZ! }->JNi g n 2->PK! H' io { I with ss:=w2! I.ss,fs:=JRq I5! }->XY p W I H H'->xb!->M0!))\/(u≠1/\(jB! I.cs≠I.m->S2! (JM0 (Hx! bs!) JLL (ds! [])))/\(kw! I.cs->kC λ(m:Nat)(f:Nat->Int)(c:Nat->Int)(a:Nat->Addr)(S:Nat->HS)=>m<=60/\K51F.Full JLL m f c a/\(∀k<m,JQa)/\JJB rx!/\zw!/\(∀e∈W.JC,e.1≠n)/\∀(x xf:Addr)(as:Z!)(ts:G!)(L:j!)(H':Hp),PG! (K51F.IM rx!) ts->Hx! { W with GQ:=EL!,c:=ZP!,ls:=MZ!,JC:=Qd! }->JJ4 g gj!->JMC->JM0 Wb! JLL xb!))))
def UU:cL! [B7!,E1!,"sender",g0!,"n",O1!,"last"] Ew:={}
def Jsv(F:a! "answer_came" "World.answer_came" Ew)(T:Txt)(TW:Ga)(TI:gm)(M1:JQj f1 d1)(M2:JQk f2 d2)(M3:sw! f3 d3)(G3:EL 2 f3 d3 QQ! (Ho))(M4:JQY f4 d4)(G4:EL 4 f4 d4 jf! (Ps)) : EL 5 f fd Hh! (Tp):=by
 have G1:Do! f1 d1 ji! K51F.a9:=K51F.dq M1.fn TI T.len;have G2:Do! f2 d2 jU! K51F.YD:=K51F.bZ M2.fn TI T.len;show fW! UU;.have⟨p,t,W,k,s,g,n,u,e1,e2,e,xs,tick,io,I,rfl,_⟩:=h;rfl
 .have⟨p,t,W,k,s,g,n,u,e1,e2,e,xs,tick,io,I,rfl,S,⟨a,et,ea⟩,ee,nde,he,vi,SI,off,zf,zs,zc,z1,z2,kk⟩:=h;show K?;show Q?;show Aa?;show B?;show CR? UU.nd (Nr! UU.nd GF! (JEN 4 UU.nd VI! 5 UU.nd (Jf6 WP GF! Hm!) (Bc (Qa! VI!) (mO! UU.nd (xP! (JR2 BO!) TI.cl E3! G1 EI! (TQ! EQ JB8 JB8)) (Hb! (Ur (F1 (pv 6)) (vc! Rs wE Iw! G3 OU Ix! (JCl BO! Af)) Lr!))) A5) (mO! UU.nd (xP! (JR2 BO!) TI.cl Ke! G2 HM! (xF! JB8)) (Hb! (Ur (F1 (pv 6)) (JFB M4.mt G4 M4.bd nb!) Lr!)))));have qQ:=nde;rw[ee] at qQ;have⟨ev,ed⟩:=Jk6 qQ;show⟨F?,t,_,2,xz s,A!,A!,QX!,A!,?_⟩;show Jo?;show⟨F?,t,_,4,T6!,A!,A!,QX!,A!,a,_,0,xz n,A!,A!,Ac! ea,A!,?_⟩;have yB:=S.en;rw[ee] at yB;show⟨a?,CW,dx,_,_,A!,hp,wE,TW.nE,Jnp W,Fz!,A!,GE (Bq! (GE yB)),_,A!,t,_,0,xz k,A!,A!,QX!,A!,_,AV! k,_,yB,A!,ev,?_⟩;rw[ed];have⟨W1,JF⟩:=Qa6 S (l:=EL!);show A1?;have uA:PK! (Km! Fz! (iM! EL!)) io I:=SI.keep (JUN JF);generalize z! H Fz! (iM! EL!)=H1 at W1 JF RS uA;have x_:=UN! et;have ea1:=UN! ea;have xW:=UN! he;have⟨HQ,IW⟩:=W1.ob;have⟨i8,jm⟩:=uA.ob;(have gi:GJ H1 CO! l2! (JI! io):=UW! (GJ.k (k:=GE n) W1.iq) (Ih! ((bs!:ET).OJ=W.OJ)) vi);show⟨AK? t 4,T6!,A!,A!,Ac! x_,A!,a,_,1,xz u,A!,A!,Ac! ea1,A!,A!,_,A!,?_⟩;have JAm:=off E6! JEY;have JAn:=off Dj! (d! JEY);have JAo:=off EK! (d! (d! (d! A!)));rcases kk with⟨u1,k1,k2⟩|⟨u1,k1,k2⟩;(.subst u1;show l?;show⟨F?,p,CW,HQ,_,BI? IW wE TW.nI (Sy _) _,CO!,_,A!,gi,io,i8,_,A!,jm,JKV,_,A!,_,A!,e,_,y? 0 (xz Cp!) A! A! (Ac! xW) A! e _ 1 (AA! xs) A! (Ac! xW) A!⟩;show⟨io,I,s,Cp!,h! xs,A!,uA,zf,zs,λH2 mP QU=>?_⟩;show Do? bs! (AW.off W1 (PI! (QU b o eb (λz=>Rh! JAm) (λz=>Rh! JAn))));have mF:XY p W I H H2:=TE! (QU b o nk! n1 n2);show BE?;show EG?;show D? (kw! I5!);(.rw[JGY c];show l?;show⟨EE? ME,A!,JG,av!,_,A!,_,A!,p,g,n,2,_,A!,W2,z1,z2,λx L H3 W3 l3 aS ex _ _=>?_⟩;show k2 c x L H3 W3 l3 (mP.keep JIs) (TE! (LH! aS tE!)) ex);.rw[JMG c];show Bn ⟨wP,H9!⟩;show BQ? hx;show k1 c x _ JG4 (mP.same s3) (TE! (Ge! tE!)) Ab);.rw[JMG u1];show k?;show⟨Du?,HQ,_,_,A!,IW,wE,TW.nI,Sy _,_,A!,CO!,_,A!,gi,io,i8,y? _ A! jm JKV _ A! e _ 0 (xz Cp!) A! (Ac! xW) A!⟩;show⟨io,I,s,Cp!,A!,uA,zc,λH2 mP QU=>?_⟩;show Do? bs! (AW.off W1 (PI! (QU b o eb (λz=>Rh! JAo))));have mF:XY p W I H H2:=TE! (QU b o nk! n3);show BE?;show EG?;show D? (kw! I.cs);(.rw[JGY c];show l?;have⟨m,f,cf,af,Sf,zm,fu,st,fi,z3,nf,k3⟩:=k2 c;have kt:=XY.FQ S SI mF;show⟨a?,ME,_,A!,JG,av!,_,A!,_,A!,p,g,n,_,io,_,m,f,cf,af,Sf,A!,W2,vi,mP,zm,fu,λj hj=>(st j hj).keep kt,fi,z1,z2,z3,nf,λx xf as ts L H3 fo W3 l3 YY th aS ex _ _=>?_⟩;show k3 x xf as ts L H3 fo W3 l3 YY th (mP.keep JIs) (TE! (LH! aS tE!)) ex);.rw[JMG c];show Bn ⟨wP,H9!⟩;show BQ? hx;show k1 c x _ JG4 (mP.same s3) (TE! (Ge! tE!)) Ab
inductive vD(vs:C!)(H:Hp)(Q:VK)(E:XK):B!
 | mk (p:Addr) (h:Int) (W:ET) (q:Addr) (G:CN) (_:Vi!) (_:Aq!) (_:CX!) (_:br!) (_:Jn!) (_:W.OJ.length<=400) (_:(∀l∈W.OJ,AY!≠Z7!)) (_:∀(io:Addr)(I:K51F.Iq)(L:j!)(H':Hp),Hx! (JLM eW!)->JNi h (Z7!) 1->PK! H' io I->JQq->(JKR An!)->I.m=xB!->I.ss=[]->I.fs=[]->I.cs=[]->M5!->jT! (Z7!))
def aM:Al! [B7!,"h","n"] GD! uc:={}
def Jsu(F:a! AM! u2! uc)(T:Txt)(TW:Ga)(TI:gm)(MH:L0!)(pJ:Mk K CI fI)(FI:Nk! gz! Uc fI dI)(bI:P0! dI Q5!)(M1:sw! f1 d1)(G1:rE! QQ! Ho):Vx! GD! vD:=by
 show CF?;have GI:Bs! 1 fI dI Q5! K51F.QI:=MW! (K51F.WZ FI TI);have G1':JMw QQ! Ho:=NW! G1;show b? aM;have⟨p,h,W,q,G,rfl,S,i,z1,z2,z3,h1,k⟩:=h;show A?;show K?;show Q?;show B?;show BL? a9! (hW! 2 aM.nd (cl! (ve! Qn T.len WP)) (JFD (Ot pJ GI hr Dk! TI.eF bI R! Bi JAK) (SC! (Y2! Rs wE E3! G1' hr EI! (JCk EQ Af)) jX!)));show Ix? h S (o! ⟨q,G,i,?_⟩);show⟨Du?,dx,_,_,A!,hp,wE,TW.nI,Sy W,CO!,_,A!,S.iq,_,_,A!,A!,?_⟩;rw[O1];show⟨_,A!,p,CW,dx,_,_,A!,hp,wE,HO!,Ds W,CN!,_,A!,nd!,λio i8 wW eD sW=>?_⟩;show⟨io,i8,_,A!,Ab,λH1 I su A1 im is wx ic n1 n2 n3=>Fa!⟩;have s0:EP! (JLc i8 io io (.ins CI i8 [])):=JIw wW
 have s1:VG!:=fM! su s0 wW;have GB:JKR An!:=ut (by show Bs? hb;(.show wW);(.show C3 s0 n1);(.show C3 s0 n2);.show C3 s0 n3)
 have off:JQq:=ut (S.RF (GB b hb));show AY?;show Z?;show⟨F?,I4? HQ IW TW.nI (Sy W) CO! (JJk Z7! S1.iq (Za! C5 z3))⟩;rw[zy h1];have⟨W2,RR⟩:=S1.JA9 (l:=eW!);have A2:PK! (JEg CO! eW!) io I:=A1.keep (JUN RR);show Iq? (JEg CO! eW!) (LH! RR (Q3! eb));generalize z! H1 CO! (iM! eW!)=H2 at W2 RR A2 cF;show BE?;show⟨EE? ME,A!,JG,av!,_,A!,_,A!,p,h,Z7!,1,_,A!,W2,z1,z2,λx L H3 W3 l3 aS _ _ _=>?_⟩;show P? (k io I L H3 W3 l3 (A2.keep JIs) off GB ?_ is wx ic (PI! (LH! aS JMS)));rw[im];simp
open E
open S
inductive Nb(vs:C!)(H:Hp)(Q:VK)(E:XK):B!
 | mk (p:Addr) (n:Int) (W:ET) (l1 l2:j!) (t:Addr) (m s g:Int) (kind:Str) (v:V) (_:cy!) (_:Aq!) (_:W.ls=l1++(n,t)::l2) (_:mQ! [T! m,UV BD!,T! s,K4!,v]) (_:∀H1,cU! { W with ls:=KX! }->RP!->((zf!/\pd! N9)\/(kind=AM!/\pd! Ge)\/(kind=F5!/\pd! Tp)\/(kind=Kc!/\pd! Gd)\/((NZ! E4!/\NZ! AM!/\NZ! F5!/\NZ! Kc!)/\Hn [DF!,JM!] H1 (λ_ H2=>∀r,Tl! (b4! r) r (PQ! H2 r [])) E)))
def Jst(F:a! gx! uy! Lv)(TW:Ga)(TP:Pn)(M1:JQh f1 d1)(M2:JPF f2 d2)(G2:JEi f2 d2 Hn)(M3:JPG f3 d3)(G3:EL 2 f3 d3 Hh! (N9))(M4:JPH f4 d4)(G4:JEi f4 d4 Ge)(M5:JPI f5 d5)(G5:EL 5 f5 d5 Hh! (Tp))(M6:JPJ f6 d6)(G6:JEi f6 d6 Gd):ht! 6 K0! Nb:=by
 have G1:Bs! 1 f1 d1 K0! Tr:=Ja9 M1.fn TP;have G2':Bs! 3 f2 d2 Hh! Hn:=NW! G2;have G3':Bs! 2 f3 d3 Hh! N9:=NW! G3;have G4':Bs! 3 f4 d4 Hh! Ge:=NW! G4;have vO:Bs! 5 f5 d5 Hh! Tp:=NW! G5;have G6':Bs! 3 f6 d6 Hh! Gd:=NW! G6;show ok1 F MB (λvs H Q E h=>?_) (λEO A outer s H vs Q E hr h=>?_);.have⟨p,n,W,l1,l2,t,m,s,g,kind,v,rfl,_⟩:=h;rfl
 .have⟨p,n,W,l1,l2,t,m,s,g,kind,v,rfl,S,el,et,k⟩:=h;show Q?;show Aa?;show A8?;show B?;show GF?;show BH? MB.nd (JSQ Iz! E3! G1 HJ EI! w!) (Nr! MB.nd (TL! EQ) (Pv! (rQ! Iw! G3' OU Ix!) (rQ! M4.mt G4' VM M4.bd) (Pv! (rQ! M5.mt vO hr M5.bd) (rQ! M6.mt G6' VM M6.bd) (SC! (JS7 Ke! G2' VM HM!) (Ap (Eh Ae))))));show⟨a?,CW,dx,_,_,A!,hp,wE,I0!,D7 W,Bp!,HQ,_,A!,hq,Jk!,_,A!,Bp!,W.pd,W.c,HF!,n,A!,S.po,?_⟩;show S! ⟨l1,l2,t,el,Zt!⟩;have⟨W1,JF⟩:=S.LZ S1 (Iy! (FI! OK h2));show A1?;have⟨ME,JG⟩:=W1.ob;show IN? (QC! RS.BE et);have k2:=k H1 W1 JF;clear k;rcases k2 with⟨rfl,k⟩|⟨rfl,k⟩|⟨rfl,k⟩|⟨rfl,k⟩|⟨nk,k⟩;(.show mZ ⟨F?,p,ME,_,A!,JG,av!,_,A!,k⟩);(.show bH (mZ yN!));(.show bH (bH (mZ yN!)));(.show bH (bH (bH (mZ yN!))));.show bH (ne:=nk.1) (bH (ne:=nk.2.1) (bH (ne:=nk.2.2.1) (bH (ne:=nk.2.2.2) ⟨F?,p,ME,_,A!,JG,av!,_,A!,?_⟩)));have⟨p',t',W',n',s',g',rL,tb,wt,q,G,G',e1,h1,h2,h3,h4,h5,h6⟩:=k;show⟨p',t',W',n',s',g',rL,tb,wt,q,G,G',e1,h1,h2,h3,h4,h5,λH2 a1 a2=>⟨Bu!,h6 H2 a1 a2⟩⟩
open E
abbrev D1(qs:cr):Ch:=(qs.map λq=>LS!).sum
def Jbd:JLK (Rg!->D1 eN!=D1 l-LS!+r.2.AY)
 | [],i,q,r,h=>C0!
 | a::l,0,q,r,h=>by (have e:a=q:=by simpa using h);subst e;simp only[List.set_cons_zero,D1,AI,DL];lia
 | a::l,i+1,q,r,h=>by have ih:=Jbd (l:=l) (i:=i) (q:=q) (r:=r) U1!;simp only[List.set_cons_succ,D1,AI,DL] at *;lia
abbrev eI(qs:cr)(h:Nat):Ch:=JLz (λq=>LS!)
def Vc:∀{qs:cr},(∀q∈qs,0<=LS!)->Bb! (JM3 (qf! qs h))=D1 qs
 | [],_=>by simp[D1]
 | q::qs,nn=>by have ih:=Vc (qs:=qs) (wd! nn);rw[BJ,List.range_succ_eq_map];simp only[AI,AX,DL];(have e1:JMk (eI (q::qs) h).toNat (qf! qs h):=by funext h;simp[eI]);rw[e1];(have e2:eI (q::qs) 0=LS!:=by simp[eI]);have:=ZN! nn q;rw[e2];change _=LS!+D1 qs;lia
abbrev vh(m:Nat)(mx:No->No):G!:=(At! m).flatMap λk:Nat=>(At! (mx k)).map λj:Nat=>((EX!,Cx!):T2)
def Jrt(m:Nat)(mx:No->No):(vh m mx).length=oi! mx:=by simp_all [vh]
abbrev O_(qs:cr)(t:T2):B!:=NM λ(j:Nat)(q:Addr)(G:CN)=>wp!/\bR! lc/\0<=AX!/\kZ!
def O_.set{qs:cr}{i:Nat}{q:Addr}{G G':CN}{t:T2}(hi:o0)(md:Kg!)(h:O_ qs t):O_ Ed! t:=by
 have⟨j,r,M,e,h1,h2,h3⟩:=h;show D? (j=i);.subst c;rw[hi] at e;cases e;show⟨j,q,G',JJI JO,h1,h2,CJ h3 md⟩
 .show⟨j,r,M,h8! (hU! OH c),h1,h2,h3⟩
abbrev QH(G:CN)(t:T2):B!:=Eh!\/ly!
structure Mk(qs:cr)(ls:wS):B! where
 has:bp! (∀t,FS!->O_ qs t)
 lt:Ii! (O_ qs Sc)
def Mk.next{qs:cr}{ls QC:wS}{i:Nat}{q:Addr}{G G':CN}(x:Mk qs ls)(hi:o0)(md:Kg!)(h1:JJR Ed!)(h2:∀l∈QC,Yf!\/O_ qs Sc):Mk Ed! QC :=⟨λj r M e t ht=>by show Dl?;(.subst e2;show C? (h1 t ht);(.show(x.has i q G hi t h).set hi md);.show h);.show(x.has j r M e t ht).set hi md,Fy! (by show C? (h2 l hl);(.show(x.lt l h).set hi md);.show h.set hi md)⟩
abbrev MT(H:Hp)(GQ:j!)(y:Sq!):JG! LL
 | .w l=>s9! H
 | .ask s g n u=>SF H y.2 AK! AM! s g n u
 | .MY s g n u tick S=>SF H y.2 AK! F5! s g n u/\HK λe xs=>(AK!,e)∈GQ/\Ml! e (JI2 Cp!)/\UP! xs S
 | .lt s g ts=>WO H y.2 AK! s g ts
def MT.keep(h:eo!)(k:BB!):MT H' GQ y z:=by cases z with | w l=>show NO.keep h k | ask s g n u=>show SF.keep h k | MY s g n u tick S =>have⟨h1,e,xs,h2,h3,h4⟩:=h;show⟨h1.keep k,e,xs,h2,Mp! h3,h4.keep k⟩ | lt s g ts=>show WO.keep h k
def MT.more(h:eo!)(sb:∀e,(AK!,e)∈GQ->(AK!,e)∈JBa):MT H JBa y z:=by cases z with | w l=>show h | ask s g n u=>show h | MY s g n u tick S =>have⟨h1,e,xs,h2,h3,h4⟩:=h;show⟨h1,e,xs,sb e h2,h3,h4⟩ | lt s g ts=>show h
def Ed(x:JD4 ys al)(k:BB!):Dm! (MT H' GQ) ys al:=JFq x
structure Qy where
 n:Ch
 io:F!
 I:K51F.Iq
 fi:IJ!
 se:U4!
abbrev C9(y:Qy):Z!:=[y.io,y.I.sd,y.I.fd,y.I.cd]
def HM:b∈C9 y↔(b=y.io\/b=y.I.sd\/b=y.I.fd\/b=y.I.cd):=by simp[C9]
structure US(H:Hp)(m:Nat)(y:Qy):B! where
 at_:PK! H y.io y.I
 many:y.I.m=Bt!
 fs:y.I.fs=y.fi.map (rW! CD!)
 cs:y.I.cs=y.se.map (rW! r.2)
 ss:H0! (λ(kv:Key×V)(r:Int×Int×HS)=>∃a,kv=(AV! W!,T6!)/\UP! a Bd!) y.I.ss I6!
open S
variable {H H':Hp}{m:Nat}{y:Qy}
def US.has(x:US H m y)(hb:b∈C9 y):∃o,Hf!/\(∀xs,o≠FB xs)/\(∀xs,o≠.BK xs)/\(∀ob u,o≠.IQ ob u):=by
 show Bs? (HM.mp hb);.have⟨dx,e⟩:=x.at_.ob;show FF? e
 .show FF? x.at_.s
 .show FF? x.at_.f
 .show FF? x.at_.c
def US.keep(x:US H m y)(k:dj! (b∈C9 y))(kt:BB!):US H' m y :=⟨x.at_.keep λb hb o e=>Mv! k (HM.mpr hb),x.many,x.fs,x.cs,Ax (Sv! (by show GK?;show⟨a,e,s.keep kt⟩)) x.ss⟩
open E
abbrev Kn(ns:At):JG! LL
 | .ask _ _ n u=>n∈ns/\(u=1\/u=2)
 | .MY _ _ n u _ _=>n∈ns/\(u=1\/u=2)
 | _=>True
abbrev YN(l:LT):No:=B3! Ne! 5 (B3! zh! 1 2)
abbrev d_(w:Nat):LL->No
 | .w l=>w*YN l
 | .ask _ _ _ u=>JNK
 | .MY _ _ _ u _ _=>w6! 4 2
 | .lt _ _ _=>1
abbrev Gk(m:Nat)(y:Qy):No:=B3! (y.fi.length<m) (3*y.fi.length) (if y.se.length<m then y.se.length else 0)
abbrev Ez(w:Nat)(al:l!):No:=(al.map (d_ w)).sum
abbrev Mp(m:Nat)(ys:GM):No:=(BS! (Gk m)).sum
abbrev n9(w m:Nat)(qs:cr)(al:l!)(ys:GM):No:=Ez w al+Mp m ys+w*Py qs
abbrev PB(m A B:Nat)(qs:cr)(al:l!)(ys:GM):B!:=A<=n9 0 m qs al ys/\n9 1 m qs al ys<=B
def Dp(w9:Nat)(a b:l!):Ez w9 (Ah!)=Ez w9 a+Ez w9 b:=by unfold Ez;rw[ZF,OQ]
def Ig(w9:Nat)(a b:l!)(z:LL):Ez w9 (a++z::b)=Ez w9 (Ah!)+d_ w9 z:=by rw[Dp,Dp];change Ez w9 a+(d_ w9 z+Ez w9 b)=_;lia
def zI(w9:Nat)(ls:wS):Ez w9 (MM! .w)=w9*qB!:=by induction ls with | nil=>simp[Ez] | cons l ls ih =>change w9*YN l+Ez w9 (MM! .w)=w9*(YN l+qB!);rw[ih,Nat.mul_add]
def Jf4:∀al:l!,al.length<=Ez 1 al
 | []=>Bu!
 | z::al=>by have ih:=Jf4 al;(have h:1<=d_ 1 z:=by cases z with | w l=>change 1<=1*YN l;unfold YN;split<;>(try split)<;>decide | ask s g n u=>change 1<=JNK;split<;>decide | MY s g n u t S=>change 1<=w6! 4 2;split<;>decide | lt s g ts=>show ZG 1);change al.length+1<=d_ 1 z+Ez 1 al;show AA Nm! (Nat.add_lt_add_of_lt_of_le h ih)
def Jsj{qs:cr}{i:Nat}{q:Addr}{G G':CN}(hi:o0):TF! (Py Ed!)=Yp! (Py qs):=Jfw (r:=HY!) hi
def PB.next{m A B A' B':Nat}{qs:cr}{al al':l!}{ys:GM}{i:Nat}{q:Addr}{G G':CN}(x:JPz qs)(hi:o0)(h0:A'=0\/Ez 0 al+A'<=Ez 0 xL+A)(h1:Yp! (Ez 1 xL)+B<=TF! (Ez 1 al)+B'):PB m A' B' Ed! xL ys:=by have h2:=Jsj (G':=G') hi;have⟨x1,x2⟩:=x;unfold PB n9 at *;show⟨?_,X!⟩;rcases h0 with h0|h0<;>lia
structure WI(H:Hp)(p:Addr)(W:ET)(D:AQ!)(m n d A B:Nat)(al:l!)(ys:GM):B! where
 wa:Aq!
 wg:Wg D m n B6! BC! LK!
 md:a0!<=n
 ob:∀(j:Nat) q G,Ba! (W.qs[j]?)->kY! (0<=AX!)
 m1:1<=m
 m5:FW!
 lw:vv! HF! al
 en:AT! W.GQ.map
 ec:∀e∈W.GQ,e.1<=W.c
 ez:W.GQ.length<=d
 fz:W.JC.length<=d
 ma:Mk BC! (LP al)
 pb:JPz BC!
 iz:ys.length<=n
 iq:W.OJ=BS! rz!
 lZ:BS! I7!=(At! Xt!).map λ(j:Nat)=>AF! j+1
 nd:H3! vL! C9
 off:Yq! (∀b∈C9 y,Ga!)
 at_:Yq! (US H m y)
 iv:Yq! (TJ m BC! LK! al y.n I6! y.se)
 kn:∀z∈al,Kn (BS! I7!) z
 ff:∀e∈W.JC,∃y∈ys,y.n=e.1/\y.se.length=m
 lt:∀s g ts,JNP∈al->FX!/\g<m/\∃F,SD BC! LK! F/\(∀t,F t->D t)/\JKJ (lc=g)
abbrev Qp(p:Addr)(W:ET)(ys:GM)(H H':Hp):B!:=iV! Ga! (b∉WU!) IE!
open S
variable {p:Addr}{H H1:Hp}{W W':ET}{D:T2->Prop}{m n:Nat}{al al':List LL}{ys:List Qy}
def WI.same(x:SB)(s:VG!):JRf H1 A :={ x with wa:=x.wa.same s,lw:=Ed x.lw (JX s),at_:=Fs! (JJD (XW! Vn!) (JX s)) }
def WI.len(x:SB):W.ls.length=al.length/\al.length<=B:=by have h1:=AD! x.lw;have h2:=Jf4 al;have h3:=x.pb.2;unfold n9 at h3;lia
def WI.PU(x:SB)(hB:Bx!):Jn!:=by have:=x.len;lia
def Jev{i:Nat}{q:Addr}{G G':CN}{c:Int}{Ls:j!}(hi:cM!)(nw:Rq!):vw! (Bu p (hF! Wu!)) GK!:=ut (by show Bg?;(.show E? (DK! hb));.have⟨z,hz,hm⟩:=EB.mp hb;have hz:z∈Wu!:=hz;show Io?;(.show E? JGG);.have mq:=ZP hi;rcases hm with hm|hm;(.show E? (an! ⟨HW!,mq,GE hm⟩));.show C? (nw b hm);(.show E? (an! ⟨HW!,mq,d! h⟩));.show z?)
def pG(f:RP!):Qp p W ys H H1:=λb o e h _=>FI! f h
def WI.aw(x:SB)(f:RP!)(hy:y∈ys):US H1 m y:=JJD (CJ! (FI! f (Mg! y hy b hb))) (MY! Az! f)
def WI.JAb(x:SB)(sub:vw! Ns! GK!):Yq! (∀b∈C9 y,b∉Ns!):=λy hy b hb m=>by show C? (sub b m);(.show Mg! y hy b hb h);.show Gv?;show AC?;cases h
def WI.dJ(x:SB){j:Nat}{q:Addr}{G G':CN}{c:Int}{Ls:j!}(hi:Ba! (W.qs[j]?))(W1:cU! (hF! (i2! j)))(wf:RP!)(nw:Rq!)(tk:Ym!)(md:Kg!)(mk:ky!)(ou:qF!)(wg:Wg D m He! B6! ju! (LP xL))(st:OB BC! LK! ju! (LP xL))(hA:∀n u,JGj=Lj!)(hB:∀n u,JGk=JY! u)(lw:Dm! (MT H1 W.GQ) Ls xL)(mk':Mk ju! (LP xL))(pb':PB m A' B' ju! xL ys)(hc:W.c<=c)(sub:∀z∈al',Yr!\/∃l,z=.w l):WI H1 p (hF! (i2! j)) D m He! (d+1) A' B' xL ys:=by
 show Bv?;have a2:=x.ez;have a3:=x.fz;show Bw?;show⟨W1,wg,?_,λj2 q2 G2 e2 t ht=>?_,x.m1,x.m5,lw,Ik!,λe he=>CJ (x.ec e he) hc,by change Yn! (d+1);show CC a2,JNh,mk',pb',CC a4,EH!,x.lZ,BY!,x.JAb (Jev hi nw),Fs! (x.aw wf hy),Fs! ((x.iv y hy).dJ hi tk md (hA y.n) (hB y.n) st),JQ!,x.ff,vM! ?_⟩;.change D1 (Ss! j HY!)<=_;rw[Jbd hi];change a0!-G.AY+G'.AY<=JCR;lia
 .have e2:(W.qs.set j (q,G'))[j2]?=D! (q2,G2):=e2;rcases Eu e2 with⟨_,e3,_⟩|⟨_,e3⟩;(.rw[e3] at ht;show C? (ou t ht);(.show x.ob j q G hi t h);.show h);.show x.ob j2 q2 G2 e3 t ht
 .rcases Gk! sub with h|⟨l,rfl⟩;(.show x.kn z h);.trivial
 .rcases sub _ hz with h|⟨l,h⟩;(.show GL? qH!;show⟨g0,g1,F,st F sF,fD,ht⟩);.cases h
open E
def Dm{as:Q!}{bs:C1!}{cs:Q!}{ds:C1!}(p:rF!)(q:Pf! cs ds):XO! R (as++cs) (bs++ds):=uL p q
def Dz{α β γ:UF}{f:β->γ}{R:AP! α γ}{l:Q!}{m:C1!}(p:H0! (λa b=>R a (f b)) l m):Hz! R l m.map f:=Jus (g:=f) (λ_ _ h=>h) p
def Jby(h:DS!):JL5 Lc!:=by unfold Aj;cases e:dE! Cr! with | none =>show G3?;show E0?;simp[e2] at this | some q =>have:=F' e;have:Cr!:=BV this;rw[<-this];rfl
abbrev nums(c:Int)(k:Nat):At:=cg! k (λ(i:Nat)=>c+1+sB)
def pS(c:Int):[c+1]=nums c 1:=by unfold nums;simp
def Jys(c:Int):[c+1,c+1+1]=nums c 2:=by unfold nums;simp[GW]
structure Nv(W W':ET)(VJ L:j!):B! where
 ls:W'.ls=VJ++L
 nu:JPw
 c:W'.c=JLI
 sh:vN!
structure Nw(W W':ET)(VJ L:j!):B! extends oG! where
 fi:TG!
def Nv.zero{W W':ET}{VJ:j!}(h:W'.ls=VJ)(c:W'.c=W.c)(e:vN!):Nv W W' VJ []:=⟨jp h AM,A!,ah! c,e⟩
def Nv.one{W W':ET}{VJ:j!}{t:Addr}(h:W'.ls=VJ++jR!)(c:W'.c=Dl!)(e:vN!):Nv W W' VJ jR!:=⟨h,pS _,c,e⟩
abbrev Fp(p:Addr)(W:ET)(ys:GM)(W':ET)(EC:GM)(H:Hp):B!:=∀b,(b∈Ns!\/b∈JFh)->b∈GK!\/b∈WU!\/An!
def zF{p:Addr}{W:ET}{ys:GM}{H:Hp}{i:Nat}{q:Addr}{G G':CN}{c:Int}{Ls:j!}(hi:cM!)(nw:Rq!):Fp p W ys (hF! Wu!) ys H:=ut (by show C? hb;(.show C? (Jev hi nw b h);(.show J?);.show AV? h);.show CU?)
def ug{p:Addr}{W W':ET}{ys i1 i2:GM}{y y':Qy}{H:Hp}(ey:ew!)(qf:C9 y'=C9 y)(ew:Ns!=GK!):wS! (LT!) H:=ut (by show C? hb;(.show xI! ew h);.show BX? ?_;rw[ey,DG,DI,<-qf];rw[DG,DI] at h;show h)
abbrev KT(p:Addr)(K:W.Frag)(W:ET)(m n d A' B':Nat)(ys:GM)(H:Hp)(Q:VK)(R:V->ET->l!->PN! GM):B!:=∀(v:V)(W':ET)(D':AQ!)(al':l!)(EC:GM)(H':Hp),R v W' xL EC H'->Wd!->WI H' p W' D' m He! (d+1) A' B' xL EC->R6!->Ys!->Jt!
open S
variable {p:Addr}{H H1:Hp}{W W':ET}{D:T2->Prop}{m n:Nat}{al:List LL}{ys:List Qy}{Q:VK}{E:XK}{h:Int}{q:Addr}{G G':CN}
def Jtr{a:Addr}(ha:Q8!):vw! (BX (KP T8!)) CV!:=ut (by rw[Jqq] at hb;show Bg?;(.show E? hb);.rw[ZK hb];show o! ha)
def Jbt(ta:T2)(l:G!):fP! (JLG JU ta l):=by unfold BX;change JLC (bG! (JU re ta l).map)=_;rw[Jod]
def yg(ok:AR!):mG!:=JLa
def Jqk{a:Addr}(h:QH (KP T8!) t):FS!\/t=FD!:=by
 show Ih?;.have h:t∈NR!:=h;show CB?;(.show CQ?);.show d! (by simpa using h)
 .show Ht?;show Bh?;(.show As? (Bc! JFx));·(have e:r=(FD!,a,[]):=by simpa using hr);show n?;cases ht
 .show BZ?
def Jql(hb:B8!)(h:QH dk! t):FS!:=by
 show Ih?;show Ad? h
 .rcases Ik hr with⟨_,e⟩|hr;(.show n?;show C? Ty!;(.show S! (Gw h));.rw[h];show Pq! hb);.show DM? JFx
 show BR?
def Jqm(h:QH bF! t):FS!:=by
 show Ih?;show Ad? h
 .rcases Ik hr with⟨_,e⟩|hr;(.show n?;show S! (Gw Rv!));.show DM? JFx
 show BR?
def Jhg{l:G!}(hl:∀t∈l,FS!)(h:QH (KP uX!) t):FS!:=by
 show Dp?;.show hl t h
 .show BZ?
 show BR?
def Jku{v:Int}(hr:tb∈ci MO!)(h:QH (Kd G tb v) t):FS!:=by
 show CG?;.show J?
 .show Ip?;(.rw[h];show o! hr);.show z?
def Jm2(h:QH (Fo G R) t):FS!:=by
 show CG?;.show E? (Jg7 h).1
 .show d! (UI! h)
def Jtp(h:QH mB! t):FS!:=by
 show CG?;.show E? (Jd2 h).1
 .show d! (UI! h)
def Jhu{X:CN}{rs:Y!}(pm:rs.Perm X.AK):(Bo X rs).length+(HZ X).AK.length<=X.AK.length:=by have h1:(Bo X rs).length<=cH! (λq=>! q6!):=RC!;have h2:=JOc q6!;show Ja? q6! X.AK;change _+Ak! X.AK.filter (λq=>q6!)<=_;lia
def Sw{f:EE!->LT}(hf:∀r,(f r).kind=EJ!):∀rs:Y!,((KT! f).map YN).sum=rs.length
 | []=>rfl
 | r::rs=>by have ih:=Sw hf rs;(have e:YN (f r)=1:=by unfold YN;rw[hf];rfl);change YN (f r)+((KT! f).map YN).sum=rs.length+1;lia
def Jcb{G:CN}{rs bs:Y!}{f:EE!->LT}(hf:∀r,(f r).th=W!)(pm:Em!)(sub:∀z∈bs,z∈rs):∀l∈En! f,QH G Sc:=Fy! (by show HI? hl;rw[hf];show d! (BL (Md! (sub r hr))))
def WI.JD(x:SB)(i:CX!)(W1:cU! zO!)(wf:RP!)(nw:Rq!)(tk:Ym!)(md:Kg!)(mk:ky!)(ou:qF!)(wg:JJ1 LK!)(hs:JJR (Ss! S8! HY!))(rl:G'.AK=G.AK)(cA:I8!)(cB:Mh!)(st:JKC LK!)(k:D3!)(v:V)(hr:∀W',wz! []->W'.qs=iD!->JMd al):Q v H1 :=JQu zO! al zO! (Py! (Nv.zero A! A! A!)) (zF (c:=W.c) (Ls:=HF!) SZ nw) (x.dJ (c:=W.c) (Ls:=HF!) SZ W1 wf nw tk md mk ou wg st bI! bI! (Ed x.lw (MY! Az! wf)) (x.ma.next SZ md hs (Fy! (GE hl))) (x.pb.next SZ (d! (IT cA _)) (KE rl (IT cB _))) GP! (Ai! (GE hz)))
def Jtx(x:SB)(hn:Ae!)(hB:Bx!)(i:CX!)(cA:I8!)(cB:Mh!)(k:D3!)(hR:∀t a W' H',GL! t JCA->wz! []->W'.qs=Ss! S8! (q,Vz!)->R ZM! W' al ys H'):V5! Lo:=by
 show A7?;have z1:=s.ok.hz;have z2:=s.ok.oz;have z3:=s.ok.PU;show⟨p,h,W,A!,Az!,o! ⟨q,G,i,q,G,A!,i.at Az!,jA!,JE1,ZI! (AF z3 hn),s.ok.fresh.1,s.ok.fresh.2.1,s.ok.fresh.2.2,λt a H1 ht ha et S1 OK=>?_⟩⟩;have aX:=Jtr (G:=G) ha;show Cs? Vz!;show JUZ T9! GP! Lf! (x.wg.make SZ hn a) (CU! ((Jqk ht).imp id Um!)) (Jfa SZ nu a) (λW' c e=>hR t a W' H1 et c e);rotate_left;.show⟨S8!,q,Vz!,by rw[JO];show ES! SZ,b1! nu,b1! s.m0,by rw[e];change G.AY<FG!;show AH _⟩
 show B9? ((G.AJ++[((FD!,0):EE!)]).map (DM!));rw[ZF] at ht;show HV?;.show J?
 ·show IH?;rw[e];show L? s.m0
def Jty(x:SB)(hn:Ae!)(hB:Bx!)(i:CX!)(ea:ND!)(eb:BA!)(ha:BZ!)(hb:B8!)(hh:Je!)(cA:I8!)(cB:Mh!)(k:D3!)(hR:sI! dx!):xy! Lp:=by show A7?;show Jf?;have z1:=(s.ok.get ta).2.1;show Kc? (o! ⟨GX? (Zd! ⟨ha,hb,hh,ad,_,fd,jA!,Zt!⟩)⟩);rw[Ja0 (Jll (i.at Az!).nd) (yg s.ok) fd] at S1;show El? dk! (JHJ (Jbt (G:=G) ta JDy));show Cs? dx!;have⟨g1,g2⟩:=x.wg.hold SZ (ta:=ta) hb;show JKf (Jql hb ht)
def Jt0(x:SB)(hn:Ae!)(hB:Bx!)(i:CX!)(ea:ND!)(eb:BA!)(ha:BZ!)(hb:Nd!)(hh:Je!)(cA:I8!)(cB:Mh!)(k:D3!)(hR:sI! dy!):xy! Lr:=by show A7?;show Jf?;show Kc? (o! ⟨GX? (sy! hh JMD)⟩);rw[Ja0 (Jll (i.at Az!).nd) (yg s.ok) fd] at S1;show El? bF! (JHJ (Jbt (G:=G) ta JGE));show Cs? dy!;have⟨g1,g2⟩:=x.wg.drop SZ ta tb;show JUZ GP! T9! iC! g1 (CU! (S! (Jqm ht))) g2 (λ_ c e=>FS hR c e)
def Jtv(x:SB)(hn:Ae!)(hB:Bx!)(i:CX!)(ea:ND!)(eb:BA!)(ha:BZ!)(hb:Nd!)(hh:Je!)(cA:I8!)(cB:Mh!)(k:D3!)(hR:sI! dp!):xy! Ln:=by show A7?;show Jf?;have z1:=s.ok.hz;show Kc? (o! ⟨Fh? (sy! hh JMD)⟩);show El? (Ri G tb) Ts!;show Cs? dp!;have⟨g1,g2⟩:=x.wg.take SZ ha hb;show JKf (Jhg (G7! ((EF.mp hu).elim (λz=>Pq! z) λz=>lP! (S! (Gw hb)))) ht)
def Jtz(x:SB)(hn:Ae!)(hB:Bx!)(i:CX!)(eb:BA!)(hb:B8!)(cA:I8!)(cB:Mh!)(k:D3!)(hR:sI! dq!):Hc! Lq [DF!,DH!,B9!]:=by show⟨p,h,_,W,A!,Az!,o! ⟨q,G,i,q,b,G,tb,A!,i.at Az!,eb,JMD⟩⟩;show El? (Rj G tb) Ts!;show Cs? dq!;have⟨g1,g2⟩:=x.wg.free SZ tb;show JKf (Jhg (G7! (Pq! (IY.mp hu).1)) ht)
def WI.gz(x:SB)(i:CX!){c:Int}{L:j!}{ls:wS}(W1:cU! JG0)(wf:RP!)(nw:Rq!)(tk:Ym!)(md:Kg!)(mk:ky!)(ou:qF!)(wg:JJ1 (Rr!++ls))(st:JKC (Rr!++ls))(hs:∀t,QH G' t->FS!)(lm:Ii! (QH G Sc))(cA:I8!)(cB:Yp! qB!+B<=G.AK.length+B')(hc:W.c<=c)(nu:JPw)(ec:c=JLI)(lw:H0! (λ(y:Int×Addr) (l:LT)=>s9! H1) L ls)(k:D3!)(v:V)(hr:∀W',JGh->W'.qs=iD!->JMd (al++N7!)):Q v H1:=by
 have e:LP (al++N7!)=Rr!++ls:=jp Da zB
 show JQu JG0 (al++N7!) JG0 (JEK nu ec) (zF SZ nw) (x.dJ (xL:=al++N7!) SZ W1 wf nw tk md mk ou (Z4! wg) (Z4! st) (λn u=>Cy! B4 yT! AM) (λn u=>Cy! Bx yU! AM) (Dm (Ed x.lw (MY! Az! wf)) (Cd! Dz f LL.w R JM5 lw)) ?_ ?_ hc JQ!);.rw[e];show x.ma.next SZ md (mo! hs) Jl!;show HX?;(.show J?);.show d! (x.ma.has _ q G SZ _ (lm l h))
 .show x.pb.next SZ (Bc! ?_) ?_;(.rw[Dp];show MM EU! cA);.rw[Dp,zI];lia
 .show j? hz;(.show J?);.have⟨l,_,rfl⟩:=ZN h;show xO! l
abbrev SY(sh h g:Int)(tb:T2)(G G':CN)(l:LT):B!:=(Qo!/\G'=Zx G tb (Tw!+sh)/\l=⟨AL!,h,g,tb,sh⟩)\/(Gb!/\Pu!=1/\G'=Kd G tb 0/\l=⟨E4!,h,tb.1,tb,g⟩)\/(Gb!/\2<=Pu!/\G'=Kd G tb (Pu!-JDu)/\l=⟨AL!,h,g,tb,JDu⟩)
def Jtw(x:SB)(hn:Ae!)(hB:Bx!)(i:CX!){g:Int}(g0:FX!)(g1:g<m){b:Addr}{tb:T2}(eb:BA!)(hb:B8!)(cA:I8!)(cB:B+5<=B')(k:D3!)(hR:∀W' G' l t H',SY B6! h g tb G G' l->wz! jR!->W'.qs=iD!->R (V! T1!) W' (al++[.w l]) ys H')(kE:Gb!->JDB->JL! NW):Hc! Sb JH7:=by
 show A7?;have z1:=s.ok.oz;have z2:=s.ok.rz;show Ak?;have hN:Bb! S8!=h:=BO i.1;have ig:HK λq2 G2=>NA W g q2 G2:=by have⟨y,hy⟩:=Mm! BC! PE! (by rw[Mi!];lia);show⟨AK!,y.2,g0,hy⟩
 show⟨p,b,h,g,W,tb,q,G,A!,Az!,eb,i,ig,jA!,JE1,CW! z3,?_⟩;by_cases near:Qo!;.have ho:=s.ok.hk tb hb F6!;show BX? ⟨hb,F6!,_,Jby ho,UK! JQ!,zy!⟩;(.have:=s.ok.rk z.1 (A5! JL1);have:¬z.1=tb:=λe=>LF! this e F6!;show Y?);show BF? (x.wg.UZ SZ hb F6! g0 g1);show Dq?;show JRc (Zx G tb (Tw!+W.share)) (CU! (S! (by show CP?;(.rw[h];show ho);.show h))) (λt h=>h) (by show IJ? 2;lia) (Am! (CB! F6! A!))
 .have hr:=s.rk tb (Am! hb) F6!;have nn:=Np s.nn tb;show AG? ⟨hb,F6!,_,Jby hr,?_⟩;by_cases w0:JDB;(.show E? ⟨w0,kE F6! w0⟩);.by_cases w1:Pu!=1;(.show BX? ⟨w1,zy!⟩;show BF? (x.wg.UY SZ hb F6! g0 g1 w1);show Dq?;show JRc (Kd G tb 0) iC! (λt=>Jku hr) (by rw[Pc hr];show IJ? 5;lia) (Tx! (HZ! F6! w1 A!)));·(have w2:2<=Pu!:=X!);show AG? ⟨w2,zy!⟩;show BF? (x.wg.WW SZ hb F6! g0 g1 w2);show Dq?;show JRc (Kd G tb (Pu!-JDu)) iC! (λt=>Jku hr) (by rw[Pc hr];show IJ? 2;lia) (d! (d! (HZ! F6! w2 A!)))
def Jqz(x:SB)(hn:Ae!)(hB:Bx!)(i:CX!)(cA:I8!)(cB:Mh!)(k:D3!)(hR:∀y W' kk R' (rs:Y!) H' L,OO (QF re) kk wG! [] R'->Em!->IN!->JGh->W'.qs=Ss! S8! (q,Fo G R')->AT H' y xT!->R aZ! W' (al++sM! (keepR G R') ⟨EJ!,h,r.1.1,W!,r.2⟩) ys H'):V5! Oa:=by
 show A7?;show Ak?;have hN:Bb! S8!=h:=BO i.1;show KP?;have⟨kk,R,hk,rc⟩:=FX.OO.ofN s.ok (CF hn);have zb:(Bo (keepR G R) rs).length<=60:=by have h1:(Bo (keepR G R) rs).length<=cH! (λq=>! Ll!):=RC!;have h2:=BC (λq:T2×Int=>! Ll!) rs;have h3:=KO.pr.length_eq;have h4:=s.ok.rz;lia
 show⟨p,h,W,q,G,n,kk,rs,R,A!,Az!,i,s.ok,ZI! hn,Ay! (s.ip t (S! ht)).1,λz hz t ht=>(s.ip t (d! (Ud! ht))).1,JA!,KO.wr,rc,hk,FX.Ok.clean s.ok rc,zb,z3,λy L H1 W1 bk JF jN jM ey=>?_⟩;show BF? (x.wg.clean SZ rc JA!);show Dq?;show x.gz (G':=WL!) i W1 JF (Mu! (lY! Nq)) iR! GP! T9! pj! wg st (λt=>Jm2) (Jcb (G4!) JA! (Ai! (Tc! (Tc! hz)))) cA (by rw[Sw (G4!)];have:=Jhu (X:=di!) JA!;change _+(HZ GE!).AK.length+B<=_;have e:vA! (keepR G R).AK.length:=rfl;show e▸(MM this cB)) i! (by unfold nums;show Eo?;show bk.BQ) (by show Eo?) (Dz bk.OW) k _ (JQw kk R rs _ rc JA! KO.wr)
open E
def Jn3{l1:j!}{al:l!}(h:Pf! (l1++y::l2) al):NM λ(a:List LL)(z:LL)(b:List LL)=>JEu/\Pf! l1 a/\R y z/\Pf! l2 b:=by induction l1 generalizing al with | nil=>(cases h with|cons r pr=>show⟨[],_,_,A!,R!,r,pr⟩) | cons x l1 ih=>cases h with | cons r pr =>have⟨a,z,b,e,p1,p2,p3⟩:=ih pr;subst e;show⟨_::a,z,b,A!,SC r p1,p2,p3⟩
open S
def Ok.sz(ok:AR!)(hn:Ae!):Sz G:=by grind [Ok,Sz]
def WI.got(x:SB)(i:CX!)(es:JEu)(p1:W0!)(p3:W1!)(W1:cU! JG1)(wf:RP!)(nw:Rq!)(tk:Ym!)(md:Kg!)(mk:ky!)(ou:qF!)(wg:JJ1 (ov!++ls))(st:JKC (ov!++ls))(hc:W.c<=c)(nu:JPw)(ec:c=JLI)(lw:H0! (λ(y:Int×Addr) (l:LT)=>s9! H1) L ls)(mu:∀n u,j7 n u z=none/\mS n u z=none)(hs:JJR BC!)(lm:Ii! (O_ BC! Sc))(z0:d_ 0 z<=1)(cw:Yp! qB!+1<=TF! (d_ 1 z))(cA:Ws!)(cB:Wr!)(k:D3!)(v:V)(hr:∀W',Nw W W' iS! L->W'.qs=iD!->JMd (Ah!++N7!)):Q v H1:=by
 have e:LP (Ah!++N7!)=ov!++ls:=jp Da zB
 show Je?;show JQu JG1 (Ah!++N7!) JG1 (JEK nu ec) (zF SZ nw) (x.dJ (xL:=Ah!++N7!) SZ W1 wf nw tk md mk ou (Z4! wg) (Z4! st) (λn u=>?_) (λn u=>?_) (Dm (Dm (Ed p1 kt) (Ed p3 kt)) (Cd! Dz f LL.w R JM5 lw)) ?_ ?_ hc JQ!);.rw[B4,yT!,AM,es,B4,B4,Gb,(mu n u).1];rfl
 .rw[Bx,yU!,AM,es,Bx,Bx,Eg,(mu n u).2];rfl
 .rw[e];show x.ma.next SZ md (CU! ((hs t ht).imp id λh=>h.set SZ md)) Jl!;show HX?;(.show S! ?_;rw[es,Da];rw[Da] at h;show CB?;(.show M4!);.show DJ! ?_;change l∈(z::b).filterMap r6;rw[IV];cases r6 z with | none=>show h | some _=>show ZD _ h);.show L? (lm l h)
 .have e0:=Wy! 0 z;have e1:=Wy! 1 z;rw[<-es] at e0 e1;show x.pb.next SZ ?_ ?_;(.rw[Dp,zI];lia);.rw[Dp,zI];lia
 .show j? hz;(.show KR?);.have⟨l,_,rfl⟩:=ZN h;show xO! l
def vH(es:Lp! (LL.w l)):Rr!=LP a++l::LP b:=GH! es Da
def J1i(ok:NP g0 l)(e:l.kind=kind)(np:kind≠E4!):NZ! E4!/\NZ! AM!/\NZ! F5!/\NZ! Kc!:=by
 have⟨_,_,_,kk⟩:=ok;rw[e] at kk;rcases kk with⟨e,_⟩|⟨e,_⟩|⟨e,_⟩|⟨e,_⟩;show KF?
 show KF?
 show KF?
 .show I? e np
def Jhf{HV:Bool}{sh:Int}{P9:AQ!}(h:QH (Fg G th sh HV) t)(k:P9 th):FS!\/P9 t:=by
 show Dp?;.have h:t∈aW G th HV:=h;cases HV with | true =>show C? (EF.mp h);(.show CQ?);.rw[h];show o! k | false=>show CQ?
 show Ad? RG!
 .show BZ?
def Wt.has(w9:JHb)(h:QH G' t):FS!\/t=tb:=by
 have hd:∀{M:CN},(t∈JLm->t∈M.hand\/t=tb):=λh=>EF.mp h;rcases w9 with⟨_,⟨_,o,_,rfl⟩|⟨_,rfl⟩⟩|⟨_,rfl⟩|⟨_,rfl⟩;.show Dp?;(.show C? (hd h);(.show CQ?);.show z?);(.show As? RG!);.show BZ?
 .show Dp?;(.show C? (hd h);(.show CQ?);.show z?);(.show As? RG!);.show Ip?;(.show z?);.show BZ?
 .show C? h;(.show As? h);.show Ip?;(.show z?);.show BZ?
 .show J?
def Wt.cost(w9:JHb):(Yp! (([]:wS).map YN).sum+1:No)<=TF! (d_ 1 (.w ⟨BD!,s,g,tb,x⟩)):=by
 rcases w9 with⟨rfl,⟨_,o,_,rfl⟩|⟨_,rfl⟩⟩|⟨rfl,rfl⟩|⟨rfl,rfl⟩;.show EN? 0 2;lia
 .have:=L8 AO! tb (bq!);change 0+(Bg AO! tb (bq!)).length+1<=TF! (1*2);lia
 .have:=L8 AO! tb (bq!);change 0+(Bg AO! tb (bq!)).length+1<=TF! (1*2);lia
 .show EN? 0 1;show BM (NE Nat.add_right_comm _)
abbrev t9(sh:Int)(l:LT)(G G':CN)(bs:wS):B!:=(zl!/\JPW/\bs=[])\/(Ne!/\((zm!/\G'=iP! Fg q!/\bs=[Tz!])\/(zn!/\G'=iP! Fg am/\bs=[a6!,Tz!])))
def Jm8(x:SB)(hn:Ae!)(hB:Bx!)(el:WY!)(es:Lp! (LL.w l))(p1:W0!)(p2:rT! (.w l))(p3:W1!)(cA:Ws!)(cB:Wr!)(k:D3!)(hR:∀y L (bs:wS) W' q G G' H',JOu (Ba! (W.qs[l.g.toNat]?)) (t9 B6! l G G' bs) (kz! l.g.toNat) (Ah!++En! .w)):rK!:=by
 show Ak?;have ew:=vH es;have hl:l∈Rr!:=LB! ew
 have lok:=hG! _ hl;have⟨kind,sn,g,th,xx⟩:=l;have⟨g0,g1,ib,kk⟩:=lok;have g0:FX!:=g0;have g1:g<m:=g1;show JP?;show Jw?;show A7?;show Fd?
 have p2:NO H t BQ BD! sn g th xx:=p2;have⟨a0,b0,et,_⟩:=id p2;show⟨p,BQ,W,l1,l2,t,BQ,sn,g,BD!,_,A!,Az!,el,et,λH1 W1 JF=>?_⟩;show D6?;have mu:∀n u,j7 n u (.w ⟨BD!,sn,g,th,xx⟩)=none/\mS n u (.w ⟨BD!,sn,g,th,xx⟩)=none:=λ_ _=>Bj!;by_cases hp:zf!;.show EA? hp;subst hp;(have gt:g=th.1:=by rcases kk with⟨e,_⟩|⟨e,_⟩|⟨e,_⟩|⟨_,e,_⟩;(.show I? Bn! Dk);(.show I? Bn! E5);(.show I? Bn! E6);.show e);subst gt;have⟨mem,wlS,wlO⟩:=x.wg.pass ew A! hi;have mem:th∈Mo!:=mem;rw[<-Da] at wlS wlO;show⟨p,t,_,BQ,sn,th.1,xx,th,q,G,A!,W1,pr!,i,Ok.sz s.ok hn,mem,aD,?_⟩;by_cases same:xx=th.1;(.subst same;show S! (A8! (λy t1 H2 W2 m1 RR jN jM ey=>?_));show BF? (wlS A!);show tL! [JNk] W2 JF4 JTZ iR! GP! T9! (sS! mem) wg st (by change W.c<=Dl!;show BW (AH _)) (pS _) A! (LJ! m1) (CU! (Jhf ht (x.ma.lt _ hl))) (λl h=>by rw[ZK h];show Ta! (O_ BC! th) JG8) (Nat.le_of_ble_eq_true A!) (by show EN? 2 5;lia) (JQw _ _ q G _ hi (Bc! (A8! (GE JGD)))));.show d! ⟨same,λy t1 t2 H2 W2 m1 m2 RR jN jM ey=>?_⟩;show BF? (wlO same);rw[BH (LP CE!)] at wg st;(show Do? { W with qs:=ic! th.1.toNat (Fg G th B6! am),c:=Js!,ls:=KX!++(iK!++[(Js!,t2)]) } (A0! BH W2));have lw:H0! (λ(y:Int×Addr)(l:LT)=>s9! H2) [(Dl!,t1),(Js!,t2)] [JUD AL! xx,JNk]:=r6! m1 m2;show tL! ([(JUD AL! xx:LT)]++[(JNk:LT)]) W2 JF4 JTZ iR! GP! T9! (sS! mem) wg st (by change W.c<=Js!;lia) (Jys _) (by change Js!=W.c+Bb! 2;show L! u9! _) lw (CU! (Jhf ht (x.ma.lt _ hl))) (λl h=>by have e:l.th=th:=by{ rcases ZM h with h|h;{ rw[h] };{ rw[ZK h] } };rw[e];show JG8) (Nat.le_of_ble_eq_true A!) (by show EN? 4 5;show BM (NE Nat.add_right_comm _)) (JQw _ _ q G _ hi (Bc! (A8! (o! (CB! same A!)))))
 .have⟨G',wt,wg,st⟩:=x.wg.wt ew hp hi;rw[<-Da] at wg st;have wt:Wt BD! G th xx G':=wt;show AG? (d! (d! ⟨J1i (hG! _ hl) A! hp,p,t,_,BQ,sn,g,BD!,th,xx,q,G,G',A!,W1,pr!,i,wt,Ok.sz s.ok hn,λH2 W2 RR r hr=>?_⟩));show BQ? hr;have⟨_,_,h3,_,h5,_,h6,_⟩:=wt.qE;(show Do? { W with qs:=i2! PE!,c:=W.c,ls:=KX!++[] } JLY);show tL! [] JG4 (Ib! (Ge! (RR b o (JF b o e hb) hb))) (Mu! (JHJ wt.BX)) ((KW h5.symm)) ((KW h3.symm)) (BW (KW h3)) (mo! h6) (b9! wg) (b9! st) GP! A! KB R! (CU! ((wt.has ht).imp id λe=>b1! JG8)) eY! (by change 0*_<=1;lia) wt.cost (λ_ c e=>hR r [] [] _ q G G' _ hi (Am! (CB! hp wt)) c e Ab)
def Jxa(x:SB)(hn:Ae!)(hB:Bx!)(el:WY!)(es:Lp! JNP)(p1:W0!)(p2:rT! (.lt s g ts))(p3:W1!)(cA:Ws!)(cB:Wr!)(k:D3!)(hR:∀y L W' H' q G hs os rs,JOu lu! J2! (W'.qs=ic! PE! az!) (Ah!++sM! DI! ⟨EJ!,g,r.1.1,W!,r.2⟩)):rK!:=by
 show Ak?;have ew:LP al=LP CE!:=by rw[es,Da,Da];rfl
 show GL? (x.lt s g ts (lc! ZL!));show JP?;show Jw?;have⟨sd,nu⟩:=I9! SZ;have hN:Bb! PE!=g:=N4!;show Fd?
 have p2:qN! BQ:=p2;have⟨a0,as0,et,_⟩:=id p2;show Ig? Kc!;show D6?;show AG? (Tx! Fa!);show KP?;have⟨wg,st,sQ⟩:=x.wg.JA3 SZ sF fD (KE hN ht) JA!;rw[hN,ew] at wg st;have zb:(Bo (Av G ts) rs).length<=60:=by have h1:(Bo (Av G ts) rs).length<=cH! (λq=>! Lk!):=RC!;have h2:=BC (λq:T2×Int=>! Lk!) rs;have h3:=KO.pr.length_eq;have h4:=sd.ok.rz;lia
 show⟨p,t,_,BQ,s,g,ts,q,G,n,rs,A!,W1,pr!,i,sd.ok,ZI! hn,Ay! (sd.ip t (S! ht)).1,λz hz t ht=>(sd.ip t (d! (Ud! ht))).1,JA!,KO.wr,sQ,zb,aD,λy L H2 W2 bk RR jN jM ey=>?_⟩;show x.got (G':=az!) i es p1 p3 W2 JF4 (Mu! (lY! Vu)) iR! GP! T9! pj! wg (JBl st) (by change W.c<=W.c+_;lia) (by unfold nums;show Eo?;show bk.BQ) (by show Eo?) (Dz bk.OW) (λ_ _=>Bj!) (CU! (S! (Jtp ht))) (λl h=>x.ma.has _ q G SZ _ (Jcb (G4!) JA! (Ai! (Tc! (Tc! hz))) l h)) (ZG 1) (by rw[Sw (G4!)];have:=Jhu (X:=Av G ts) JA!;change _+(HZ DI!).AK.length+1<=1+_;have e:vA! (Av G ts).AK.length:=rfl;lia) cA cB k _ λ_ c e=>hR _ _ _ _ _ _ hs os rs SZ KO c e ey
open E
def Jp2:∀{l:EN! (T2×α)},cd!->∀{a b:T2×α},a∈l->b∈l->es!->a=b
 | [],_,a,b,ha,_,_=>JCo
 | c::l,nd,a,b,ha,hb,e=>by rw[AI] at nd;show HJ?;rcases ZM ha with ha|ha;(.show G0?;(.rw[ha,hb]);.show EC? ⟨b,hb,QV! e ha⟩ n1);.show G0?;(.show GO! A5! ⟨a,ha,mV! hb⟩ n1);.show Jp2 n2 ha hb e
open S
variable {G:CN}{hs:List T2}{os:List (T2×Int×List T2)}{rs:List (T2×Int)}{n:Nat}
def Told.rF(t:J2!)(ok:AR!):uU G NQ!:=by
 have kn:mG!:=yg ok;show⟨G7! (t.pm.mem_iff.mpr hu),Nb!,Ex! JC5,λr hr q hq e u hu=>?_,λu=>?_,G7! (t.pm.mem_iff.mp hu),λr hr u hu=>?_⟩;.have⟨r,hr,e⟩:=ZN (t.PL.pm.mem_iff.mpr hu);show⟨r,hr,e⟩
 .show t.PL.pm.mem_iff.mp (A5! (CB! r hr))
 .unfold Aj;rw[(hH! r hr).1];rfl
 .show GM? (hH! r hr);show hE! ?_;have f2:=F' f;have m2:=BI f;(have:q=(W!,a,hl):=by have h1:H!=(W!,a,hl).1:=e;show Jp2 kn hq m2 h1);rw[this] at hu;show hu
 .have nd:ce!:=(t.pr.map _).nodup_iff.mpr ok.rn;change Mo u rs=_;rw[Je7 nd,Vp t.pr ok.rn]
 .show GM? (hH! r hr);unfold EM;rw[f];show Md! hu
def Told.sH(t:J2!)(ok:AR!)(hn:n<=60)(ob:kY! (0<=AX!)):pF G.BQ NQ!/\∀w9∈os,w9.1.2<G.AY:=by
 have h1:=t.pm.length_eq;have h2:=t.pr.length_eq;have z1:=ok.hz;have z2:=ok.rz;have key:∀w9∈os,w9.1∈Mo!:=λw9 hw=>NK! t.PL.pm.mem_iff.mp (CB! w9 hw);show⟨⟨?_,Mz! (hs.length<=60) (AA (AA (BM h1) z1) hn),Mz! (rs.length<=60) (AA (AA (BM h2) z2) hn),λw9 hw=>Hy! (YN! w9.1 (FM w9 hw)).1 (ob _ (FM w9 hw))⟩,λw9 hw=>(YN! w9.1 (FM w9 hw)).2⟩;.show t.PL.pm.nodup_iff.mpr ok.on
 .show GM? (hH! w9 hw);have:=(O6! _ (BI f)).2;show Br?;(have e:hl.length<=n:=by assumption);lia
def Told.tells(t:J2!)(ok:AR!)(hn:n<=60):Tells G hs os rs:=by have z1:=ok.hz;have z2:=ok.rz;have z3:=ok.oz;show⟨Rd! z1,Rd! z3,Rd! z2,t.pm,t.pw,t.PL,t.pr,t.wr⟩
open E
def Jky(kn:∀z∈al,Kn ns z)(h:n∉ns)(u:Int):Lj!=[]/\JGc:=by
 show⟨IH.mpr JQ!,IH.mpr JQ!⟩;.have k:=Gk! kn;cases z with | ask s g n' u'=>show AD λz=>mY! z.1 k.1 | w l=>rfl | MY s g n' u' tk S=>rfl | lt s g ts=>rfl
 .have k:=Gk! kn;cases z with | MY s g n' u' tk S=>show AD λz=>mY! z.1 k.1 | w l=>rfl | ask s g n' u'=>rfl | lt s g ts=>rfl
open S
def TJ.JBd(x:OD!)(hu:u=1\/u=2)(h:g∈Lj!):FX!/\g<m:=by
 show C6? hu;.show SH.mp (x.t1.mem_iff.mp (DK! (DK! h)))
 .rcases x.t2 with⟨_,e,_⟩|⟨_,pm⟩;(.show Ah?);.show SH.mp (Md! (DK! (DK! h)))
open E
def Wg.up(x:Cc!):Wg D m He! sh qs ls:=⟨x.wl.up,x.sD,x.rc⟩
open S
def PB.same{qs:cr}{ys EC:GM}(x:JPz qs)(h0:A'=0\/Ez 0 al+Mp m ys+A'<=Ez 0 xL+Mp m EC+A)(h1:Ez 1 xL+Mp m EC+B<=Ez 1 al+Mp m ys+B'):PB m A' B' qs xL EC:=by have⟨x1,x2⟩:=x;unfold PB n9 at *;show⟨?_,X!⟩;rcases h0 with h0|h0<;>lia
def Ja6(w9 m:Nat)(g n u:Int):Ez w9 JPg=m*JN6:=by
 unfold Ez Dr;rw[AX];have h:∀l:Bh!,kO! (λ_=>JNK)=l.length*JN6:=λl=>by induction l with | nil=>rw[BR,Nat.zero_mul];rfl | cons _ l ih=>rw[AI,DL,ih,BJ,Nat.succ_mul,Nat.add_comm]
 show(h (At! m)).trans (by rw[DT])
def On(m:Nat)(a b:GM):Mp m (Ah!)=Mp m a+Mp m b:=by unfold Mp;rw[ZF,OQ]
def Jq0(x:SB)(hn:Ae!)(hB:Bx!)(hd:Nf!)(el:WY!)(es:Lp! (PH! s g n' u))(p1:W0!)(p2:rT! sh!)(p3:W1!)(cA:Ws!)(cB:Wr!)(k:D3!)(hR:∀y L W' H' q G hs os rs,JOu lu! J2! TH! (Ah!++[rZ!])):rK!:=by
 show Ak?;have z4:=x.ez;have hz:PH! s g n' u∈al:=LB! es
 have⟨k1,ku⟩:=x.kn _ hz;have⟨y0,br,oq⟩:=ZN k1;have mg:g∈Cu al n' u:=List.mem_filterMap.mpr (BM! hz (AE Bj!));have⟨g0,g1⟩:=(x.iv y0 br).JBd ku (KE oq mg);show JP?;show Jw?;have⟨sd,nu⟩:=I9! SZ;have hN:Bb! PE!=g:=N4!;show Fd?
 have p2:SF H t BQ AM! s g n' u:=p2;have⟨a0,et,_⟩:=id p2;show Ig? AM!;show D6?;show BX? Fa!;show KP?;show⟨p,t,_,BQ,s,g,n',u,q,G,hs,os,rs,A!,W1,pr!,i,KO.tells sd.ok (CF hn),aD,m5! (Yn! 900) AA z4 A_ hd,λe he=>by have:=x.ec e he;change e.1≠Dl!;lia,λy t1 e xs H2 W2 al2 he st RR eyl _ _=>?_⟩;have wf:JC7:=Ib! (LH! RR (JF b o e hb));show Je?;have ew:LP (Ah!++[rZ!])=LP al:=by rw[es,Da,Da,Da];change _++_++[]=_;rw[AM];rfl
 have mo:∀{L:j!} {c:l!},vv! L c->JQV Ps! c:=λpp=>Ax (λ_ _ r=>(Yb! kt).more λe he=>Cs! he) pp;have dE:∀z∈Ah!++[LL.MY g s n' u Ie! NQ!],Yr!\/z=LL.MY g s n' u Ie! NQ!:=Ai! (by show j? hz;(.show KR?);.show d! (ZK h))
 have⟨sH,nw⟩:=KO.sH sd.ok (CF hn) (x.ob _ _ _ hi);rw[nu,hN] at sH;show Bv?;have a3:=x.fz;show Bw?;show k aZ! (JT6 (KX!++iK!)) D (Ah!++[rZ!]) ys H2 (hR y iK! (JT6 (KX!++iK!)) _ q G hs os rs hi KO (Py! (Nv.one A! A! A!)) A! eyl) (JDc JFp) (JRN W2 x.wg.up ?_ ?_ ?_ ?_ JNh (CC a4) EH! x.lZ BY! Mg! (Fs! (x.aw wf hy)) LR! x.ff) (pG wf) A!;.show Dm (Dm (mo p1) (mo p3)) (LJ! ⟨al2,e,xs,JCc,he,st⟩)
 .change Np! Ps!;rw[ZF];show H9? Ik! sK;have⟨w9,hw,ew⟩:=ZN hu;have:=x.ec w9 hw;have hv:v=Dl!:=ZK hv;lia
 .intro w9 hw;have hw:w9∈Ps!:=hw;change w9.1<=Dl!;rcases ZI hw with hw|hw;(.have:=x.ec w9 hw;show BW this);.rw[ZK hw];show GJ!
 .change(Ps!).length<=d+1;rw[ZE];change W.GQ.length+1<=d+1;show EV z4
 .have e0:=Wy! 0 sh!;have e1:=Wy! 1 sh!;rw[<-es] at e0 e1;(have pa:∀w9,d_ w9 sh!=Ez w9 [rZ!]+1:=λw9=>by change JN6=H4! (u=1) 4 2+0+1;split<;>rfl);rw[pa] at e0 e1;show x.pb.same ?_ ?_;(.rw[Dp];lia);.rw[Dp];lia
 .rw[ew];show(x.iv y hy).asked es g0 hi A! (KO.rF sd.ok) sH nw
 .rcases Gk! dE with h|rfl;(.show x.kn z h);.show⟨k1,ku⟩
 .show C? (dE _ hz);(.rw[ew];show qH!);.cases h
def WI.k_(x:SB):Yq! (1<=y.n/\y.n<=AF! Xt!):=Fs! (by have:y.n∈BS! I7!:=ih! y hy;show N? x.lZ;have⟨j,hj,e⟩:=ZN this;have:=Ck! hj;lia)
def Jxb(x:SB)(hn:Ae!)(hB:Bx!)(hd:Nf!)(i:CX!)(cA:A'<=A+5*m)(cB:B+5*m<=B')(k:D3!)(hR:∀W' L H' io I,JGh->vI!->TH!->R (V! yC!) W' (JI8) (ys++[JQ6]) H'):V5! vD:=by
 show Ak?;show Bv?;have a2:=x.ez;have a3:=x.fz;show Bw?;have a5:=x.m5;have cY:hI!:=x.wg.wl.len;have mG:W.OJ.length=ys.length:=jp EH! ZA
 have iW:Po!∉BS! I7!:=λz=>by have⟨y,hy,e⟩:=ZN z;have:=x.k_ y hy;show AJ! (KW Bn!) (IY! this.2)
 show⟨p,h,W,q,G,A!,Az!,i,cY▸a5,z3,X!,YG! ?_,λio I L H1 W1 jy cp g8 GB im is wx ic wf=>?_⟩;.rw[mG] at e;rw[EH!] at hl;have⟨y,hy,e2⟩:=ZN hl;rw[<-e2] at e;show iW (A5! ⟨y,hy,e⟩)
 rw[cY] at jy;rw[mG] at W1 jy;show Je?;have ew:LP (JI8)=LP al:=Cy! Da Jli AM
 let y1:Qy:=JQ6;have dE:∀z∈JI8,Yr!\/∃g,z=PH! h g yC! 1:=Ai! (by show j? hz;(.show J?);.have⟨j,_,e⟩:=ZN h;show v5! Bn!)
 have atY:US H1 m y1:=⟨cp,by change I.m=_;rw[im,cY],wx,ic,by change Dm! _ I.ss [];rw[is];show R!⟩;have ndY:H3! C9 y1:=by have⟨dx,e⟩:=cp.ob;(have n1:io≠I.sd:=OH! cp.s);(have n2:io≠I.fd:=OH! cp.f);(have n3:io≠I.cd:=OH! cp.c);change [io,I.sd,I.fd,I.cd].Nodup;simp[n1,n2,n3,cp.sf,cp.sc,cp.fc]
 show k _ (JLM (W.OJ++[(Po!,io)])) D (al++JUL h) (ys++[y1]) H1 (KE mG (hR (JLM (W.OJ++[(Po!,io)])) L _ io I (JEK (JEh jy.len jy.BQ) (JJL jy.len)) jy.len A!)) (JDc (by rw[DG] at h;show CB?;(.show CU?);.show AV? (GB b (HM.mp U1!)))) (JRN W1 x.wg.up ?_ Ik! Na! (by change Yn! (d+1);show CC a2) JNh ?_ ?_ ?_ ?_ LR! LR! LR! Na!) (pG wf) A!;.show Dm (Ed x.lw kt) (JIu (PH! h sB (Po!) 1) JM5 jy.OW)
 .have:=x.ec e he;change e.1<=ZP!;lia
 ·(have q0:Mp m [y1]=0:=by change Gk m y1+0=0;unfold Gk;have:(y1.fi.length:No)=0:=rfl;split<;>(try split)<;>simp_all [y1]);have q1:∀w9,Ez w9 (Dr m h yC! 1)=m*5:=λw9=>Ja6 w9 m h _ 1;show x.pb.same (d! ?_) ?_;(.rw[Dp,On,q0,q1];lia);.rw[Dp,On,q0,q1];lia
 .rw[ZE];change ys.length+1<=n+1;show EV a4
 .change W.OJ++_=_;rw[EH!,ZF];rfl
 .rw[ZF,ZE,x.lZ];change _++[Po!]=(At! (ys.length+1)).map _;rw[GW,ZF];rfl
 .rw[DG];show H9? BY! (by simpa using ndY);show DE? (EN.mp hu);show Gv?;(have hv:v∈C9 y1:=by simpa using hv);have:=GB v (HM.mp hv);rw[<-z,e] at this;cases this
 .show Gr? hy;(.show Mg! y hy);.rw[ZK hy];show ut (g8 b (HM.mp hb))
 .show Gr? hy;(.show x.aw wf hy);.rw[ZK hy];show atY
 .show Gr? hy;(.have ne:¬Po!=y.n:=λz=>iW (A5! ⟨y,hy,Fx!⟩);show(x.iv y hy).kR (λu=>?_) (λu=>?_) (JBl (OB.refl _ _));(.rw[B4,Iz,AD (λz=>ne z.1),AM]);.rw[Bx,Ml,AM]);.rw[ZK hy];show Qae x.m1 (λu=>(Jky x.kn iW u).1) (λu=>(Jky x.kn iW u).2) h
 .rcases Gk! dE with h|⟨g,rfl⟩;(.have kz:=x.kn z h;rw[ZF];cases z with | w l=>trivial | ask s g n' u=>show⟨Cs! kz.1,kz.2⟩ | MY s g n' u tk S=>show⟨Cs! kz.1,kz.2⟩ | lt s g ts=>trivial);.show⟨ih! y1 JCc,Q6!⟩
 .have⟨y,hy,e1,e2⟩:=x.ff e he;show⟨y,Cs! hy,e1,e2⟩
 .rcases dE _ hz with h|⟨_,h⟩;(.rw[ew];show qH!);.cases h
open E
def Jio{as:Q!}{bs:C1!}(h:∀a∈as,∀b,R a b->S a b)(p:rF!):Dm! S as bs:=by revert h;induction p with | nil=>show λ_=>R! | cons r _ ih=>show λh=>SC (h _ Hp! _ r) (ih (Oz! (h a (AH! ha))))
open S
variable {p:Addr}{H H2:Hp}{W:ET}{D D':T2->Prop}{m n:Nat}{al a b new:List LL}{ys i1 i2:List Qy}{y y':Qy}
def Jqt(ey:ew!)(nd:H3! vL! C9):∀z,(z∈i1\/z∈i2)->∀b∈C9 z,b∉C9 y:=λz hz b hb xZ=>by rw[ey,DG,DI] at nd;have⟨_,n2,n3⟩:=Cm! nd;rcases hz with hz|hz;(.show Wx! n3 (Sx! (Ud! hb)) (DK! xZ));.show Wx! (Cm! n2).2.2 xZ (Sx! (Ud! hb))
def zq(ey:ew!)(nd:H3! BS! I7!):∀z,(z∈i1\/z∈i2)->z.n≠y.n:=λz hz e=>by rw[ey,ZF,AI] at nd;have⟨_,n2,n3⟩:=Cm! nd;rcases hz with hz|hz;(.show n3 z.n (A5! JL1) y.n (CT!) e);.show NK! (IW! n2).1 (Ud! e)
def WI.lN(x:SB):H3! BS! I7!:=by rw[x.lZ];unfold List.Nodup;rw[EW];show r1! X!
def WI.answer(x:SB){BQ s g u tick:Int}{S:HS}{t e:Addr}{l1 l2 L e1 e2 eY:j!}{c':Int}(el:WY!)(es:Lp! (.MY s g y.n u Cp! S))(p1:W0!)(p3:W1!)(ey:ew!)(ee:W.GQ=e1++(BQ,e)::e2)(W2:QL! { W with c:=c',ls:=KX!++L,GQ:=EL!,JC:=eY })(fr:pf!)(en:y'.n=y.n)(eo:y'.io=y.io)(qf:C9 y'=C9 y)(at2:US H2 m y')(hc:W.c<=c')(hw:Wg D' m n B6! BC! LK!)(hD:∀t,D t->D' t)(lw:JQV EL! new)(pn:∀w9,qJ! (Ez w9 new) (d_ w9 (.MY s g y.n u Cp! S)))(cA:Ws!)(cB:Wr!)(sR:LP new=[])(nkn:∀z∈new,Kn (BS! I7!) z)(nas:∀k u,k≠y.n->Cu new k u=[])(nan:∀k u,Ci new k u=[])(nlt:∀s g ts,JNP∈new->FX!/\g<m/\∃F,SD BC! LK! F/\(∀t,F t->D' t)/\JKJ (lc=g))(iv':TJ m BC! LK! (bu!) y'.n y'.fi y'.se)(ff':∀e∈eY,e∈W.JC\/(e.1=y.n/\vO!))(fz':eY.length<=d+1)(se:y.se.length=m->vO!) : WI H2 p { W with c:=c',ls:=KX!++L,GQ:=EL!,JC:=eY } D' m He! (d+1) A' B' (bu!) (LT!)/\Qp p W ys H H2:=by
 have hy:y∈ys:=LB! ey
 have kt:DH H H2:=XY.FQ Az! (x.at_ y hy).at_ fr;have ew:LP (bu!)=LP al:=by rw[es,Da,Da,sR,Da,AM];rfl
 have em:∀{α:UF} (f:Qy->α),f y'=f y->(LT!).map f=BS! f:=λf ef=>by rw[ey,ZF,AI,ZF,AI,ef]
 have emn:=em I7! en;have lO:=x.wa.po.nd;rw[el,ZF,AI] at lO;have⟨_,nl2,nl3⟩:=Cm! lO;have iX:∀z∈l1,z.1≠BQ:=Ai! (nl3 z.1 (A5! JL1) BQ Hp!);have YH:∀z∈l2,z.1≠BQ:=λz hz q=>NK! (IW! nl2).1 (Ud! q);have mo:∀{L:j!} {c:l!},(∀z∈L,z.1≠BQ)->vv! L c->JQV EL! c:=λWB pp=>Jio (λz hz r hr=>(hr.keep kt).more λe' he'=>by rw[ee] at he';show j? he';(.show M4!);.show C? (ZM h);(.show I? (MP! h).1 (WB z hz));.show DJ! h) pp;have mid:∀z∈LT!,z=y'\/(z∈ys/\(z∈i1\/z∈i2)):=Ai! (by show j? hz;(.show AD? (U! ey M4!) M7!);.show C? (ZM h);(.show J?);.show AD? (U! ey (DJ! (AH! h))) (d! h))
 have qR:∀z∈bu!,Yr!\/z∈new:=Ai! (by show j? hz;(.show KR?);.show z?)
 have kI:(EL!).Sublist W.GQ:=U! ee (List.Sublist.append_left (AC! List.sublist_cons_self) _)
 show Bv?;have a2:=x.ez;show Bw?;have a5:=kI.length_le;have eqf:(LT!).flatMap C9=vL! C9:=by rw[ey,DG,DI,DG,DI,qf]
 show f? (JRN W2 hw.up (Dm (Dm (mo iX p1) (mo YH p3)) lw) (x.en.sublist (kI.map _)) (λe he=>CJ (x.ec e (kI.subset he)) hc) (by change(EL!).length<=d+1;show AA a5 (lz! a2)) fz' ?_ ?_ ?_ (U! eqf BY!) JQ! JQ! JQ! Na!);.have f0:=Wy! 0 (JRH y.n);have f1:=Wy! 1 (JRH y.n);rw[<-es] at f0 f1;have q0:=pn 0;have q1:=pn 1;(have qy:Mp m (LT!)+Gk m y=Mp m ys+Gk m y':=by rw[ey,On,On];change Mp m i1+(Gk m y'+Mp m i2)+Gk m y=Mp m i1+(Gk m y+Mp m i2)+Gk m y';lia);show x.pb.same ?_ ?_;(.rw[Dp];lia);.rw[Dp];lia
 ·(have:FQ! LT!=ys.length:=ah! ey);show AA (BM this) (lz! a4)
 .change W.OJ=_;rw[EH!];show(em (rz!) (Bi! en eo)).symm
 ·(have:FQ! LT!=ys.length:=ah! ey);rw[emn,x.lZ,this]
 .rcases Gk! mid with rfl|⟨h,_⟩;(.rw[qf];show Mg! y hy);.show Mg! z h
 .rcases Gk! mid with rfl|⟨h,h2⟩;(.show at2);.show(x.at_ z h).keep (λb o hb eb=>?_) kt;have nb:=Jqt ey BY! z h2 b hb;show fr b o eb (Mg! z h b hb) (ny! nb (Tx! q)) (λq=>nb (HM.mpr (cf! q))) (ny! nb (JCb q))
 .rcases Gk! mid with rfl|⟨h,h2⟩;(.rw[ew];show iv');.have ne:=zq ey x.lN z h2;show(x.iv z h).kR (λv=>?_) (λv=>?_) (JBl (OB.refl _ _));(.rw[B4,L! nas ne,AM,es,B4,B4,Gb];rfl);.rw[Bx,nan,AM,es,Bx,Bx,Eg];change _=WK! (y.n=z.n) (u=v) IL! _;rw[AD λq=>ne q.1.symm];rfl
 .rw[emn];show C? (Gk! qR);(.show x.kn z h);.show nkn z h
 .rcases ff' e he with h|⟨h1,h2⟩;(.have⟨z,hz,q1,q2⟩:=x.ff e h;rw[ey] at hz;show AE?;(.show⟨z,Cs! hz,q1,q2⟩);.show HC?;(.show⟨y',ZL!,U! en q1,se q2⟩);.show⟨z,DJ! (AH! hz),q1,q2⟩);.show⟨y',ZL!,U! en h1.symm,h2⟩
 .rw[ew];show C? (qR _ hz);(.show GL? qH!;show⟨g0,g1,F,sF,λt ft=>hD t (fD t ft),ht⟩);.show nlt s g ts h
 .intro b o eb h1 h2;have hq:b∉C9 y:=λq=>h2 (Sx! ⟨y,hy,q⟩);show fr b o eb h1 (ny! hq (Tx! q)) (λq=>hq (HM.mpr (cf! q))) (ny! hq (JCb q))
open E
def Vv{α:UF}{f:HS->Q!}{c:Nat}:∀{L:FY!},(∀S∈L,Ak! f S<=c)->Ee! Me! f (L.length*c)
 | [],_=>sK
 | S::L,h=>by have ih:=HJ! Vv f f c c L L eC!;have:=Go! S;rw[DI,ZE,BJ,Nat.succ_mul];lia
def Jkc:∀{ks:Bh!},ks.Nodup->(∀k∈ks,pF EX! (S k))->AT! (CP! (KM! S)).map
 | [],_,_=>by simp[rowsOf]
 | k::ks,nd,h=>by show HJ?;have ih:=Jkc (S:=S) n2 eC!;have so:=Go! k;(have e:CP! ((k::ks).map S)=(S k).2.1++CP! (KM! S):=by unfold rowsOf;rw[AI,DI]);rw[e,ZF];show H9? so.nd ih;have⟨r,hr,e1⟩:=ZN hu;have⟨r2,OU,e2⟩:=ZN hv;have⟨S2,hS,VM⟩:=PF.mp OU;have⟨k2,hk2,e3⟩:=ZN hS;have c1:=(so.oz r hr).1;subst e3;have c2:=((h k2 (AH! hk2)).oz r2 VM).1;(have:k=k2:=by rw[e1] at c1;rw[e2] at c2;rw[z] at c1;show TA! (Eq.trans c1.symm c2));rw[this] at n1;show n1 hk2
def Jts{ks:Bh!}{S:Lg!}{mx:No->No}{m:Nat}(nd:ks.Nodup)(kz:ks.length<=12)(km:∀k∈ks,k<m)(so:∀k∈ks,pF EX! (S k))(nw:∀k∈ks,∀w9∈(S k).2.1,w9.1.2<mx k)(sm:oi! mx<=60):K51F.aL (KM! S):=by
 have eE:=Jkc nd so;show⟨eE,?_,?_,Nc!,?_⟩;·(have:=Nk (U:=vh m mx) eE (Ay! (by show Hp?;have⟨S2,hS,OU⟩:=PF.mp hr;show DF? (ZN hS);subst e2;have⟨c1,c2,_⟩:=(so k hk).oz r OU;have c3:=nw k hk r OU;rw[e] at c1 c2 c3;show Sx! ⟨k,XT! (km k hk),A5! (Hy! t.2.toNat mp!)⟩;show On! c1.symm (by change Bb! t.2.toNat=AX!;show BO c2))));show w? Jrt ZA;show AA this sm
 ·(have:=HJ! Vv f (λS=>S.1) c 60 L (KM! S) (Ai! (by show DF? P8!;subst e2;show(so k hk).hz)));show BP?;have:ks.length*60<=12*60:=EJ 60 kz;lia
 .have⟨S2,hS,OU⟩:=PF.mp hr;show DF? (ZN hS);subst e2;show((so k hk).oz r OU).2.2
 ·(have:=HJ! Vv f (λS=>S.2.2) c 60 L (KM! S) (Ai! (by show DF? P8!;subst e2;show(so k hk).rz)));show BP?;have:ks.length*60<=12*60:=EJ 60 kz;lia
def ze{α:UF}{l:Q!}{k:α->Ch}{f:IH!}{n:Int}:JMx db rX!=(If! (To! (k r=n))).map f:=by
 unfold Ce;rw[P',gS!];congr 1;congr 1;funext r;change Fd! (Mr! (AV! (k r):Key) AV! n) (k r=n);by_cases e:k r=n;.rw[e];simp
 show IF? Sr!
def Jks{α:UF}{l:Q!}{k:α->Ch}{f:IH!}{r:α}(h:k r∉db k):JDH rX! (AV! (k r)) f r=(l++[r]).map rX!:=by
 have e:Ce (db rX!) (AV! (k r))=none:=by rw[ze];(have:If! (λz=>Zh! k z k r)=none:=UK! (Ai! (by have:k z≠k r:=λe=>Li! h (BL hz);show Y?)));rw[this];rfl
 rw[Ib _ e,ZF];rfl
def Jqr{se:U4!}{h:Int}(m:h∈Q2!):∃r∈se,W!=h/\k9! se.find? (W!=h)=D! r:=by cases e:se.find? (To! (W!=h)) with | none =>have⟨r0,YT,e0⟩:=Gg!;show JG?;simp[e0] at this | some r=>show⟨r,BI e,dM!,A!⟩
def Jvm{ss:Bz!}{fi:IJ!}(p:JO9){h:Int}{r:kM!}(e:k9! TC! (W!=h)=D! r):∃a,Ce ss (AV! h)=D! Bf!/\UP! a Bd!:=by induction p with | nil=>simp at e | @cons kv r0 ss fi q pp ih =>have⟨a,ea,st⟩:=q;subst ea;unfold Ce;rw[CU] at e ⊢;show D? (r0.1=h);(.rw[AR c] at e;have e:r0=r:=ZO e;rw[show y! (Mr! (Zy! r0.1) AV! h) by rw[c];simp];show⟨a,A!,A0! e st⟩);.rw[AL c] at e;rw[AL (Fr! (¬Zy! r0.1=AV! h) (GN! c Sr!))];show ih e
def Jrz{ss:Bz!}{fi:IJ!}(p:JO9):Mn! ss.map Yl! (λr=>JS2) :=(yz (by rintro kv r ⟨a,e,_⟩;rw[e]) p).symm
def Jvn(pp:JO9)(h:zt!)(v:V):EA! ss (AV! s) v=ss++[(AV! s,v)]:=by show Ib _ ?_;unfold Ce;rw[Sl! λkv hkv=>?_];rfl;have:kv.1∈ci ss.map:=BL hkv;show N? (Jrz pp);show DT? this;have ne:¬kv.1=AV! s:=λz=>h (by rw[z] at e;rw[<-Sr! e];show BL hr);simpa using ne
def Su{m:Nat}{fi:IJ!}(pm:JIA){h:Nat}(hh:h<m):∃r∈fi,vu!/\TC! (N0!)=D! r/\V8!=CD!/\M8 fi h=Bd!:=by have m1:ii∈ci Yl!:=hE! (SH.mpr JPU);have⟨r0,YT,e0⟩:=ZN m1;cases e:TC! N0! with | none =>show JG?;simp[e0] at this | some r =>show⟨r,BI e,dM!,A!,?_,?_⟩;(.unfold Jb;rw[e];rfl);.unfold M8;rw[e];rfl
abbrev Q8(m:Nat)(g:Int)(ts:G!):l!:=cg! m (λi:Nat=>.lt g sB (O5! ma!))
def Jbf:Cu JPb n u=[]:=JPt
def Jbg:Ci JPb n u=[]:=JPt
def Jte:LP (Q8 m g ts)=[]:=JPt
def Jpc{l:At}{m:Nat}(pm:l.Perm (rg m)):(l.map hJ!).Perm (At! m):=by
 have:=pm.map hJ!;have e:(rg m).map hJ!=At! m:=by unfold rg;rw[AX];(have:((λx:Int=>x.toNat) ∘ zs!)=id:=by funext k;simp);rw[this,List.map_id]
 show CJ?;show this
open S
def Jl6(w9 m:Nat)(g:Int)(ts:G!):Ez w9 JPb=m:=by
 unfold Ez Q8;rw[AX];have h:∀l:Bh!,kO! (λ_=>1)=l.length:=λl=>by induction l with | nil=>rfl | cons _ l ih=>rw[AI,DL,ih,BJ,Nat.add_comm]
 show(h (At! m)).trans DT
def J1n{y y':Qy}(h:y'.fi.length=jK!)(l:jK!<m):qJ! 0 4:=by unfold Gk;rw[AE (by show h▸l),AE (by show CF l)];lia
def J1m{y y':Qy}(h:vP!)(hs:y'.se.length=0)(m1:1<=m)(e:zC!):qJ! (m*3) 4:=by unfold Gk;rw[x2! h.symm,AE (by show hs▸m1),AE (by show(BM e)),hs];lia
def J1l{y y':Qy}(h:vP!)(h2:y.fi.length=m)(hs:y'.se.length=Qw!)(l:Qw!<m):qJ! 0 2:=by unfold Gk;rw[x2! h.symm,AE (by show hs▸l),x2! h2.symm,AE (by show CF l)];lia
def J1k{y y':Qy}(h:vP!)(h2:y.fi.length=m)(hs:vO!)(l:Qw!=m):m+Gk m y'+1=2+Gk m y:=by unfold Gk;rw[JHk (l▸h.symm),JHk (l▸hs.symm),JHk (l▸h2.symm),AE (by show(BM l))];lia
inductive uF(m:Nat)(W W':ET)(a b al':l!)(ys EC:GM)(H':Hp)(s g n u tick:Int)(S:HS):B!
 | mk (y y':Qy) (i1 i2:GM) (new:l!) (e1:ew!) (e2:EC=LT!) (e3:y.n=n) (e4:y'.n=n) (e5:al'=bu!) (e6:(u=1/\y'.se=y.se/\y'.fi=i0!/\TG!/\((new=[]/\jK!≠m)\/(new=Dr m g n 2/\zC!)))\/(u=2/\y'.fi=y.fi/\y'.se=P1!/\((new=[]/\Qw!≠m/\TG!)\/(Qw!=m/\NM λ(ts:List T2)(xf:Addr)(as:List Addr)=>new=Q8 m g ts/\W'.JC=Qd!/\JMC/\Wb!/\∃cf:IG!,(∀h:No,h<m->∃r∈y'.se,j3! (r.2=cf h))/\PG! (Lb m (kN!) pN!) ts))))
def Jm9(x:SB)(hn:Ae!)(hB:Bx!)(hd:Nf!){BQ:Int}{l1 l2:j!}{t:Addr}{s g n' u tick:Int}{S:HS}(el:WY!)(es:Lp! (LL.MY s g n' u Cp! S))(p1:W0!)(p2:rT! (JRH n'))(p3:W1!)(cA:Ws!)(cB:Wr!)(k:D3!)(hR:∀v L W' al' EC H',TH!->Nv W W' iS! L->GL! v xT!->tM! H' n'->R lL! W' xL EC H'):rK!:=by
 show Ak?;have z5:=x.fz;have cY:hI!:=x.wg.wl.len;show Bx?;have hz:LL.MY s g n' u Cp! S∈al:=LB! es
 have⟨k1,ku⟩:=x.kn _ hz;have⟨y,hy,oq⟩:=ZN k1;have oq:y.n=n':=oq;subst oq;have⟨i1,i2,ey⟩:=IB hy;have⟨pA,e,xs,me,he,st⟩:=p2;have⟨e1,e2,ee⟩:=IB me;have pA:SF H t BQ F5! s g y.n u:=pA;have iv:=x.iv y hy;have VY:=x.at_ y hy;have lf:y.fi.length<=m:=by have:=iv.t1.length_eq;rw[ZE,ZE,ZA,ZA,Nd] at this;show AA Nm! nh!
 have lse:y.se.length<=m:=by rcases iv.t2 with⟨_,_,_,e⟩|⟨_,pm⟩;(.rw[e];show Bu!);.show Br?;rw[ZE,ZE,ZA,ZA,Nd] at this;show AA Nm! nh!
 have lfs:y.I.fs.length=y.fi.length:=jp VY.fs ZA
 have lcs:y.I.cs.length=y.se.length:=jp VY.cs ZA
 have lss:y.I.ss.length=y.fi.length:=AD! VY.ss;show Fd?
 have⟨a0,et,_⟩:=id pA;show Ig? F5!;show D6?;have cp:=x.aw JF hy;have vi:JP2 y.n y.io:=by (have e1:W.OJ=(i1.map rz!)++(y.n,y.io)::i2.map rz!:=by rw[EH!,ey,ZF,AI]);(have nd:AT! W.OJ.map:=Dq! EH! AX x.lN);rw[e1] at nd ⊢;show(Jk6 nd).1
 show AG? (Am! Fa!);show⟨p,t,_,BQ,s,g,y.n,u,e1,e2,e,xs,Cp!,y.io,y.I,A!,W1,pA.keep RS,ee,Ik!,UN! he,vi,cp.at_,ut (Mg! y hy b (HM.mpr hb)),JMo lfs lf,JMo lss lf,JMo lcs lse,Mz! br! (cY▸m5),aD,?_⟩;have tR:∀{H2:Hp},XY p W y.I H1 H2->pf!:=λfr b o eb hb n1 n2 n3=>fr b o nk! hb n1 n2 n3;show C6? ku;· have⟨lt,sn,ivA,ivB⟩:=HJ! iv.first D D N n sh B6! es;(have ef:JSw=(i0!).map (rW! CD!):=U! VY.fs (HJ! Jks k (λr:Int×Int×HS=>W!) f (kT! CD!) r IL! sn));(have lef:jB! y.I.fs=AF! y.fi.length+1:=by rw[ef,ZA,ZE];rfl);(have o_:∀{H2:Hp},pf!->PK! H2 y.io { y.I with ss:=w2! y.I.ss,fs:=JSw }->US H2 m qp!:=λfr at2=>by have kt:=XY.FQ Az! VY.at_ fr;show⟨at2,TI!,ef,VY.cs,?_⟩;change Dm! _ (EA! y.I.ss (S! s) (IN xs)) _;rw[Jvn VY.ss sn];show Dm (Ax (Sv! (by show GK?;show⟨a,e,s.keep kt⟩)) VY.ss) (LJ! (FM! xs (st.keep kt))));show S! (JS! (λne v H2 W2 at2 QU jo=>?_) (λeq v L H2 W2 aY at2 QU jo=>?_));(.have ne':jK!≠m:=λz=>ne (Dq! lef TI! (Gz! Int.ofNat z));have fr:=tR QU;(have jz:QL! qq!:=JLY);have⟨wi,vf⟩:=JRM [] qp! GP! R! (J1n (by change FQ! i0!=_;rw[ZE];rfl) (LU lt ne')) A! (ko!) wk! bI! (λ_ _ _ hz=>GG! hz) (ac! AM ivA ne') (λh=>h);show k _ _ D _ _ H2 ?_ ?_ wi vf A!;(.show tC! [] qq! (Nv.zero (AM _) A! A!) [] (GE (JOz (lX! ne'))));.show FO?);·(have VN:zC!:=by rw[lef,TI!] at eq;show TA! eq);(have se0:y.se=[]:=by rcases iv.t2 with⟨_,_,_,e⟩|⟨e,_⟩;(.show e);.lia);have fr:=tR QU;(have aY:PY H2 W.c g y.n 2 L m:=A0! cY aY);have jz:QL! JOe:=W2;show(λ(A:_/\_)=>k lL! JOe D (Ah!++Dr m g y.n 2) (i1++qp!::i2) H2 (tC! L JOe ⟨A!,JEh aY.len aY.BQ,JJL aY.len,A!⟩ _ (GE (JOz (JBs VN)))) (by show FO?) A.1 A.2 A!) (JRM (Dr m g y.n 2) qp! i! (JIu (PH! g sB y.n 2) (MT H2 (EL!)) aY.OW) (U! Ja6 (J1m (by change FQ! i0!=m;rw[ZE];show VN) (by change y.se.length=0;rw[se0];rfl) x.m1 VN)) Jli j2! (λk u ne=>jp Iz (AD λz=>ne z.1.symm)) (λ_ _=>Ml) (vM! ?_) (ivB VN x.wg g) (λh=>h));(.show HK?;rw[<-ez];show⟨ih! y hy,o! A!⟩);.show HK?;cases ez
 · have⟨fl,lt,sn,s_⟩:=iv.second es;have pf:=(iv.whole fl).2.2;(have ec:JSx=(P1!).map (rW! r.2):=U! VY.cs (HJ! Jks k (λr:Int×Int=>W!) f (kT! r.2) r (s,Cp!) sn));(have lec:jB! y.I.cs=AF! y.se.length+1:=by rw[ec,ZA,ZE];rfl);(have kS:FQ! P1!=Qw!:=Ds! ZE);(have o_:∀{H2:Hp},pf!->PK! H2 y.io { y.I with cs:=JSx }->US H2 m qr!:=λfr at2=>by have kt:=XY.FQ Az! VY.at_ fr;show⟨at2,TI!,VY.fs,ec,Ax (Sv! (by show GK?;show⟨a,e,s.keep kt⟩)) VY.ss⟩);show d! ⟨wP,λne v H2 W2 at2 QU jo=>?_,λeq=>?_⟩;(.have ne':Qw!≠m:=λz=>ne (Dq! lec TI! (Gz! Int.ofNat (fl▸z)));have fr:=tR QU;(have jz:QL! qq!:=JLY);have⟨wi,vf⟩:=JRM [] qr! GP! R! (J1l fl fl kS i!) A! (ko!) wk! bI! (λ_ _ _ hz=>GG! hz) (b9! s_) (λh=>X!);show k _ _ D _ _ H2 ?_ ?_ wi vf A!;(.show tC! [] qq! (Nv.zero (AM _) A! A!) [] (o! (ag! A! (GE (ak! ne')))));.show FO?);·(have VN:FQ! P1!=m:=by rw[lec,TI!] at eq;lia);(have ps:JTf (P1!).map:=by rcases s_.t2 with⟨h,_⟩|⟨_,pm⟩;(.show At? (qw! fl.symm));.have l:=pm.length_eq;rw[ZE,ZE,ZA,ZA,Nd] at l;have q1:Cu (Ah!) y.n 2=[]:=Vo!;have q2:Ci (Ah!) y.n 2=[]:=Vo!;rw[q1,q2] at pm;show pm);(have o9:∀h:No,∃ah:Addr,h<m->Ce y.I.ss (S! ii)=D! (IN ah)/\XX K H1 ah (M8 I6! h):=λh=>by by_cases hh:h<m;(.have⟨r,_,_,ef,_,es2⟩:=Su pf hh;have⟨ah,va,sa⟩:=Jvm cp.ss ef;show⟨ah,λ_=>xA! va es2 sa⟩);.show⟨e,λz=>AJ! z hh⟩);let cf:IG!:=λh=>((JI7 N0!).map CI!).getD 0;(have xY:∀h:No,h<m->∃r∈P1!,vu!/\JI7 (N0!)=D! r/\r.2=cf h:=λh hh=>by have⟨r,hr,er,ef⟩:=Cd! Jqr se P1! h ii (ps.mem_iff.mpr (SH.mpr JPU));show⟨r,hr,er,ef,by change r.2=(((JI7 N0!).map CI!).getD 0);rw[ef];rfl⟩);(have sF:=s_.done fl (c:=cf) λh hh=>by have⟨r,hr,er,_,ev⟩:=xY h hh;show⟨r,hr,er,ev⟩);(have eL:K51F.IM (K51F.OC m (Jb I6!) cf (λh=>JM8) pN!)=JQN JTE I6!:=by change Yo! _ (AC! Yo!)=_;rw[AX];rfl);(have JBX:JJB (K51F.OC m (Jb I6!) cf (λh=>JM8) pN!):=by rw[eL];have YR:∀k∈yY! (kN!),k<m:=λk hk=>jy! Ck! hk;(have nn:∀q∈W.qs,0<=LS!:=AN! (by have⟨j,hj⟩:=G_.mp hq;show(Cd! I9! q H! G PP hj).1.m0));show Jts (mx:=λk=>qf! BC! k) (m:=m) (List.nodup_range.filter _) ?_ YR (bh!) (λk hk w9 hw=>?_) ?_;(.have:=BC (kN!) (At! m);show N? DT;show AA this m5);(.have⟨r,hr,er,_,_,e4⟩:=Su pf (YR k hk);have:=(iv.f1 r hr).so;rw[er,<-e4] at this;show this);(.have⟨r,hr,er,_,_,e4⟩:=Su pf (YR k hk);have⟨⟨q,G⟩,hi⟩:=Mm! BC! k (by have:=YR k hk;lia);rw[e4] at hw;have h1:=(iv.f1 r hr).nw k q G hi er w9 hw;(have h2:eI BC! k=G.AY:=by unfold eI;rw[hi];rfl);have h3:=(I9! hi).1.m0;change w9.1.2<Bb! (qf! BC! k);rw[h2];lia);.have h1:=Vc nn;have h2:=x.md;rw[cY] at h1;lia);show⟨m,Jb I6!,cf,λh=>JM8,M8 I6!,CW! m5,⟨Hy! (mM! y.fi.map hJ!) (Jpc pf),bh!,bh!,λk hk=>((Classical.choose_spec (o9 k)) hk).1⟩,λk hk=>((Classical.choose_spec (o9 k)) hk).2,JBX,m5! zw! AA z5 A_ hd,λe he z=>?_,λv xf as ts L H2 fo W2 aY YY th at2 QU jo=>?_⟩;(.change ci y.I.fs.map=_;rw[VY.fs,AX,AX,AX];show DF Nc!;have:=SH.mp (pf.mem_iff.mp (A5! (CB! r hr)));change JS2=AV! (Bb! r.1.toNat);rw[BO St!]);(.change Ce y.I.fs _=_;have⟨r,_,_,ef,e3,_⟩:=Su pf hk;rw[VY.fs,ze (k:=λr:Int×Int×HS=>W!) (f:=kT! CD!),ef,e3];rfl);(.change Ce (EA! y.I.cs (S! s) (V! Cp!)) _=_;have⟨r,_,_,ef,e3⟩:=xY k hk;rw[ec,ze (k:=λr:Int×Int=>W!) (f:=kT! r.2),ef,<-e3];rfl);(.have⟨y0,br,q1,q2⟩:=x.ff e he;(have:y0=y:=by rw[ey] at br;show j? br;(.show I? (Bi! q1 z) (zq ey x.lN y0 Jc!));.show C? (ZM h);(.show h);.show I? (Bi! q1 z) (zq ey x.lN y0 RG!));rw[this] at q2;lia);.have fr:=tR QU;rw[eL] at fo;(have aY:mR H2 W.c g ts L m:=A0! cY aY);have jz:QL! JQK:=W2;show(λ(A:_/\_)=>k lL! JQK _ (Ah!++Q8 m g ts) (i1++qr!::i2) H2 (tC! L JQK ⟨A!,JEh aY.len aY.BQ,JJL aY.len,A!⟩ _ (o! (ag! A! (o! ⟨A0! kS VN,ts,xf,as,A!,A!,YY,th,cf,λh hh=>(let⟨r,hr,er,_,ev⟩:=xY h hh;⟨r,hr,er,ev⟩),fo⟩)))) (by show FO?) A.1 A.2 A!) (x.answer (new:=Q8 m g ts) (D':=λt=>D t\/GS m (kN!) pN! t) (y':=qr!) el es p1 p3 ey ee jz fr A! A! A! (o_ fr at2) i! (x.wg.more sF) (λ_ h=>M7!) (JIu (LL.lt g sB (O5! ma!)) (MT H2 (EL!)) aY.OW) (λw9=>U! Jl6 (J1k fl fl VN (CZ! kS VN))) cA cB Jte j2! (λ_ _ _=>Jbf) (λ_ _=>Jbg) (λs0 g0 ts0 hz=>?_) (s_.kR (zK! B4 Jbf) (zK! Bx Jbg) (AC! OB.refl)) (Na!) ?_ (λh=>X!));(.show HK?;rw[<-ez];trivial);(.have⟨j,hj,ez⟩:=P8!;injection ez with q1 q2 q3;have hj:=Ck! hj;show⟨q2▸Ng!,q2▸(G6! hj),_,sF,λt h=>d! h,λt=>?_⟩;rw[<-q3,<-q2,AG,fo.mem];show q?;(.show Bu?;show⟨h1,BV h2⟩);.show Bu?;show⟨h1,AR h2⟩);(.rcases ZI he with he|he;(.show E? he);.rw[ZK he];show JBs VN);.rw[ZE];change W.JC.length+1<=d+1;show EV z5
open E
open E K51
open N FX
open PySem PySem.Spec PyProof.Rows L2
open S
open E
open E FX
open N K51
open PySem L2 FX
def gSt(g:GG):JEm V2 Xh Ob:=Jpq g.mSt.fn g.T g.mTo.fn g.mTo.bd g.mTo.mt
def Jzb(g:GG):xj! Jx J9 Fx:=Jmc g.mWSt.fn g.T CQ! g.mWH g.mSt (MW! (gSt g))
def gCa(g:GG):EL 2 Wx Yh Hj! zO:=Js7 g.mCa.fn g.T g.mNe g.mAR
def gAd(g:GG):EL 2 W9 Yk Hj! Jcv:=Jpy g.mAd.fn g.T g.mAR
def gWe(g:GG):JGa K1 Ld Hn:=Jiq g.mWWe.fn g.T CQ! g.mCa (gCa g) g.mAd (gAd g) g.mGi
def J1v(g:GG):EL 2 K2 Le Hh! N9:=Jpo g.mWPa.fn g.T CQ! JB! g.mPs g.mPP
def gPt(g:GG):GX 3 V8 Xn jO! zU:=JNJ Jsz g.mPa.fn g.mPR g.mP1
def gSd(g:GG):JPl Sb:=Jpn g.mWSe.fn g.T CQ! JB! g.mWH g.mPa (gPt g) g.mSp g.mPP
def og(g:GG):JEm K3 Lf Je:=Jgc g.mWLe.fn CQ! JB! g.mPL
def gFr(g:GG):GX 2 Wp Ya NA! uz:=Js4 g.mFr.fn g.T g.mQH
def gHo(g:GG):GX 3 Wn X8 GI! u_:=Js3 g.mHo.fn g.T g.mNe g.mQH g.mQN
def gDr(g:GG):GX 4 Wq Yb GI! uy:=JNJ Js5 g.mDr.fn g.mQN g.mQG
def gTa(g:GG):GX 4 V1 Xg GI! vC:=JNJ Jsy g.mTa.fn g.mQN g.mQG
def gMk(g:GG):GX 1 cX cj DG! vA:=MW! (Js0 g.mM.fn g.T)
def gCh(g:GG):JEm Ww Yg Jcu:=Jpw g.mCl.fn g.T g.Tx g.mR1 g.mLo g.mGb
def gWG(g:GG):EL 2 K6 Li UG! Se:=Jpp g.mWGb.fn CQ! JB! g.mPP
def gWC(g:GG):EL 3 Gz Hb GD! Oa:=Jme g.mWCl.fn g.T CQ! g.mWH g.mCl (gCh g) g.mWGb (gWG g)
def gAa(g:GG):EL 2 K9 Ll QQ! Ho:=Jis g.mWAa.fn g.T CQ! JB! g.mPP
def gAc(g:GG):JGa K8 Lk Ge:=Jgh g.mWAc.fn g.T CQ! JB! g.mTi g.mSt (gSt g) g.mPP
def gLh(g:GG):EL 2 Wj Xy Kz! zR:=Js2 g.mLH.fn g.T g.Tx g.mLo g.mGb
def gLc(g:GG):JGa K4 Lg Gd:=Jgd g.mWLc.fn g.T CQ! g.mLH (gLh g) g.mWGb (gWG g)
def gUn(g:GG):EL 2 Vz Xf bY! K51F.PK:=K51F.XC g.mUn.fn g.TF g.mR1 g.mRc
def gIL(g:GG):EL 1 Wm X6 DG! K51F.WU:=K51F.dm g.mIL.fn g.TI g.T.sorted
def gIR(g:GG):EL 3 Wk Xz DG! K51F.UX:=K51F.bc g.mIR.fn g.TI g.mIL (gIL g) g.mUn (gUn g)
def gLa(g:GG):EL 4 K5 Lh jf! Ps:=Jir g.mWLa.fn g.T CQ! JB! g.TI g.mIR (gIR g) g.mPP
def gAn(g:GG):EL 5 K7 Lj Hh! Tp:=Jsv g.mWAn.fn g.T CQ! g.TI g.mIF g.mIS g.mWAa (gAa g) g.mWLa (gLa g)
def gAs(g:GG):JNO vD:=Jsu g.mWAs.fn g.T CQ! g.TI g.mWH g.ki g.vR g.yP g.mWAa (gAa g)
def gDl(g:GG):sZ! Nb:=Jst g.mWDe.fn CQ! JB! g.mPT g.mWWe (gWe g) g.mWPa (J1v g) g.mWAc (gAc g) g.mWAn (gAn g) g.mWLc (gLc g)
def Jaw{l:cr}(h:∀z∈l,z.2.AK=[]/\z.2.AJ=[]):Hk t l=0/\Py l=0:=by induction l with | nil=>show AS? A! | cons z l ih =>show U? (ih (ev! h));have⟨h3,h4⟩:=Go! z;show BU?;(.change aC! z.2 l=0;unfold QG;rw[h1,h3,h4];rfl);.change z.2.AK.length+Py l=0;rw[h2,h3];rfl
def uV{n mm tk:Int}{h o l r:Addr}{t:T2}(ht:VG ⟨n,mm,tk,h,o,l,r,[],[],[],[]⟩ t):Or!:=by
 rcases ht with ht|⟨q,hq,_⟩;.cases ht
 .cases hq
def Joe{i m:Nat}{h o l r:Addr}(hi:i<m):Sd m JFd 0 :=⟨⟨EG,Ao!,EG,Ao!,A!,EG,Ao!,Wo!,Wo!,Wo!,Wo!,Wo!⟩,Wo!,Ay! yf!,Ay! yf!,Ay! (Zb! ht),JJC sB,JJw sB hi,GJ!,GJ!⟩
def Ji1{l:cr}(h:∀z∈l,Uv!=0):D1 l=0:=by induction l with | nil=>rfl | cons z l ih =>have ih:=ih (ev! h);have:=Go! z;change Uv!+D1 l=0;lia
open S
variable {p:Addr}{H H1:Hp}{W:ET}{D:T2->Prop}{m n d A B:Nat}{ys:List Qy}
def WI.start(S:vb! H1)(e2:W.c=0)(e3:bt!)(e4:W.OJ=[])(e5:W.JC=[])(e6:W.GQ=[])(e7:hI!)(e8:qK!)(m1:1<=m)(m5:FW!)(sh:2<=W.share):WI H1 p W bK! m 0 0 0 0 [] []:=by
 have ee:∀(i:Nat) q G,Ba! (W.qs[i]?)->YL λh o l r=>G=JFd:=λi q G hi=>by have⟨h,o,l,r,e⟩:=e8 i q G hi;show⟨h,o,l,r,e⟩
 have em:∀z∈W.qs,z.2.AK=[]/\z.2.AJ=[]/\Uv!=0:=Ai! (by have⟨i,hi⟩:=G_.mp hz;have⟨_,_,_,_,e⟩:=ee i z.1 z.2 hi;rw[e];show⟨A!,A!,A!⟩)
 have r0:=(Jaw (t:=(0,0)) (Ai! ⟨(em z hz).1,(em z hz).2.1⟩)).2;show⟨S,⟨⟨e7,m5,λi q G hi=>?_,Fy! (Zb! hl),λt _=>?_,sh⟩,⟨λ_ _ _ _ _ _ z=>z,λ_ _ _ z=>z,λ_ _ _ _ _ _ _ _ z=>z,λ_ _ _ _ _ z=>z.elim⟩,λj q G hj t ht _=>?_⟩,?_,λj q G hj t ht=>?_,m1,m5,U! e3 R!,U! e6 EG,Na!,U! e6 Ao!,U! e5 Ao!,⟨λj q G hj t ht=>?_,Fy! (GG! hl)⟩,Bv! Bu!,Ao!,e4,A!,EG,JK1,JK1,JK1,Ai! (Zb! hz),Na!,vM! (Zb! hz)⟩;·(have hl:i<m:=NE! e7 hi);have⟨_,_,_,_,e⟩:=ee i q G hi;rw[e];show⟨Joe hl,A!⟩
 .rw[(Jaw (t:=t) (Ai! ⟨(em z hz).1,(em z hz).2.1⟩)).1];rfl
 .show KQ?;show n?;show yf!
 .rw[Ji1 (Ai! (em z hz).2.2)];show GJ!
 .show KQ?;show n?;cases ht
 .rw[e6] at he;cases he
 .show KQ?;show n?;rcases ht with ht|ht;(.show(uV ht).elim);.cases ht
 .change 0+0+1*Py BC!<=0;rw[r0];show ZG _
 .rw[e5] at he;cases he
open E
open S
variable {M G M' G':CN}
def Rr(M G:CN)(x:BJ!):M.BF+1=Hd!:=LU! x.BF
def Jwp(x:BJ!)(ta tb:T2):HG (J7 M ta tb) dk!:=by have:=(x.JU ta (B0 (FX.EM Im! ta) tb));show N? x.EM;unfold J7;rw[x.EM];show Fb?
def Jwq(x:BJ!)(ta tb:T2):HG (Iv M ta tb) bF!:=by have:=(x.JU ta (Iw (FX.EM Im! ta) tb));show N? x.EM;unfold Iv;rw[x.EM];show Fb?
def Jp9(x:BJ!){l l':G!}(e:l=l'):HG (KP { M with hand:=l }) (KP { G with hand:=l' }):=JOH e DD! Dg!
def Jyx(x:BJ!)(tb:T2)(v:Int):HG (Zx M tb v) (Zx G tb v):=JOH Df! (by change Bg M.AJ tb v=oI!;rw[DD!]) Dg!
def Juv(x:BJ!)(tb:T2)(v:Int):HG (Kd M tb v) (Kd G tb v):=JOH Df! DD! (by change Bg M.AK tb v=oJ!;rw[Dg!])
def lV(x:BJ!):Lz!:=⟨Iq!,x.AY,A!,Df!,DD!,Dg!,YJ!⟩
def Jp8(x:BJ!)(tb:T2)(sh:Int)(HV:Bool):HG (Fg M tb sh HV) (Fg G tb sh HV):=by
 show IB? ?_ Dg!;.change aW M tb HV=W3!;unfold aW;rw[Df!]
 .change cQ M tb sh HV=JN5;unfold cQ;rw[DD!]
def Rc(l:HL)(R:G!):LW (DC! (AG! (H!∉R)))=(LW l).filter (AG! (H!∉R)):=mx! LR
def Jg2(x:Lz!)(ts:G!):KQ (Av M ts) DI!:=by
 show Jl? ?_ Dg! ?_;.change M.AJ.filter _=MQ! _;rw[zU!]
 .change LW (M.holds.filter (AG! Jm!))=LW (Tu! gp! Jm!);rw[Rc,Rc,kd!]
def Jyy(x:BJ!)(ts:G!):HG (Qk M ts) mB!:=by have:=(Jg2 (lV x) ts).HZ;show Fb?
def Jsk(x:BJ!)(r1:OO (QF Im!) k1 (Sw! M) [] Ra)(r2:OO (QF re) k2 wG! [] Rb):JMy:=by
 rw[(lV x).nx,(lV x).start] at r1;have c1:=r1.closed (Ay! co!)
 have c2:=r2.closed (Ay! co!)
 show λt=>⟨λh=>r1.least (S:=(·∈Rb)) c2 eY! r2.sub.2 t h,λh=>r2.least (S:=(·∈Ra)) c1 eY! r1.sub.2 t h⟩
def Jbi(h:JMy):keepR G Ra=keepR G Rb:=by
 unfold keepR;have e:∀t,Fd! (Aa! (t∈Ra)) (t∈Rb):=λt=>decide_eq_decide.mpr (h t);congr 1;.show FU λq _=>e H!
 .show FU λq _=>e H!
def Jtd(x:BJ!)(h:JMy):HG (Fo M Ra) (Fo G Rb):=by unfold Fo;rw[Jbi (G:=M) h];have:=((lV x).keepR Rb).HZ;show Fb?
def Jkn(x:Lz!)(rs:Y!):Bo M rs=Bo G rs:=by unfold Bo;congr 1;show FU λq _=>LU! x.DK
def Jk3{α:UF}{f:C4!}{l m:Q!}(h1:(l.map f).Pairwise LB)(h2:(m.map f).Pairwise LB)(h:∀x,x∈l↔x∈m):l=m:=by
 have p1:=EW.mp h1;have p2:=EW.mp h2;have n1:l.Nodup:=p1.imp (S:=λa b=>a≠b) λ{a b} h (e:a=b)=>by show AC?;show Oz _ h
 have n2:m.Nodup:=p2.imp (S:=λa b=>a≠b) λ{a b} h (e:a=b)=>by show AC?;show Oz _ h
 show((List.perm_ext_iff_of_nodup n1 n2).mpr h).eq_of_pairwise (λa b _ _ h1 h2=>by rw[E4] at h1 h2;lia) p1 p2
def Jos{l1 l2 wI lH:Y!}(e:l1=l2)(p1:wI.Perm l1)(p2:lH.Perm l2)(w1:vy! wI.map)(w2:vy! lH.map):wI=lH:=Jk3 w1 w2 λx=>Cy! p1.mem_iff p2.mem_iff e
def Jwo{os:B0!}(x:BJ!)(R:oc!):Rows M os:=by show⟨U! DD! R.pm,R.pw,BQ!⟩;have⟨h1,a,hl,h2,h3⟩:=FT! R.at_;show f? (U! DD! h1);have e:=Vk Im! H!;rw[YJ!,Vk,h2] at e;cases f:M.holds.find? λz=>Aa! (z.1=H!) with | none=>show AH? f | some r =>rw[f] at e;have e:(H!,hl)=(W!,Bd!):=ZO e;have⟨e1,e2⟩:=MP! e;show⟨CD!,hl,jp e1 e2,h3⟩
def Jfs(Ra:Rows G wO)(Rb:Rows G lJ):∀q∈wO,q∈lJ:=AN! (by have k:ot! lJ.map:=Rb.pm.mem_iff.mpr (Ra.pm.mem_iff.mp (BL hq));show DT? k;have⟨a1,_,_,a2,_,a3,a4⟩:=FT! Ra.at_;have⟨b1,_,_,b2,_,b3,b4⟩:=Rb.at_ r hr;rw[e] at b1 b2;rw[a1] at b1;rw[a2] at b2;have e2:=sC! b1;have e3:=(MP! (sC! b2)).2;(have e4:BF!=Bd!:=uo a4 b4 λt=>Cy! a3.mem_iff b3.mem_iff e3);have:q=r:=On! Bn! (On! e2 e4);rw[this];show hr)
def Jot(Ra:Rows G wO)(Rb:Rows G lJ):wO=lJ:=Jk3 Ra.pw Rb.pw λq=>⟨Jfs Ra Rb q,Jfs Rb Ra q⟩
def Td{os n_:B0!}(x:BJ!)(a:Told M hs os rs)(b:Told G bu n_ rs'):hs=bu/\os=n_/\rs=rs' :=⟨uo a.pw b.pw λt=>Cy! a.pm.mem_iff b.pm.mem_iff Df!,Jot a.PL (Jwo x b.PL),Jos Dg! a.pr b.pr a.wr b.wr⟩
def J1j(x:BJ!)(a:Wt BD! M tb wt M')(b:JHc):rA!:=by
 rcases a with⟨e,⟨n,o,f,rfl⟩|⟨n,rfl⟩⟩|⟨e,rfl⟩|⟨e,rfl⟩;.rcases b with⟨_,⟨_,o',f',rfl⟩|⟨n',_⟩⟩|⟨e',_⟩|⟨e',_⟩;(.rw[DD!,f'] at f;have eo:o'=o:=sC! f;show IB? ?_ Dg!;(.change JLm=Hu!;rw[Df!]);.change Bg M.AJ tb (o-wt)=NC! (o'-wt);rw[DD!,eo]);(.show Iz?);(.show Am?);.show Am?
 .rcases b with⟨_,⟨n',_⟩|⟨_,rfl⟩⟩|⟨e',_⟩|⟨e',_⟩;(.show I0?);(.show IB? DD! ?_;(.change JLm=Hu!;rw[Df!]);.change Bg M.AK tb _=Bg AO! tb _;rw[Dg!]);(.show Am?);.show Am?
 .rcases b with⟨e',_⟩|⟨_,rfl⟩|⟨e',_⟩;(.show Am?);(.show K7? Df! DD! ?_;change Bg M.AK tb _=Bg AO! tb _;rw[Dg!]);.show Am?
 .rcases b with⟨e',_⟩|⟨e',_⟩|⟨_,rfl⟩;(.show Am?);(.show Am?);.show K7? Df! ?_ Dg!;change YW M tb wt=fG!;unfold YW;rw[DD!]
def Jyw(x:BJ!)(a:t9 sh l M M' bs)(b:t9 sh l G G' NF):rA!/\bs=NF:=by
 rcases a with⟨np,a,rfl⟩|⟨p,⟨s,rfl,rfl⟩|⟨s,rfl,rfl⟩⟩;.rcases b with⟨_,b,rfl⟩|⟨p,_⟩;(.show⟨J1j x a b,A!⟩);.show I? p np
 .rcases b with⟨np,_⟩|⟨_,⟨_,rfl,rfl⟩|⟨s',_⟩⟩;(.show I? p np);(.show⟨Jp8 x _ _ _,A!⟩);.show I? s s'
 .rcases b with⟨np,_⟩|⟨_,⟨s',_⟩|⟨_,rfl,rfl⟩⟩;(.show I? p np);(.show I? s' s);.show⟨Jp8 x _ _ _,A!⟩
def Jtc(x:BJ!)(a:SY sh h g tb M M' l)(b:SY sh h g tb G G' l'):rA!/\l=l':=by
 have er:Aj M.AK tb=Pu!:=LU! Dg!
 have eo:Aj M.AJ tb=Tw!:=LU! DD!
 rcases a with⟨n,rfl,rfl⟩|⟨n,w,rfl,rfl⟩|⟨n,w,rfl,rfl⟩;.rcases b with⟨_,rfl,rfl⟩|⟨n',_⟩|⟨n',_⟩;(.show⟨U! eo (Jyx x _ _),A!⟩);(.show Iz?);.show Iz?
 .rcases b with⟨n',_⟩|⟨_,_,rfl,rfl⟩|⟨_,w',_⟩;(.show I0?);(.show⟨Juv x _ _,A!⟩);.lia
 .rcases b with⟨n',_⟩|⟨_,w',_⟩|⟨_,_,rfl,rfl⟩;(.show I0?);(.lia);.show⟨U! er (Juv x _ _),LU! er⟩
open E
abbrev Dv(m:Nat)(W W':ET)(a b al':l!)(ys EC:GM)(H':Hp):JG! LL
 | .w l=>Kh!/\TG!/\YL λq G G' bs=>Ba! (W.qs[l.g.toNat]?)/\t9 B6! l G G' bs/\kz! l.g.toNat/\al'=Ah!++(bs:wS).map .w
 | .lt _ g ts=>Kh!/\TG!/\kC λq G hs os rs=>lu!/\J2!/\W'.qs=ic! PE! az!/\al'=Ah!++sM! DI! ⟨EJ!,g,r.1.1,W!,r.2⟩
 | .ask s g n u=>Kh!/\TG!/\TH!/\kC λq G hs os rs=>lu!/\J2!/\al'=Ah!++[.MY g s n u Ie! NQ!]
 | .MY s g n u tick S=>TH!/\tM! H' n
inductive nD(m:Nat)(BQ:Int)(W W':ET)(al al':l!)(ys EC:GM)(H':Hp)(L:j!):B!
 | mk (l1 l2:j!) (t:Addr) (a:l!) (z:LL) (b:l!) (el:WY!) (es:JEu) (len:l1.length=a.length) (nv:Nv W W' iS! L) (dv:Dv m W W' a b xL ys EC H' z)
abbrev qd(y:Qy):Int×IJ!×U4!:=(y.n,I6!,y.se)
structure Al(W V:ET)(al bl:l!)(ys zs:GM):B! where
 qs:JPA BC! V.qs
 al:al=bl
 nu:EY! I1! V.ls.map
 c:W.c=V.c
 sh:W.share=V.share
 ys:BS! qd=zs.map qd
def pP{R:Fg!}{xs:Q!}{ys:C1!}(p:J0!):∀(i:Nat),R x y->Pf! (xs.set i x) (ys.set i y):=by induction p with | nil=>show λi _=>by simpa using Paired.nil | cons r p ih=>show λi h=>match i with | 0=>SC h p | i+1=>SC r (ih i h)
def M9{α:UF}{x:α}{b d:Q!}:∀{a c:Q!},a++x::b=c++x::d->x∉a->x∉c->a=c/\b=d
 | [],[],h,_,_=>A8! (KY! h).2
 | [],y::c,h,_,n=>Ct! (U! (KY! h).1 CT!) n
 | y::a,[],h,n,_=>Ct! (U! (KY! h).1 CT!) n
 | y::a,z::c,h,n1,n2=>by have⟨e,h⟩:=KY! h;have⟨e1,e2⟩:=M9 h (λz=>n1 (AH! z)) (mZ! n2);show⟨mV! e1,e2⟩
def Nv.two{W W' V V':ET}{l0 k0 L J:j!}(a:Nv W W' l0 L)(b:Nv V V' k0 J)(c:W.c=V.c)(e0:EY! l0.map k0.map)(e:W'.ls.length=V'.ls.length):rG!/\W'.c=V'.c/\EY! W'.ls.map V'.ls.map:=by
 have h0:l0.length=k0.length:=by show AP? e0;rwa [ZA,ZA] at this
 have hl:L.length=J.length:=by rw[a.ls,b.ls,ZE,ZE] at e;lia
 have hm:rG!:=by rw[a.nu,b.nu,c,hl]
 show⟨hm,by rw[a.c,b.c,c,hl],by rw[a.ls,b.ls,ZF,ZF,e0,hm]⟩
open S
variable {H H' H1 nC:Hp}{p r:Addr}{W W' V V':ET}{D D' E E':T2->Prop}{m n n' n1 lP d d' d1 mL A A' B B' A1 nJ B1 nG:Nat}{al al' bl XU:List LL}{ys EC zs XD:List Qy}{L J:List (Int×Addr)}{BQ:Int}
def Al.len(x:SB)(y:pp!)(e:al=bl):W.ls.length=V.ls.length:=Cy! x.len.1 y.len.1 e
def Al.at_{i:Nat}{q:Addr}{G:CN}(x:L2!)(h:cM!):HK λq' G'=>V.qs[i]?=D! (q',G')/\HG G G':=by
 show Gq? (i<V.qs.length) (AD! x.qs) h
 have⟨⟨q',G'⟩,h'⟩:=A4 hl;show⟨q',G',h',A6 x.qs _ _ _ h h'⟩
def Al.UP{i:Nat}{q q':Addr}{G G':CN}(x:L2!)(h:cM!)(h':V.qs[i]?=D! (q',G')):HG G G':=A6 x.qs _ _ _ h h'
def Jx8(x:SB)(hy:y∈ys):AT! y.se.map:=by
 rcases(x.iv y hy).t2 with⟨_,_,_,e⟩|⟨_,pm⟩;.rw[e];show EG
 ·(have:H3! rg m:=by unfold rg List.Nodup;rw[EW];show r1! (λz=>BN h (TA! z)));show(Cm! (pm.nodup_iff.mpr this)).2.1
def Jvu{se:U4!}(nd:AT! se.map)(h:u∈se)(h':v∈se)(e:u.1=v.1):u=v:=by induction se with | nil=>cases h | cons x se ih =>show HJ?;have n1:Ag!∉Q2!:=n1;rcases ZM h with e1|h1;(.rcases ZM h' with e2|h2;(.rw[e1,e2]);.show EC? ⟨v,h2,QV! e e1⟩ n1);.rcases ZM h' with e2|h2;(.show GO! A5! ⟨u,h1,mV! e2⟩ n1);.show ih n2 h1 h2
def Jt7{s g n0 u tick:Int}{S:HS}{a b:l!}(x:L2!)(wi:SB)(OS:R9!)(vi:pp!)(e1:tM! H3 n0)(e2:uF m V V' a b XU zs XD H4 s g n0 u Cp! S):al'=XU/\JQW:=by
 have⟨y,y',i1,i2,new,h1,h2,h3,h4,h5,h6⟩:=e1;have⟨z,z',j1,j2,JAv,k1,k2,k3,k4,k5,k6⟩:=e2;have iX:=wi.lN;have YH:=vi.lN;have en:BS! I7!=zs.map I7!:=UW! (Gz! (Yo! Bl!) x.ys) AX AX
 rw[h1,ZF,AI] at iX;rw[k1,ZF,AI] at YH;rw[h1,k1,ZF,AI,ZF,AI,h3,k3] at en;rw[h3] at iX;rw[k3] at YH;have⟨en1,en2⟩:=M9 en (ss! (Cm! iX).2.2) (ss! nf!);have ll:Ak! i1.map qd=Ak! j1.map qd:=by show AP? en1;rw[ZA,ZA] at this ⊢;show this
 have eq:=x.ys;rw[h1,k1,ZF,AI,ZF,AI] at eq;have⟨q1,q2⟩:=List.append_inj eq ll;have⟨q2,q3⟩:=KY! q2;have i4:y.fi=z.fi:=Gz! (λz=>z.2.1) q2;have ot:y.se=z.se:=Gz! (λz=>z.2.2) q2;suffices hh:new=JAv/\y'.fi=z'.fi/\y'.se=z'.se by have⟨hh1,hh2,hh3⟩:=hh;show f? (Cy! h5 k5 hh1);rw[h2,k2,ZF,AI,ZF,AI,q1,q3];congr 2;change(y'.n,y'.fi,y'.se)=(z'.n,z'.fi,z'.se);rw[h4,k4,hh2,hh3]
 rcases h6 with⟨u1,f1,f2,_,f3⟩|⟨u1,f1,f2,f3⟩;.rcases k6 with⟨_,g1,g2,_,g3⟩|⟨u2,_⟩;(.show⟨?_,JMI i4,Cy! f1 g1 ot⟩;rcases f3 with⟨f3,f4⟩|⟨f3,f4⟩;(.rcases g3 with⟨g3,g4⟩|⟨g3,g4⟩;(.rw[f3,g3]);.show Dv? i4 g4 f4);.rcases g3 with⟨g3,g4⟩|⟨g3,g4⟩;(.show Dv? i4 f4 g4);.rw[f3,g3]);.lia
 .rcases k6 with⟨u2,_⟩|⟨_,g1,g2,g3⟩;(.lia);.show⟨?_,Cy! f1 g1 i4,JMI ot⟩;rcases f3 with⟨f3,f4,_⟩|⟨f4,ts,xf,as,f3,_,_,_,cf,fc,ff⟩;(.rcases g3 with⟨g3,g4,_⟩|⟨g4,_⟩;(.rw[f3,g3]);.show Dv? ot g4 f4);.rcases g3 with⟨g3,g4,_⟩|⟨g4,vk,xf',OL,g3,_,_,_,cg,gc,gf⟩;(.show Dv? ot f4 g4);·(have lg:y'∈EC:=LB! h2);have nd:=Jx8 OS lg;(have gU:y'.se=z'.se:=JMI ot);(have ec:∀h:No,h<m->cf h=cg h:=λh hh=>by have⟨r1,a1,a2,a3⟩:=fc h hh;have⟨r2,b1,b2,b3⟩:=gc h hh;rw[<-gU] at b1;have:=Jvu nd a1 b1 (Bi! a2 b2);rw[<-a3,<-b3,this]);(have eL:JQN JTE I6!=JQN (Mr! (Jb z.fi h) cg h) z.fi:=by unfold Lb;rw[i4];congr 1;show FU λh hh=>LU! (ec h (Ck! hh)));rw[eL] at ff;rw[f3,g3,ff.one gf]
def nD.one(x:L2!)(wi:SB)(OS:R9!)(vi:pp!)(cM:tG!)(d1:JRX H3)(d2:nD m BQ V V' bl XU zs XD H4 J):tF! rG!:=by
 have⟨l1,l2,t,a,z,b,el,es,len,nv,dv⟩:=d1;have⟨k1,k2,t',a',z',b',kl,ks,JVw,kv,sv⟩:=d2;have iX:=wi.wa.po.nd;have YH:=vi.wa.po.nd;have en:=x.nu;rw[el,ZF,AI] at iX;rw[kl,ZF,AI] at YH;rw[el,kl,ZF,AI,ZF,AI] at en;have⟨e1,e2⟩:=M9 en (ss! (Cm! iX).2.2) (ss! nf!);have ll:a.length=a'.length:=by show AP? e1;show ES?;lia
 have ea:=x.al;rw[es,ks] at ea;have⟨q1,q2⟩:=List.append_inj ea ll;have⟨q2,q3⟩:=KY! q2;subst q1 q2 q3;have e0:EY! (KX!).map (k1++k2).map:=by rw[ZF,ZF,e1,e2]
 suffices hh:JPA W'.qs V'.qs/\al'=XU/\JQW by have⟨h1,h2,h3⟩:=hh;have⟨m1,m2,m3⟩:=nv.two kv x.c e0 (Al.len OS cM h2);show⟨⟨h1,h2,m3,m2,Cy! nv.sh kv.sh x.sh,h3⟩,m1⟩
 cases z with | w l =>have⟨y1,_,q,G,G',bs,hi,we,eq,WE⟩:=dv;have⟨y2,_,q2,M,M',fA,RT,we2,eq2,WD⟩:=sv;show Bk?;rw[<-x.sh] at we2;have⟨k1,k2⟩:=Jyw lk we we2;show⟨Dq! eq eq2 (pP x.qs _ k1),Cy! WE WD k2,JOq⟩ | ask s g n0 u =>have⟨y1,_,eq,q,G,hs,os,rs,hi,tl,WE⟩:=dv;have⟨y2,_,eq2,q2,M,SQ,lJ,lH,RT,vp,WD⟩:=sv;show Bk?;show DG? (Td lk tl vp);show HP? x.qs (by rw[WE,WD,lk.BF,k1,k2,k3]) JOq | MY s g n0 u tick S =>have⟨eq,an⟩:=dv;have⟨eq2,an2⟩:=sv;have⟨k1,k2⟩:=Jt7 x wi OS vi an an2;show HP? x.qs k1 k2 | lt s g ts =>have⟨y1,_,q,G,hs,os,rs,hi,tl,eq,WE⟩:=dv;have⟨y2,_,q2,M,SQ,lJ,lH,RT,vp,eq2,WD⟩:=sv;show Bk?;show DG? (Td lk tl vp);show HP? (pP x.qs _ (Jyy lk ts)) (by rw[WE,WD,k3,Jkn (Jg2 (lV lk) ts)]) JOq
open E
inductive DD
 | make (h:Nat)
 | hold (h:Nat) (a b:T2)
 | drop (h:Nat) (a b:T2)
 | take (h:Nat) (a b:T2)
 | free (h:Nat) (b:T2)
 | send (h g:Nat) (b:T2)
 | clean (h:Nat)
 | ask (h:Nat)
 | GC (n:Int)
abbrev DD.at:DD->No
 | .make h|.hold h _ _|.drop h _ _|.take h _ _|.free h _|.send h _ _|.clean h|.ask h=>h
 | .GC _=>0
abbrev VO(d:PyData):Ev!:=LD! [JB5,d]
abbrev YG(n:Nat):Ev!:=LD! (o1! n)
abbrev Ju(L:j!):Ev!:=IZ! (xa! V!)
inductive Hs:DD->CN->xD! CN
 | make (h:Nat) (G:CN) (a:Addr):Hs (Ki! h) G (KP T8!) (QR FD!)
 | hold (h:Nat) (ta tb:T2) (G:CN) (ha:BZ!) (hb:B8!) (hn:Je!):JJn HQ! dk!
 | drop (h:Nat) (ta tb:T2) (G:CN) (ha:BZ!) (hn:Je!) (hb:Nd!):JJn JC! bF!
 | take (h:Nat) (ta tb:T2) (G:CN) (ha:BZ!) (hn:Je!) (hb:Nd!):JJn JD! (Ri G tb)
 | free (h:Nat) (tb:T2) (G:CN) (hb:B8!):Hs JL3 G (Rj G tb) IR
inductive Rf:DD->AP! CN No
 | rP (h:Nat) (ta tb:T2) (G:CN) (e:g3!\/u7!):Rf (Ze! HQ!) G 1
 | rO (h:Nat) (ta tb:T2) (G:CN) (ha:BZ!) (hb:B8!) (hn:bj!):Rf (Ze! HQ!) G 2
 | rV (h:Nat) (ta tb:T2) (G:CN) (e:g3!):JGM 1
 | rT (h:Nat) (ta tb:T2) (G:CN) (ha:BZ!) (hn:bj!):JGM 2
 | rS (h:Nat) (ta tb:T2) (G:CN) (ha:BZ!) (hn:Je!) (hb:tb∉wA!):JGM 3
 | take1 (h:Nat) (ta tb:T2) (G:CN) (e:g3!):JGN 1
 | take2 (h:Nat) (ta tb:T2) (G:CN) (ha:BZ!) (hn:bj!):JGN 2
 | take3 (h:Nat) (ta tb:T2) (G:CN) (ha:BZ!) (hn:Je!) (hb:tb∉wA!):JGN 3
 | rR (h:Nat) (tb:T2) (G:CN) (e:u7!):Rf JL3 G 1
 | jI (h g:Nat) (tb:T2) (G:CN) (e:u7!):JEM 1
 | jH (h g:Nat) (tb:T2) (G:CN) (ha:B8!) (hn:Gb!) (e:JDB):JEM 4
inductive Ef(m:Nat)(W W':ET)(al al':l!)(ys EC:GM)(H':Hp):xD! DD
 | JD (d:DD) (q:Addr) (G G':CN) (v:PyData) (hi:Ba! (W.qs[d.at]?)) (hs:Hs d G G' v) (e:kz! d.at) (nv:Nv W W' HF! []) (ea:al'=al) (ey:Kh!):JFY (VO v)
 | no (d:DD) (q:Addr) (G:CN) (k:Nat) (hi:Ba! (W.qs[d.at]?)) (rf:Rf d G k) (e:W'=W) (ea:al'=al) (ey:Kh!):JFY (YG k)
 | send (h g:Nat) (tb:T2) (q:Addr) (G G':CN) (l:LT) (t:Addr) (hi:JCE) (hb:B8!) (se:SY B6! ii (AF! g) tb G G' l) (e:kz! h) (nv:Nv W W' HF! jR!) (ea:al'=al++[.w l]) (ey:Kh!):if! (HR! h g tb) (VO (V! T1!))
 | clean (h:Nat) (q:Addr) (G:CN) (k:Nat) (R:G!) (rs:Y!) (L:j!) (hi:JCE) (rc:eX!) (pm:Em!) (pw:IN!) (e:W'.qs=ic! h WL!) (nv:JFa) (ea:al'=al++sM! GE! ⟨EJ!,ii,r.1.1,W!,r.2⟩) (ey:Kh!):if! my! (VO (Ju L))
 | ask (h:Nat) (io:Addr) (I:K51F.Iq) (L:j!) (e:TH!) (nv:JFa) (ea:al'=al++JUL ii) (ey:EC=ys++[JQ6]):if! (I3! h) (VO (V! (Po!)))
 | GC (BQ:Int) (L:j!) (dl:JRX H'):if! (.GC BQ) (VO (Ju L))
open S
variable {H H' H1 nC:Hp}{p r:Addr}{W W' V V':ET}{D D' E E':T2->Prop}{m n n' n1 lP d d' d1 mL A A' B B' A1 nJ B1 nG:Nat}{al al' bl XU:List LL}{ys EC zs XD:List Qy}{dd:DD}{v v':PyData}{M G M' G':CN}
def Hs.one(x:BJ!)(a:Hs dd M M' v)(b:Hs dd G G' v'):rA!/\v=v':=by cases a with | make h _ a=>(cases b with|make _ _ b=>show⟨x.mk2 a b,jp Iq! x.AY⟩) | hold h ta tb=>show EM? (Jwp x ta tb) | drop h ta tb=>show EM? (Jwq x ta tb) | take h ta tb=>show EM? (Jp9 x (by rw[Df!])) | free h tb=>show EM? (Jp9 x (by rw[Df!]))
def Rf.one(x:BJ!)(a:Rf dd M k)(b:Rf dd G k'):k=k':=by have eh:=x.hand;have en:=x.BQ;have er:=x.AK;have eg:=x.EM;cases a<;>cases b<;>grind
def Hs.rf(x:BJ!)(a:Hs dd M M' v)(b:Rf dd G k'):Or!:=by have eh:=x.hand;have en:=x.BQ;have er:=x.AK;have eg:=x.EM;cases a<;>cases b<;>grind
def SY.rf{h g:Nat}{tb:T2}{l:LT}(x:BJ!)(hb:tb∈M.hand)(a:SY sh ii (AF! g) tb M M' l)(b:JEM k'):Or!:=by have eh:=x.hand;have en:=x.BQ;have er:=x.AK;cases b with | jI _ _ _ _ e=>rw[<-eh] at e;show e hb | jH _ _ _ _ ha hn e =>rw[<-en] at hn;rw[<-er] at e;rcases a with⟨n,_⟩|⟨_,w,_⟩|⟨_,w,_⟩;(.show hn n);(.lia);.show Ct! (e▸w) TD
def Al.symm(x:L2!):Al V W bl al zs ys:=⟨by have:=x.qs;generalize W.qs=a at this;generalize V.qs=b at this;induction this with | nil=>show R! | cons r _ ih=>show BM? ⟨r.BQ.symm,r.AY.symm,r.BF.symm,r.hand.symm,r.AJ.symm,r.AK.symm,r.holds.symm⟩,x.al.symm,x.nu.symm,x.c.symm,x.sh.symm,x.ys.symm⟩
def Al.next{L J:j!}(x:L2!)(OS:R9!)(cM:tG!)(nv:JFa)(kv:Nv V V' V.ls J)(h1:JPA W'.qs V'.qs)(h2:al'=XU)(h3:JQW):tF! rG!:=by have⟨m1,m2,m3⟩:=nv.two kv x.c x.nu (Al.len OS cM h2);show⟨⟨h1,h2,m3,m2,Cy! nv.sh kv.sh x.sh,h3⟩,m1⟩
def Ef.one(x:L2!)(wi:SB)(OS:R9!)(vi:pp!)(cM:tG!)(a:Ef m W W' al xL ys EC H3 dd v)(b:Ef m V V' bl XU zs XD H4 dd v'):tF! (v=v'):=by cases a with | JD _ q G G' u hi hs e nv ea ey =>(cases b with | JD _ q2 M M' u2 RT SQ e2 ja WD bQ =>show Bk?;show U? (Hs.one lk hs SQ);show⟨JRO (JKH h1) (P9! ea WD x.al) JPR,LU! h2⟩ | no _ q2 M k RT rf=>show(Hs.rf JOf hs rf).elim | send=>cases hs | clean=>cases hs | ask=>cases hs | GC=>cases hs) | no _ q G k hi rf e ea ey =>(cases b with | JD _ q2 M M' u2 RT SQ=>show(Hs.rf (x.symm.UP RT hi) SQ rf).elim | no _ q2 M k2 RT fj e2 WD bQ =>have:=Rf.one JOf rf fj;show GN?;show⟨x,by rw[this]⟩ | send h g tb q2 M M' l t RT hb se=>show(SY.rf (x.symm.UP RT hi) hb se rf).elim | clean=>cases rf | ask=>cases rf | GC=>cases rf) | send h g tb q G G' l t hi hb se e nv ea ey =>(cases b with | JD _ q2 M M' u2 RT SQ=>cases SQ | no _ q2 M k2 RT fj=>show(SY.rf JOf hb se fj).elim | send _ _ _ q2 M M' l2 t2 RT xZ se2 e2 ja WD bQ =>show Bk?;rw[<-x.sh] at se2;show U? (Jtc lk se se2);show⟨JRO (JKH h1) (by rw[ea,WD,x.al,h2]) JPR,LU! x.c⟩) | clean h q G k R rs L hi rc pm pw e nv ea ey =>(cases b with | JD _ q2 M M' u2 RT SQ=>cases SQ | no _ q2 M k2 RT fj=>cases fj | clean _ q2 M k2 R' lH J RT rc2 wM pw2 e2 ja WD bQ =>show Bk?;have hm:=Jsk lk rc rc2;have er:=Jos lk.AK pm wM pw pw2;show U? (Mc! OS cM nv ja (JKH (Jtd lk hm)) (by rw[ea,WD,x.al,er,Jbi (G:=G) hm,Jkn ((lV lk).keepR R')]) JPR);show⟨h1,by unfold Ju;rw[h2]⟩) | ask h io I L e nv ea ey =>(cases b with | JD _ q2 M M' u2 RT SQ=>cases SQ | no _ q2 M k2 RT fj=>cases fj | ask _ io2 I2 J e2 ja WD bQ =>(have el:ys.length=zs.length:=by show AP? x.ys;rwa [ZA,ZA] at this);show⟨JRO (P9! e e2 x.qs) (by rw[ea,WD,x.al,el]) (by rw[ey,bQ,ZF,ZF,x.ys];congr 1;change [(_,_,_)]=[(_,_,_)];rw[el]),LU! el⟩) | GC BQ L dl =>cases b with | JD _ q2 M M' u2 RT SQ=>cases SQ | no _ q2 M k2 RT fj=>cases fj | GC _ J dl2 =>show U? (dl.one x wi OS vi cM dl2);show⟨h1,by unfold Ju;rw[h2]⟩
open E
inductive To(vs:C!)(H:Hp)(Q:VK)(E:XK):B!
 | mk (p dx:Addr) (L0:Z!) (m sh:Int) (_:UF! (T! m) sh) (_:Pn! (.ins CW dx [])) (_:0<=m) (_:FW!) (_:(p::L0).Nodup) (_:∀b∈L0,yW!) (_:∀(W:ET)(H':Hp),vb! H'->W.share=sh->W.c=0->bt!->W.OJ=[]->W.JC=[]->W.GQ=[]->W.qs.length=m.toNat->(qK!)->JHo->(∀b∈GK!,b∉L0)->Pi!)
def Jog:Al! H8! H8! vN:={}
def Jmd(F:cR! ut! vN)(T:Txt)(TW:Ga)(TP:Pn)(MmH:FZ! C fI)(FI:Nk! gu! pZ fI dI)(bI:P0! dI Q4!)(MmP:FZ! CP fP)(FP:Nk! gv! Ua fP dP)(bP:P0! dP DG!):jl! H8! To:=by
 have GI:Do! fI dI Q4! QI:=WZ FI T;have GP:mH! fP dP Jj3:=Jps FP TP;show G? Jog;have⟨p,dx,L0,m,sh,rfl,hp,m0,m1,n0,l0,k⟩:=h;show A?;show Cm? (hu! EQ) (Di Rs (vq! (ub C (QI) [] E0 UD!) [] (JIP La!) CM! (λy h=>J1r h) CM! hy! (Ot MmH GI hr Dk! T.eF bI R! A9 UA!)) A!) (Pv! (Di Rs (Jpf MmP GP hr Dk! TP.eF bP R! A9) A!) RZ! (NF! RZ! RZ!));show⟨EI?,IZ? CW wE TW.nS⟩;have h1:Pd! (Zx! mr!) mr!:=Ab;have k1:Kp p H (Zx! mr!):=mQ;generalize z! H p mr!=H1 at h1 k1;have mm:AF! m.toNat=m:=BO m0;show⟨_,A!,m,A!,CJ TD m0,JCV m1,ks!⟩;have li0:Lies (PQ! H1 r []) (r::p::L0):=(Lies.mk (L:=p::L0) n0 (Mu! (by show B8?;(.show u? h1);.show Ap? (C5! l0);show⟨o,FI! k1 (λz=>Rh! (IW! n0).1)⟩))).new MC (Bq! Ab) (Cf! (EW! (Ai MC b o e)));show Yn (lo:=0) (n:=m.toNat) (tt:=H6!) (te:=ub C (QI) [] E0 UD!) (be:=[]) (σ:=[Eg!,Du! m,JDJ]) (JMq ed! (∃qs:cr,ys=qs.map (a1!)/\qs.length=i/\(∀j q G,Ba! (qs[j]?)->mf G j)/\(∀q∈qs,BD C H2 H! PP)/\Lies H2 JS4)) ⟨Ab,Ai MC,[],A!,A!,λj q G e=>k5!,AN! (by simp at hq),li0⟩ (h6! v6) ?_ ?_;.rintro i ys H2 N hi ⟨er,s2,qs,rfl,ql,em,ho,li⟩ hN;show l?;show P? (λx o8 nx eD sW=>⟨x,o8,_,A!,Ab,λh o l r' H3 fh fo fl fr S3 sr=>Fa!⟩);(have d9:BZ H2 (z! (NM! o8 Gx! x) x (M8! o8 [])):=JIw nx);have s3:BZ H2 H3:=fM! sr d9 nx;have er3:=Ge! er;have e0:JMe:=Int.add_comm _ _;rw[e0] at S3;show⟨er3,ee! C5,Kw! ⟨Ab,LP!,qs++[(x,JR5 sB r')],Vd!,cq! ql,λj q G e=>?_,BQ!,?_⟩⟩;(.rw[Ad (OH! MC)];show Z6! s3 s2);(.by_cases z:j<qs.length;(.rw[LA z] at e;show em j q G e);.rw[Kr! KI] at e;(have zj:j-qs.length=0:=by show C? (Nat.eq_zero_or_pos (j-qs.length));(.show h);.show AH? (ER (by simp;show h)));rw[zj] at e;show HZ? ((x,JFl)=HW!);(have ej:j=i:=X!);rw[ej,<-JGZ];show⟨_,_,_,_,A!⟩);(·(have all:∀q∈qs++[(x,JFl)],BD C H3 H! PP:=AN! (by show Bf?;(.show(ho q hq).same s3);.rw[ZK hq];show S3));have lu:=FT! all;have ne:=lu.WT er3;show lu.keep (CJ! (h8! (Ad (λz=>by rw[z] at hb;show hb.elim ne.1 ne.2)))));·(have a1:Lies H3 (JLv++JS4):=by show li.add (MH! ⟨λm=>S3.UO m A!,S3.nd⟩) Vr! Vr! (Cf! (EW! (Jb! s3)));(.show B8?;(.show nx);.simp only[BX,GN,BU,CL,GY] at hb;show Bs? hb;(.show C3 d9 fh);(.show C3 d9 fo);(.show C3 d9 fl);.show C3 d9 fr);.show B8?;(.have⟨d,e⟩:=S3.ob;show⟨_,e⟩);.have⟨kv,e⟩:=S3.MV hb;show⟨_,e⟩);(have a2:B5 (qs++[(x,JFl)])++iX!=(NB!++JLv)++iX!:=by rw[Ir];change(NB!++(JLv++[]))++iX!=_;rw[AM]);rw[a2];show((a1.perm ?_).keep LP!);(.rw[<-BH];show MQ _ JV);.by_cases z:b=r;(.rw[z];show⟨_,Ab⟩);.show⟨o,vl! z⟩
 .rintro ys H2 ⟨er,s2,qs,rfl,ql,em,ho,li⟩;have JG:=U8! h1;have l1:=Ba Ez! (V! sh) [];show Cn? JG HO!;have l2:=oM! Ey! r JRi;have k3:dX! H2 H2 sa!:=mQ;have TC:Nx! H2 sa! sa!:=Ab;generalize z! H2 p sa!=H3 at k3 TC;have li3:=lF! li.keep k3.ex TC;intro po jv oA JAw JVu;show⟨po,jv,A!,Ab,λpd H4 eP P4 kp4=>Fa!⟩;(have jT:BZ H3 (z! (F8! H3 jv Gx! po) po (.ins CP jv [])):=JUS oA JAw);have s4:BZ H3 H4:=fM! kp4 jT oA;have jj:=GX! TC;(have li4:Lies H4 (JLN):=by have a:=li3.new (b:=po) (H':=z! (F8! H3 jv Gx! po) po (.ins CP jv [])) oA (Bq! Ab) (Cf! (EW! (Jb! jT)));show a.new eP (Bq! P4.dc) LP!;by_cases z:b=po;(.rw[z];have⟨d,e2⟩:=P4.ob;show⟨_,e2⟩);.show⟨o,FI! kp4 z⟩);show Cn? jj I0!;have l3:=oM! BW! po (Y0! Ey! r JRi);have k5:dX! H4 H4 ms!:=mQ;have bx:Nx! H4 ms! ms!:=Ab;generalize z! H4 p ms!=H5 at k5 bx;have li5:=lF! li4.keep k5.ex bx;intro iq xP;have li6:=JQC li5.new H5 iq xP xP;have mG:JNT H5 iq iq:=Ab;have s6:=m4! xP;generalize xm! H5 iq=H6 at li6 mG s6;show Cn? (QI! bx) TW.nI;have l4:=oM! Ij! iq JRp;have k7:dX! H6 H6 sb!:=mQ;have oP:Nx! H6 sb! sb!:=Ab;generalize z! H6 p sb!=H7 at k7 oP;have li7:=lF! li6.keep k7.ex oP;intro fi xT;have li8:=JQC li7.new H7 fi xT xT;have i4:JNT H7 fi fi:=Ab;have s8:=m4! xT;generalize xm! H7 fi=H8 at li8 i4 s8;show Cn? (L! s8 oP) TW.nF;have l5:=oM! MN! fi (Y0! Ij! iq JRp);have k9:dX! H8 H8 mt!:=mQ;have gH:Nx! H8 mt! mt!:=Ab;generalize z! H8 p mt!=H9 at k9 gH;have li9:=lF! li8.keep k9.ex gH;intro en xV;have qS:=JQC li9.new H9 en xV xV;have een:JNT H9 en en:=Ab;have bF:=m4! xV;generalize xm! H9 en=HA at qS een bF;show Cn? (L! bF gH) TW.nE;have kB:dX! HA HA sc!:=mQ;have hpB:Nx! HA sc! sc!:=Ab;generalize z! HA p sc!=HB at kB hpB;have nd:=qS.nd;(have pm:(en::fi::iq::JLN).Perm (([p,r,po,pd,iq,fi,en]++NB!)++L0):=by (have a:(B5 qs++(r::p::L0)).Perm ([r,p]++(NB!++L0)):=by rw[Ut! (NB!++iX!=(NB!++[r,p])++L0),<-BH];show MQ _ JV);have b:(en::fi::iq::JLN).Perm ([en,fi,iq,pd,po,r,p]++(NB!++L0)):=((((a.cons po).cons pd).cons iq).cons fi).cons en;rw[BH];show b.trans (MQ _ (List.reverse_perm [p,r,po,pd,iq,fi,en])));have YH:=pm.nodup_iff.mp nd;have PM:=cB! YH;have kA9:dW! H9:=Yu! (Uu! bF) kB;have kA7:dW! H7:=Yu! (Yu! (Uu! s8) k9) kA9;have kA5:dW! H5:=Yu! (Yu! (Uu! s6) k7) kA7;have wk:dW! H4:=k5.trans kA5;have wm:dW! H2:=(k3.trans (Uu! s4)).trans wk;have tn:=cB! PM;simp only[BB,BU,CL,GY,not_or,EG,and_true,not_false_eq_true] at tn;have⟨⟨a1,a2,a3,a4,a5,a6⟩,_⟩:=tn;have ie:∀b∈NB!,Ig!:=Sh! ((Cm! PM).2.2 p KB b hb Fx!);show k ⟨sh,r,po,iq,fi,en,pd,0,[],qs,[],[],[]⟩ HB ⟨Hr! (by rw[hpB,<-Ju7]),Lb! wm er a1,AN! ((ho q hq).keep (CJ! (FI! wm (ie b (O2! (PX! hb)))))),P4.keep (λo e=>Lb! wk e a2) (λo e=>Lb! wk e a3),Lb! (k7.trans kA7) mG a4,Lb! (k9.trans kA9) i4 a5,Lb! kB een a6,PM⟩ A! A! A! A! A! A! ql em (YZ! (wm b u (s2 b u (k1 b u e hb)) hb)) λb hb hl=>Wx! nf! hb hl
open S
def Jo0{z:Str}{i:Int}(h:AT Gm z i):(Cw! z.cps.toList.all F5/\kR!/\bf!/\(z.cps.toList.head?=Ix 48->z="0"))/\G8! KP!=i:=by
 unfold Gm at h;show D? (y! (pT z));.rw[Bk!] at h;unfold pT at c;have⟨c,c4⟩:=OI.mp c;have⟨c,c3⟩:=OI.mp c;have⟨c1,c2⟩:=OI.mp c;show⟨⟨c1,BV c2,BV c3,λhd=>Decidable.byContradiction λne=>by rw[AR hd,AR ne] at c4;cases c4⟩,ZO h⟩
 .show Az? Gh!
inductive Jaz(vs:C!)(H:Hp)(Q:VK)(E:XK):B!
 | mk (z:Str) (i:Int) (_:vs=[T0!]) (_:AT Gm z i) (_:Zr! (jT! i))
def WA:P7! [F1!,"plain"] F1! Hz:={}
abbrev Juj:TT:=Ki (UG (JKk (x=UV i/\y=UV j/\dt! (JPh j i j.length))) (Bt 0) (tC (bn gr!)))
def Jit{f:Addr}{fd:FuncData}(F:a! u5! u5! Hz)(T:jD):JDi F1! Jaz:=by
 show G? WA;have⟨z,_,rfl,hi,k⟩:=h;have⟨⟨c1,c2,c3,c4⟩,rfl⟩:=Jo0 hi;have d0:kQ!:=Ia! (N'.mp c1 c hc);show A?;show Ac? (Jk (tt:=Juj) (te:=Ef!) (i:=1) (be:=[]) WA.nd A! A! A! A! (Jv6 (pv 0)) A! ZV A! ZV A! CM! (λy h=>FX.JBS h) CM! ZV (PS! (Du (Au Jmb Rs As A!))) ai!) (V1! (Ve! (cI (Q2 (Le! (au! w!) JN2) (Q2 (Au Q3 JN2 Af PP!) (Nf (JEk JN2)))))) (Ve! (rh! (PV! (Ao Jwz Rs Af)) (Le! Rs As))) (Tf! Jem T.int PyProof.Rows.boot_int Rs));have hL:uA!:=Ec! Sg! z;show AF?;show B1? z Eb!;show Jra (tt:=Juj) (te:=Ef!) (be:=[]) (K1! (H2=Ti! p .BK ys/\ys=ER! vQ! i (λc=>PU! one c))) Bj! (h6! (lQ! Ab)) ?_ ?_;.rintro i c ys H2 N hc ⟨rfl,rfl⟩ hN;(have l_:z.cps.toList[i]?=D! c:=by simpa using hc);(have tk:vQ! (Aj!)=vQ! i++[c]:=cr! l_);show Ji?;rw[Jto,DQ! d0 c l_];show B3 ⟨_,A!,Ab,?_,?_⟩;(.rw[ZA,CM];lia);.rw[Ja];show Kw! (A8! (jP! tk))
 .show GO?;rw[JN (by show ZG _)];show Dj? z.cps.toList.map (λc=>PU! one c) hp;show⟨F?,_,_,A!,JEW,_,A!,z,A!,X!,A!,_,A!,?_⟩;rw[ZA,Pg,hL,show AU! (Bb! MG!==JAD) from NV _];show Bn ⟨R? z,EJ? X!⟩;rw[AL (show ¬(JAD<1) by show IY! (G6! c2))];show Bn ⟨R? z,EJ? X!⟩;rw[AL (show ¬(AF! 9<JAD) by show IY! (MC! c3))];show k?;have⟨c,r,e⟩:=KL (l:=KP!) (λq=>by rw[q] at hL;simp at hL;show I? c2 (qw! hL.symm));show⟨_,A!,z,0,c,A!,A!,X!,Do (AH 0) (by rw[e];rfl),A!,_,A!,?_⟩;show Io (λq=>?_) (λq=>?_);(·(have hc:c=48:=by have:=BV q;injection this with this;have:=Gz! (λy:Str=>y.cps.toList) this;show List.head_eq_of_cons_eq this);show c?;rw[AR (show AE! z=AE! "0" by rw[<-c4 (GH! e hc)])];show Bn ⟨R? z,A!,d0,c2,c3,dR!⟩);.show Bn ⟨R? z,A!,d0,c2,c3,dR!⟩
open E
open S
def Jik{z:Str}{a:FX.Arg}(h:AT Ji z a):YL λx y i j=>JH1=[x,y]/\FA! Gm i/\AT Gm y j/\a=.t i j:=by unfold Ji at h;match e:JH1,h with | [x,y],h =>have⟨i,e1,h⟩:=Option.bind_eq_some_iff.mp h;have⟨j,e2,rfl⟩:=G5! h;show⟨x,y,i,j,A!,e1,e2,A!⟩
inductive Jf(vs:C!)(H:Hp)(Q:VK)(E:XK):B!
 | mk (b:Bool) (z:Str) (a:FX.Arg) (_:vs=[bn (fm b),T0!]) (_:z.length<=1000) (_:Jh b z=D! a) (_:∀v H',XV->ON H' v a->Jt!)
def U':IF! [O9!,F1!,"parts"] O9! F1! Hy:={}
def Jgj{f f1:Addr}{fd d1:FuncData}(F:a! YS! YS! Hy)(T:jD)(M1:JO2 f1 d1):LL! [O9!,F1!] Jf:=by show EO? [F1!] Jaz Jit;show G? U';have⟨b,z,a,rfl,hz,ra,k⟩:=h;show A?;show BK? (JRx Rs (JQt La!)) (hW! 2 U'.nd (F4 HX PySem.F.slot_str_split PySem.F.type_str_split Jgy w! (CR! As)) (JEc (Ve! (JEl (au! EQ))) (Mk! (JQt (CR! ZF!)) (JQt (CR! ZF!)))));show AF?;show c?;cases b with | true =>have⟨i,e,rfl⟩:=G5! (show AT (Gm z).map FX.Arg.n a from ra);rw[AR (show PU! fm q!=AE! DA! from rfl)];show B3 ⟨_,A!,z,i,A!,e,λH' s1=>k _ H' s1 A!⟩ | false =>have⟨x,y,i,j,e,e1,e2,rfl⟩:=Jik (show AT Ji z a from ra);rw[AL (Fr! (¬PU! fm am=AE! DA!) (λq=>GO! YH! q ZV))];show Bn ⟨_,A!,A!,_,_,A!,A!,A!,X!,Jl!⟩;rw[e];show Dj? [x,y].map AE! hl;show⟨_,Jk? _ JEW⟩;rw[ZA,Pg];show Bn ⟨F?,l,_,_,_,A!,A!,Ld!,A!,x,i,A!,e1,λH' s2=>?_⟩;show⟨F?,l,_,_,_,A!,A!,Ms! s2 Ab,A!,y,j,A!,e2,λH2 s3=>JRk Gc!⟩;have s4:=ET! [xz i,xz j] ht;show FS k (Ah s1 JN7) (FM! t Ab)
inductive Qx(vs:C!)(H:Hp)(Q:VK)(E:XK):B!
 | mk (v:Str) (l:Addr) (ws:AC) (as:bx!) (_:vs=[UV v,JU!]) (_:JG9) (_:∀y∈ws,y.length<=1000) (_:Uz! (Si v ws)) (_:∀r xs H',XV->lt! H' xs->JMW H' xs->TR! r)
def TB:IF! [O8!,HL!,"forms"] O8! HL! Jg:={}
def Jdj{f f1 f2:Addr}{fd d1 d2:FuncData}(F:a! g1! g1! Jg)(T:jD)(D:Jrq)(M1:JO2 f1 d1)(M2:Jh! YS! Hy O9! F1! f2 d2) : jl! [O8!,HL!] Qx:=by have G2:e9! [O9!,F1!] Jf:=Jgj M2.fn T M1;show G? TB;have⟨v,l,ws,as,rfl,hl,hw,PL,kQ⟩:=h;show A?;show K?;have⟨kvs,dk,pf⟩:=D.at_;show BH? TB.nd (Jpg hu A! D.mg dk Rs Hm!) (Ac (Ve! (cI (Q2 (El (Jwb (pv 2))) (Nf (Le! (au! w!) (au! EQ)))))) (Hb! (Jpj (te:=Kj (Jf) [] E0 (eD! (Bt 0) 1)) (be:=[]) A! (Jv5 A! T.zip (xF! w!)) A! ZV A! ZV A! A! CM! JRz CM! ZV hy! (PS! (Bb G2 hr Dk! M2.mg M2.fn.kp HM! R! A9 (in! w!))))));show DQ? no!;unfold Si at PL;cases e:FT.lookup v with | none=>rw[e] at PL;cases PL | some fs =>rw[e] at PL;have PL:Uz! (Xs! uK! (Gh fs ws)):=PL;show D? uK!;(.rw[Bk!] at PL;have⟨t,e1,sq⟩:=Jkz pf e;rw[e1];show B1? _ (Bn ⟨R? l,AT? (P2! hl),Jk? t (d! (sq _))⟩);rw[ZA,ZA,Pg,show AU! (AF! ws.length==AF! fs.length) by rw[c];simp];show Bn ⟨t?,A!,t,l,_,_,A!,sq _,Cq! hl,Eb!⟩;show Jq9 (te:=Kj (Jf) [] E0 (eD! (Bt 0) 1)) (be:=[]) (JID (∃as,Uz! JOK/\JMW H2 ys/\vJ!)) ⟨Ai hp,Ab,[],A!,R!,A!⟩ (by rw[ZA,ZA,c]) (h6! ⟨sq _,JDY hl,h.2.1⟩) ?_ ?_;(.rintro i x z ys H2 T0 N hx hz ⟨s1,IW,OL,ra,pa,yl⟩ hT hN;rw[ZH] at hx hz;have⟨f0,xU,rfl⟩:=G5! hx;have⟨w0,xB,rfl⟩:=G5! hz;have sT:=ET! [PU! fm f0,AE! w0] hT;cases e2:Jh f0 w0 with | none =>rw[Ja5 i c.symm xU xB e2] at PL;cases PL | some a =>show⟨F?,_,A!,f0,w0,a,A!,DQ! hw w0 xB,e2,λu H' s2 ha=>?_⟩;have s3:=Ah sT s2;have TC:=Ge! IW;have zf:i<fs.length:=ES! xU;have zf3:XP! 3:=(Jkx e).2.2;show⟨TC,Bz (AA (A_ (AA (AF (BM yl) zf) zf3)) TD),Kw! ⟨λb o hb=>?_,Ab,OL++[a],Uk i ra xU xB e2,Ep (ha.put TC) (Ax (λ_ _ h=>(h.same s3).put TC) pa),cq! yl⟩⟩;rw[Ad (Ak hb hp)];show FF! s3 s1 hb);.rintro ys H2 ⟨s1,IW,OL,ra,pa,yl⟩;rw[ZA] at ra;rw[Tm! JN,JN ((BM c)),PL] at ra;cases ra;show kQ p ys H2 s1 IW pa);.rw[Gh!] at PL;cases PL
open E
open S
inductive En(vs:C!)(H:Hp)(Q:VK)(E:XK):B!
 | mk (a:Addr) (t:T2) (_:cx!) (_:JHI) (_:Sm lc) (_:Sm AX!) (_:Zr! (Hg! JNa))
def Jl1:WC! Cn! Cn! Kl:={}
abbrev Mt:TE:=vy (λxs H Q=>Fv xs H Q\/Mz xs H Q) UD!
def Uu{f:Addr}{fd:FuncData}(F:a! YT! YT! Kl)(T:jD):JDi Cn! En:=by
 show G? Jl1;have⟨a,t,rfl,ha,z1,z2,k⟩:=h;show A?;show r? (s2! (JSD Mt (Fk (pv 0)) (JUX T.str)));show⟨A!,_,A!,a,A!,JBw,Eb!⟩;show AF?;show Id? Mj Mt (K1! (H2=Ti! p .BK ys/\ys=ER! ([lc,AX!]:At).take i aW!)) Bj! (JMZ (Gc (Ai hp) ha));.rintro i x ys H2 N hx ⟨rfl,rfl⟩ hN;show l?;(have key:∀j:Ch,x=xz j->Sm j->(([lc,AX!]:At).take AB!).map (aW!)=JJA++[PU! FG j] -> Mt [Ix x] (Zx! (EO! xf! aW!)) λv H5=>Pd! H5 (EO! xf! aW!)/\zz! xf! aW!/\N (JJA++[v]) (TT! H5 (JJA++[v])):=λj e z e2=>by subst e;show P? (GE ⟨j,A!,Cc z,Ab,?_,?_⟩);(.rw[ZA,CM];simp only[BJ,BR];lia);.rw[Ja];show Kw! Fa!;rw[e2];rfl);match i,hx with | 0,hx=>show FM lc (by simpa using hx.symm) z1 A! | 1,hx=>show FM AX! (by simpa using hx.symm) z2 A! | i+2,hx=>simp at hx
 .show GO?;have l1:=Ca lc z1;have l2:=Ca AX! z2;show⟨"." ,p,qg!,A!,A!,Ld!,?_,k _ (Ai hp)⟩;show HB? ".";simp only[AI,GN,DL,PH,BJ,BR,this];show BY? (vR! (MM l1 l2) _)
open E
open S
inductive Jd(vs:C!)(H:Hp)(Q:VK)(E:XK):B!
 | mk (a:Addr) (n h g:Int) (kd:Str) (x:V) (_:cx!) (_:Dp! a [Hv!,UV kd,DH!,K4!,x]) (_:Sm n) (_:Sm h) (_:Sm g) (_:kd.length<=10) (_:ja! (zA n kd h g))
def Jid:WC! E1! E1! Hr:={}
def Jga{f:Addr}{fd:FuncData}(F:a! YU! YU! Hr)(T:jD):JDi E1! Jd:=by
 show G? Jid;have⟨a,n,h,g,kd,x,rfl,ha,z1,z2,z3,z4,k⟩:=h;show A?;show r? (s2! (JSD Mt (Fk (JIq ey!)) (JUX T.str)));show AF?;show⟨A!,_,A!,_,A!,a,_,A!,ha,(by change ¬(ME! 5 0 KM=0/\i9! 5 5 4=5);decide),AN! ⟨q,A!,lk! Ab,Eb!⟩⟩;show BJ? SE! hq;have YU:rI! q SE! q SE!:=Ab;change vd! JH! [] (TT! (x9! SE!) []) _;have hp:Ab! (x9! SE!) p:=hp;generalize Ny! q SE!=H1 at s1 YU hp;show Mj (xs:=SE!) (tt:=H6!) (te:=Mt) (be:=[]) (K1! (H2=JEF p ys/\iZ! JTN i)) Bj! (JMZ (ED! (Ai hp _ _ YU))) ?_ ?_;.rintro i x ys H2 N hx ⟨rfl,rfl⟩ hN;show l?;(have nx:∀z:Str,ER! JTN AB! AE!=JJW++[AE! z]->Nx! H1 JFo JFo/\zz! ([FG n,kd,FG h,FG g].take i).map AE!/\N (JJW++[AE! z]) (TT! (z! H1 p JFo) (JJW++[AE! z])):=λz e=>by show S? Ab ?_;(.rw[ZA,CM];simp only[BJ,BR];lia);.rw[Ja];show Kw! Fa!;rw[e]);match i,hx,nx with | 0,hx,nx=>show J0? n z1 | 1,hx,nx=>show DX? hx (o! (FM! kd (nx _ A!))) | 2,hx,nx=>show J0? h z2 | 3,hx,nx=>show J0? g z3 | i+4,hx,_=>simp at hx
 .show GO?;have l1:=Ca n z1;have l2:=Ca h z2;have l3:=Ca g z3;show⟨":" ,p,[FG n,kd,FG h,FG g],A!,A!,Ld!,?_,k _ (Ah s1 (Ai hp))⟩;show HB? ":";simp only[AI,GN,DL,PH,BJ,BR,this];lia
inductive Kk(vs:C!)(H:Hp)(Q:VK)(E:XK):B!
 | mk (l:Addr) (ws:AC) (_:JDC) (_:JG9) (_:ws.length<=5000) (_:∀y∈ws,k1!) (_:Q (bn (Fh ws)) H)
def Joi:WC! HL! HL! Ly:={}
def P2{f:Addr}{fd:FuncData}(F:a! "listed" "listed" Ly):JNB f fd:=by show G? Joi;have⟨l,ws,rfl,hl,z1,z2,k⟩:=h;show A?;show r? (Ur (Um Rs (by intro _;rfl)) (s2! Rs) As);show II? (!(ws.map AE!).isEmpty) (Cq! hl);cases ws with | nil=>show Bn k | cons w r =>show B3 ⟨A!,_,A!," ",l,w::r,A!,A!,Cq! hl,?_,k⟩;have e:=LX (B:=100) (w::r) z2;show HB? " ";rw[this];have:(FQ! (w::r)*100)<=5000*100:=EJ _ z1;lia
inductive Lu(vs:C!)(H:Hp)(Q:VK)(E:XK):B!
 | mk (a:Addr) (xs:C!) (ts:G!) (_:cx!) (_:Fe!\/Dz!) (_:xc! i' ts) (_:zR!) (_:YO! JKq) (_:JGm KV!)
def Jl3:WC! EB! EB! Ks:={}
def Jew{t:T2}(h1:Sm lc)(h2:Sm AX!):Ee! Br t 100:=by have l1:=Ca lc h1;have l2:=Ca AX! h2;unfold Br;have:=JT "." qg!;have q:Zz! ".":=rfl;simp only[AI,GN,DL,PH,BJ,BR,q] at this;lia
def Jiu{f f1 f2:Addr}{fd d1 d2:FuncData}(F:a! YV! YV! Ks)(T:jD)(M1:JN! YT! Kl Cn! f1 d1)(M2:JO3 f2 d2):LL! kF! Lu:=by
 show EO? [Cn!] En Uu;have G2:JNB f2 d2:=P2 M2.fn;show G? Jl3;have⟨a,xs,ts,rfl,ha,pt,z1,z2,k⟩:=h;show A?;show r? (Bb G2 hr A! M2.mg M2.fn.kp HM! R! A9 (JSO JIT (Jv7 (pv 0)) (Bb G1 hr A! M1.mg M1.fn.kp EI! R! A9 UA!)));show CL? pt;show AF?;have step:∀(p:Addr),Kv!->∀i x ys (H2:Hp) (N:JH!),Pr!->(FJ!/\Hi!/\rq!)->(∀ys H2,(JAE FJ! (iZ! (HH! AB!).map Br))->N ys H2) -> Kj (En) [] E0 UD! [Ix x] H2 (JRj wK!):=by rintro p hp i x ys H2 N hx ⟨s1,IW,rfl⟩ hN;have⟨z,_⟩:=ZJ hx;show HD? (hl▸z);have⟨b,rfl,sb⟩:=A6 pt i x t hx ht;have⟨y1,y2⟩:=DQ! z2 t ht;show⟨_,A!,b,t,A!,Gc s1 sb,y1,y2,λH' s2=>JF7 (U8! IW) (λc o e=>?_) Ab⟩;(.show Be?;lia);(.show CZ? hp s2 s1);.rw[CY,ht];simp
 have fin:∀(p:Addr) ys (H2:Hp),(JAE FJ! (iZ! (HH! Eu!).map Br))->Kk [AA! p] H2 Q E0:=by rintro p ys H2 ⟨s1,IW,rfl⟩;rw[JN ((BM hl.symm))] at IW;show CS? p (KV! Br) IW z1 LR! dR!;have⟨t,ht,rfl⟩:=RA!;show Jew (z2 t ht).1 (z2 t ht).2
 show DQ? a;rcases ha with ha|ha;.show S! ⟨JBw,Eb!⟩;show Es (tt:=H6!) (te:=JIT) (be:=[]) (JID rq!) (CB! (Ai hp) Ab) (JHR (h.1.seq ha)) (λi x ys H2 N hx h hN=>B3 (step p hp i x ys H2 N hx h hN)) (λys H2 h=>wn p ys H2 h)
 .show d! ⟨JBw,Eb!⟩;show Mj (tt:=H6!) (te:=JIT) (be:=[]) (JID rq!) (CB! (Ai hp) Ab) (JHR (Gc v6 ha)) (λi x ys H2 N hx h hN=>B3 (step p hp i x ys H2 N hx h hN)) (λys H2 h=>wn p ys H2 h)
open E
structure GV(H:Hp)(p pw:Addr)(W:ET):B! where
 ob:∃dx,JIK aa!
 wo:AW CW C CP H pw W
open S
def GV.ne{H:Hp}{p pw:Addr}{W:ET}(x:D0!):p∉Bu pw W:=let⟨_,e⟩:=x.ob;x.wo.iM e
def GV.same{H H':Hp}{p pw:Addr}{W:ET}(x:D0!)(s:XV):GV H' p pw W:=⟨QS! Vn!,x.wo.same s⟩
def Dq{v:V}:AT (JEU:DP!).lookup (E7! "world") v:=A!
def Xc{v:V}{m:Str}(h:¬m="world"):Ab! (JEU:DP!).lookup m:=GH! IA (IV! h)
inductive Jj6(vs:C!)(H:Hp)(Q:VK)(E:XK):B!
 | mk (p dx:Addr) (m sh:Int) (_:UF! (T! m) sh) (_:JTq []) (_:0<=m) (_:FW!) (_:∀(pw:Addr)(W:ET)(H':Hp),GV H' p pw W->W.share=sh->W.c=0->bt!->W.OJ=[]->W.JC=[]->W.GQ=[]->W.qs.length=m.toNat->(qK!)->(iv! H')->Pi!)
def Jse:Al! H8! H8! vI:={}
def Jpv{f f1:Addr}{fd d1:FuncData}(F:cR! u3! vI)(TK:yd)(TW:Ga)(Mm:FZ! CW f1)(b1:JEQ d1)(G1:EL 3 f1 d1 H8! (To)):EL 5 f fd H8! (Jj6):=by
 show G? Jse;have⟨p,dx,m,sh,rfl,hp,m0,m1,k⟩:=h;show A?;show Ds? (hu! (JOI Mm G1 qu! TW.eF b1));show B1? _ (λx o8 nx eD sW=>⟨x,o8,[],m,sh,A!,Ab,m0,m1,sK,Mu! (GG! hb),λW H' S e1 e2 e3 e4 e5 e55 e6 e7 kp _=>Fa!⟩);have k0:∀b u,Pt!->Kj! H' u:=OR! (kp b u (P9! (Tp! nx) (Tp! eD) e) (Ak e nx));have VW:=L! k0 hp;have pn:p∉Bu x W:=λhb=>by show Bg?;(.show DA?;show Df?;(.show Ak hp nx A!);(.have e:=S.hs;rw[VW] at e;cases e);(.have⟨dx,e⟩:=S.po.ob;rw[VW,Oq] at e;show I? (HO.ins.inj (ZO e)).2.2 Wt!);(.have e:=S.po.dc;rw[VW] at e;cases e);(.have e:=S.iq;rw[VW] at e;cases e);(.have e:=S.fi;rw[VW] at e;cases e);.have e:=S.en;rw[VW] at e;cases e);.show Dg?;show Gx?;(.have⟨dx,e⟩:=(S.ho q hq).ob;rw[VW] at e;show I? (HO.ins.inj (ZO e)).2.2 (by intro z;unfold B7 at z;cases z));.show De? (S.ho q hq).MV;rw[VW] at e;cases e
 show⟨a?,CD,dx,[],A!,VW,TK.cl,TK.nW,JT1,?_⟩;show k x W _ ⟨Hr! Ab,S.keep (CJ! ?_)⟩ e1 e2 e3 e4 e5 e55 e6 e7 (YZ! ?_);.rw[Ad (λz=>Rh! pn)];show e
 .rw[Ad hb];show k0 b u e
def Qr{vs:C!}{H:Hp}{Q Q':VK}{E:XK}(h:Hc! Fx vs)(m:∀v H',Jt!->Q' v H'):Fx vs H Q' E:=by have⟨p,h,W,e,S,k⟩:=h;show⟨p,h,W,e,S,k.imp id ?_⟩;rintro⟨q,G,i,p',G',hs,os,rs,e1,e2,e3,e4,e5,e6,e7,e8,e9,i7,k⟩;show⟨q,G,i,p',G',hs,os,rs,e1,e2,e3,e4,e5,e6,e7,e8,e9,i7,λx H' s t=>L! m (k x H' s t)⟩
open E
def Jxv{x y:Str}(e:x=y):y! JUG:=AR (by rw[e])
def pN{x y:Str}(e:¬x=y):yP!:=AL (Zi! YH!)
abbrev Ju4(ts:G!):B!:=zR!/\YO! JKq
open S
abbrev du(l:y6!):Str:=zA AY! l.2.1 l.2.2.1 l.2.2.2
abbrev Jzv(K:W.Frag)(H:Hp)(y:Sq!)(l:y6!):B!:=∃x,Dp! y.2 [T! AY!,UV l.2.1,T! l.2.2.1,T! l.2.2.2,x]
abbrev zC(ls:JDr):B!:=ls.length<=5000/\Ii! (Sm AY!/\Sm l.2.2.1/\Sm l.2.2.2/\l.2.1.length<=10)
inductive zS(vs:C!)(H:Hp)(Q:VK)(E:XK):B!
 | hand (p pw r:Addr) (W:ET) (h:Int) (_:Gu! A6!) (_:D0!) (_:eg!)
   (_:fL! Fx (JCs (XV/\Jz! HY st!/\Ju4 hs/\qs! (Fh (X7! Br)))))
 | things (p pw r:Addr) (W:ET) (h:Int) (_:Gu! EB!) (_:D0!) (_:eg!)
   (_:fL! Fx (JCs (XV/\Jz! HY st!/\by! Ju4 De!/\qs! (Fh ((De! Bl!).map Br)))))
 | post (p pw r:Addr) (W:ET) (ls:JDr) (_:Gu! BW!) (_:D0!) (_:Zw! Jzv HF! ls) (_:zC ls) (_:qs! (Fh (MM! du)))
def Jvw:JLl vJ:={}
abbrev Juk(K:W.Frag):TE:=UG (gq K) (Bt 0) ij!
def Js1{f f1 f4 f5 f6 f7:Addr}{fd d1 d4 d5 d6 d7:FuncData}(F:a! "look" u4! vJ)(T:Txt)(TR:jD)(TK:yd)(TW:Ga)(M1:JO4 f1 d1)(G1:JM1 GD! Fx)(M4:JQX f4 d4)(G4:EL 2 f4 d4 DG! (Je))(M5:JN! YV! Ks EB! f5 d5)(G5:EL 2 f5 d5 kF! (Lu))(M6:JO3 f6 d6)(M7:JN! YU! Hr E1! f7 d7) : ht! 5 h1! zS:=by have G4':Bs! 2 f4 d4 DG! Je:=NW! G4;have vO:Bs! 2 f5 d5 kF! Lu:=NW! G5;have G6:GX 1 f6 d6 [HL!] Kk:=MW! (P2 M6.fn);have G7:Do! f7 d7 [E1!] Jd:=Jga M7.fn TR;show b? Jvw;show⟨by cases h<;>(rename_i e _ _;subst_vars;rfl),vV!⟩;show Q?;show Aa?;show A8?;show Cm? (WI! (jd! vO OU M5.mg M5.fn.kp M5.bd (CR! (TL! (JS6 wE E3! G1 VM EI!))))) (WI! (jd! vO OU M5.mg M5.fn.kp M5.bd (JSO (Juk K) (Fk (TL! (JS6 wE E3! G1 VM EI!))) (Ao Aw Rs Af)))) (V1! (Ve! cw!) (Ve! cw!) (jd! G6 HJ M6.mg M6.fn.kp M6.bd (JJi (JTx Jd) (Df (Cz (pl:=_) WP wE M4.mt G4' OU M4.bd R! Bi)) G7 A! M7.mg M7.fn.kp M7.bd UA!)));show AF?;cases h with | hand p pw r W h e S QT k =>subst e;show B?;show x?;show c?;rw[Jxv A!];show B3 ⟨Ky? TK.cl TK.nW,y? pw UJ _ A! UH Hq! r _ 0 _ A! (Cq! QT) A!⟩;show Qr k λv H1 z=>?_;have⟨hs,os,rs,s1,rep,sm,kq⟩:=z;have⟨b,x1,x2,x3,rfl,sb,r1,_,_⟩:=Jox rep;have⟨c,cs,rfl,sc,pc⟩:=pH r1;show⟨b,_,0,_,A!,A!,sb,A!,c,cs,hs,A!,o! sc,Jke pc,sm.1,sm.2,λH2 s2=>kq H2 (Ah s1 s2)⟩ | things p pw r W h e S QT k =>subst e;show B?;show x?;show c?;rw[pN ZV];show W?;rw[Jxv A!];show B3 ⟨Ky? TK.cl TK.nW,y? pw UJ _ A! UH Hq! r _ 0 _ A! (Cq! QT) A!⟩;show Qr k λv H1 z=>?_;have⟨hs,os,rs,s1,rep,sm,kq⟩:=z;have⟨b,x1,x2,x3,rfl,sb,_,r2,_⟩:=Jox rep;have⟨c,cs,rfl,sc,pc⟩:=pH r2;show CL? pc;rw[ZA] at hl;have v9:=sm.1;rw[ZA] at v9;show⟨b,_,1,IU? sb c sc BQ!⟩;show Id? Mj (Juk K) (K1! (H2=JEF q ys/\Hz! (i' K H1) ys (os.take i).map Bl!/\vJ!)) (ak! R!) (JMZ (Gc (Ai hq) sc));(.rintro i x ys H2 N hx ⟨rfl,sN,yl⟩ hN;have⟨zi,_⟩:=ZJ hx;have⟨rr,qY⟩:=ZX! os (hl▸zi);have⟨a',EC,rfl,sa,pr⟩:=pH (A6 pc i x (pO rr) hx (Lo! qY));(obtain⟨y1,y2,rfl,q1⟩:HK λy1 y2=>EC=y1::y2/\HY K H1 y1 (QR rr.1):=by cases pr with|cons z1 pr=>show⟨_,_,A!,z1⟩);show B3 ⟨AT? a',0,y1,A!,A!,Gc (Ai hq) sa,wB!,Ab,X!,?_⟩;rw[Ja];show Kw! (JS! ?_ (cq! yl));rw[CY,qY,ZF];show Ep q1.th sN);.rintro ys H2 ⟨rfl,sN,yl⟩;rw[hl,BY] at sN;show⟨q,ys,JAN,A!,JEW,Ax (Od! (z.same (Ai hq))) sN,sm.1,sm.2,λH2 s2=>kq H2 (Ji! s1 (Ai hq) s2)⟩ | post p pw r W ls e S pl sm kq =>subst e;show B?;show x?;show c?;rw[pN ZV];show W?;rw[pN ZV];show W?;rw[pN ZV];show W?;rw[pN ZV];show Bn ⟨F?,p,CD,dx,_,_,A!,hp,TK.cl,TK.nW,Dq,pw,UJ,_,A!,UH,Hq!,pw,W,A!,S.wo,λl H1 hl h1 s1=>?_⟩;have len:=AD! pl;have v9:=sm.1;show D3? l h1 BQ!;show Id? Es (JTx Jd) (K1! (ed!/\Y1! H2 q/\JS3 ls.take du)) (CB! (Ai hq) Ab) (JHR (JDY h1));(.rintro i x ys H2 N hx ⟨s2,VU,rfl⟩ hN;show AU?;show Bt? (G5! hx);have⟨zi,_⟩:=ZJ hy;have⟨le,hle⟩:=ZX! ls (len▸zi);have⟨xx,sx⟩:=A6 pl i y le hy hle;show Bp? (DQ! sm.2 le hle);show B3 ⟨F?,y.2,le.1,aK!,Qx!,NX!,xx,A!,Gc JH4 sx,b1,b2,b3,b4,λH' s3=>JF7 (Ge! VU) (λc o e=>?_) Ab⟩;(.show Be?;lia);(.show CZ? hq s3 s2);.rw[CY,hle,ZF,ZF];rfl);.rintro ys H2 ⟨s2,VU,rfl⟩;rw[ZA,len,BY] at VU;show CS? q (MM! du) VU v9 LR! (kq _ JH4);have⟨le,hle,rfl⟩:=RA!;show Bp? (sm.2 le hle);have l1:=Ca le.1 b1;have l2:=Ca aK! b2;have l3:=Ca Qx! b3;unfold du zA;have:=JT ":" [RE!,NX!,mD!,FG Qx!];have q:Zz! ":":=rfl;simp only[AI,GN,DL,PH,BJ,BR,q] at this;lia
open E
def ua{CX:bV}{k:Nat}{f:Addr}{fd:FuncData}{ps:AC}{a b:Sp}(F:JKd a)(G:JKd b):JKd (ex! a b) :=⟨λvs H Q E h=>Ot! (Hc! F.len vs) (G.len vs H Q E),λA outer s H args us vs Q E hr e bd rv h=>Ot! (F.run A BV! s H D9! us vs Q E hr e bd rv) (G.run A BV! s H D9! us vs Q E hr e bd rv)⟩
def tQ(g:GG):GX 1 Vy Xe GD! Dy:=Dt g.mWH.fn g.T CQ!
inductive ud(vs:C!)(H:Hp)(Q:VK)(E:XK):B!
 | mk (p:Addr) (h:Int) (W:ET) (_:Vi!) (_:Aq!) (_:Yx W h) (_:JDa)
inductive Jul(vs:C!)(H:Hp)(Q:VK)(E:XK):B!
 | mk (p:Addr) (h t:Int) (b:V) (W:ET) (_:vs=[DF!,DH!,T! t,b]) (_:Aq!) (_:Yx W h\/(HK λq G=>CX!)/\Yx W t) (_:JDa)
inductive Jum(vs:C!)(H:Hp)(Q:VK)(E:XK):B!
 | mk (p:Addr) (n:Int) (W:ET) (_:cy!) (_:Aq!) (_:Mj! (AY!≠n)) (_:JL! NL)
def Jyu(g:GG):JNO ud:=by show Ar? g.mWAs.fn aM;have⟨p,h,W,rfl,S,o,k⟩:=h;show A?;show B?;show⟨_,IC? (Ac (Bf (JRl F7! hK! (tQ g) qu! hL!)) Eb) JBh⟩
def Jwh(g:GG):JPl Jul:=by
 show Ar? g.mWSe.fn RD;have⟨p,h,t,b,W,rfl,S,o,k⟩:=h;show A?;show B?;show Q?;show⟨_,Ac (JRe 4 RD.nd (JRu F7! hK! (tQ g) hL!)) (Ac (Bf (JSS F7! hK! (tQ g) HJ hL!)) Eb),_,A!,p,dx,_,A!,hp,Hq!,_,A!,p,h,W,A!,S,?_⟩;rcases o with o|⟨⟨q,G,i⟩,o⟩;.show E? (EW! k)
 .show L? ⟨q,G,K9? i t JBh⟩
def Jyt(g:GG):sZ! Jum:=by show Ar? g.mWDe.fn MB;have⟨p,n,W,rfl,S,o,k⟩:=h;show A?;show B?;show GF?;have G1:GX 1 V9 Xo K0! Tr:=Ja9 g.mPT.fn JB!;show⟨_,Ac (vZ! MB.nd (JSQ g.TP.cl g.mPT.mt G1 qu! g.mPT.bd w!)) Eb,_,A!,p,CW,dx,_,_,A!,hp,F7!,g.TW.nP,D7 W,Bp!,HQ,_,A!,hq,Jk!,_,A!,Bp!,W.pd,W.c,HF!,n,A!,S.po,o! (EW! k)⟩
def Jta(g:GG):xj! Gz Hb ud:=by show Ar? g.mWCl.fn Jff;have⟨p,h,W,rfl,S,o,k⟩:=h;show A?;show B?;show⟨_,Ag (Ap (Jma (pl:=_) Rs F7! g.mWGb.mt (hj! w! (Jpe (pl:=_) (JRl F7! hK! (tQ g) qu! hL!))))),_,A!,p,dx,_,A!,hp,Hq!,_,IC? A! JBh⟩
abbrev Sa:Sp:=ex! Sb Jul
abbrev vE:Sp:=ex! vD ud
abbrev N8:Sp:=ex! Oa ud
abbrev vF:Sp:=ex! Nb Jum
def Jy6(g:GG):JPl Sa:=ua (gSd g) (Jwh g)
def Jy9(g:GG):JNO vE:=ua (gAs g) (Jyu g)
def Jy8(g:GG):xj! Gz Hb N8:=ua (MW! (gWC g)) (Jta g)
def Jy7(g:GG):sZ! vF:=ua (gDl g) (Jyt g)
def J11(g:GG):GX 4 Jy Ka Th! Lp:=KB! Jge g.mWHo.fn g.mHo gHo
def J13(g:GG):GX 5 J0 Kc Th! Lr:=KB! Jgg g.mWDr.fn g.mDr gDr
def J10(g:GG):GX 5 Jw J8 Th! Ln:=KB! Jf9 g.mWTa.fn g.mTa gTa
def J12(g:GG):GX 3 Jz Kb RN! Lq:=KB! Jgf g.mWFr.fn g.mFr gFr
def gDM(g:GG):GX 2 Rv Rz GD! Lo:=KB! Jgb g.mWM.fn g.mM gMk
def Co(W:ET)(n:Str)(h:y! (([C9!,AL!,Db!,Dc!,Dd!,Ch!,Ci!,AM!,gx!]:AC).contains n)):Ab! (Fe W).lookup n:=by simp only[QA,List.contains_nil,Bool.or_false,Bool.or_eq_true,NS] at h;rcases h with h|h|h|h|h|h|h|h|h<;>(rw[h];show Hq!)
def Fd{x y:Str}(e:x=y):y! JUG:=AR (by rw[e])
def D0{x y:Str}(e:¬x=y):yP!:=AL (Zi! YH!)
abbrev Jx5(t:TE):TE:=λσ H Q=>∃Q0:VK,t σ H Q0/\∀v H',Q0 v H'->Jt!
def Jki{X:E!}{e:Expr}{t:TE}(h:CS! e t):PE X e (Jx5 t):=λAB s σ H Q I ⟨Q0,h0,m⟩=>FH (JGS Q0 h0) (Sv! (by have⟨x,H',I',r,q⟩:=h9;show⟨x,H',I',r,L! m q⟩)) λ_ _ z=>z
abbrev uT(v:V)(H:Hp)(Q:VK):B!:=HK λ(l:Addr)(ns:List Int)=>v=JU!/\JHi/\gt! 5000/\(z0!)/\qs! (Fh (CL! FG))
inductive Jn7(vs:C!)(H:Hp)(Q:VK)(E:XK):B!
 | hold (p pw r a b:Addr) (W:ET) (h:Int) (_:Gu! AL!) (_:D0!) (_:JKI) (_:JGL Lp)
 | drop (p pw r a b:Addr) (W:ET) (h:Int) (_:Gu! Db!) (_:D0!) (_:JKI) (_:JGL Lr)
 | take (p pw r a b:Addr) (W:ET) (h:Int) (_:Gu! Dc!) (_:D0!) (_:JKI) (_:JGL Ln)
 | free (p pw r b:Addr) (W:ET) (h:Int) (_:Gu! Dd!) (_:D0!) (_:v9! [DH!,B9!]) (_:JST Lq [aa!,DH!,B9!])
def Jvv:JLl yw:={}
def gMo(g:GG):GX 6 Wb Xr h1! Jn7:=by show Ar? g.mMo.fn Jvv;show⟨by cases h<;>(subst_vars;rfl),vV!⟩;show A8?;show Jg?;show Ds? (Bc cw! (Kx! (JNd g.mWHo.mt J11 lq g.mWHo.bd sO!)) (ok! cw! (JFR WP F7! g.mWDr.mt J13 g.mWDr.bd sO!) (ok! cw! (JFR WP F7! g.mWTa.mt J10 g.mWTa.bd sO!) (Kx! (JNd g.mWFr.mt J12 VM g.mWFr.bd (Mk! ZF! ZF!))))));cases h with | hold p pw r a b W h e S QT k =>subst e;show B?;show x?;show c?;show h?;show B3 ⟨_,A!,p,CD,dx,_,_,A!,hp,TJ!,g.TK.nW,Dq,pw,UJ,_,A!,UH,Hq!,_,A!,r,_,0,_,A!,A!,Cq! QT,A!,_,A!,r,_,LA? 1 2⟩ | drop p pw r a b W h e S QT k =>subst e;show B?;show x?;show c?;show V?;show W?;show h?;show Kl? | take p pw r a b W h e S QT k =>subst e;show B?;show x?;show c?;show V?;show W?;show V?;show W?;show h?;show Kl? | free p pw r b W h e S QT k =>subst e;show B?;show x?;show c?;show V?;show W?;show V?;show W?;show V?;show Bn ⟨F?,p,CD,dx,_,_,A!,hp,TJ!,g.TK.nW,Dq,pw,UJ,_,A!,UH,Co W _ ZV,_,A!,r,_,LA? 0 1⟩
inductive Jun(vs:C!)(H:Hp)(Q:VK)(E:XK):B!
 | make (p pw r:Addr) (W:ET) (h:Int) (_:Gu! C9!) (_:D0!) (_:eg!) (_:fL! Lo (En [v] H' Q E))
 | send (p pw r b:Addr) (W:ET) (h g:Int) (_:Gu! Ch!) (_:D0!) (_:v9! [DH!,K4!,B9!]) (_:Sa [aa!,DH!,K4!,B9!] H (λv H'=>Fv [v] H' Q) E)
 | ask (p pw r:Addr) (W:ET) (h:Int) (_:Gu! AM!) (_:D0!) (_:eg!) (_:fL! vE (Fv [v] H' Q))
 | clean (p pw r:Addr) (W:ET) (h:Int) (_:Gu! Ci!) (_:D0!) (_:eg!) (_:fL! N8 rp!)
 | GC (p pw r:Addr) (W:ET) (n:Int) (_:Gu! Ew!) (_:D0!) (_:v9! [Hv!]) (_:vF [aa!,T! n] H (λv H'=>rp!) E)
def Jyd:JLl ym:={}
def Tl{H H':Hp}{l:Addr}{xs:C!}(s:XV)(h:DZ K H l xs):DZ K H' l xs:=by
 show Gl?;show Ad? (NE s e)
 show Gm? Vn!
 .show L? z
def P3{p l:Addr}{H:Hp}{ns:At}{σ:L2.St}{Q:Gi!}(hp:Kv!)(el:JHi)(z1:gt! 5000)(z2:z0!)(k:∀H2,FJ!->jS! (EO! (CL! FG).map AE!)->Dv!) : Ff! (FV! (FP! (VZ K l).stop Dv! (VZ K l).go (VZ K l).RU (JBi (λ(_:L2.St)(H:Hp)(Q:Bool->Hp->Prop)=>Q q! H) H3 (vi! (JBi Mt H4 JTY) DW!)))):=by
 show Es (K:=K) (a:=l) (p:=p) (xs:=Ug! wp) (tt:=H6!) (te:=Mt) (be:=[]) (σ:=σ) (K1! (FJ!/\JS3 ns.take FG/\Hi!)) (FM! (Ai hp) Ab) (xW! (Tl v6 el) h.2.2) ?_ ?_;.rintro i x ys H2 N hx ⟨s2,rfl,e2⟩ hN;show AU?;have⟨n,hn,rfl⟩:=G5! hx;show B3 (Dn! (GE ⟨n,A!,Cc (z2 n (ZP hn)),e2,?_,JO6 hp s2⟩));(.show Be?;show mq!);.rw[CY,hn,ZF,ZF];rfl
 .rintro ys H2 ⟨s2,rfl,e2⟩;rw[ZA,BY] at e2;show k H2 s2 e2
def J1u(g:GG):EL 1 Vx Xd [Cn!] En:=Uu g.mWt.fn g.TR
def Jzk(g:GG):JNB Wh Xw:=P2 g.mLi.fn
def Nj{ns:At}(z2:z0!):∀y∈Ug! FG,k1!:=Fs! (by have⟨n,hn,rfl⟩:=RA!;show CW! (Ca n (z2 n hn)))
def gAt(g:GG):GX 7 Wz Yj h1! Jun:=by show Ar? g.mAt.fn Jyd;show⟨by cases h<;>(subst_vars;rfl),vV!⟩;show Q?;show Aa?;show A8?;show Jg?;show Cm? (WI! (JJo J1u g.mWt.mg g.mWt.fn.kp g.mWt.bd (CR! (rr! g.mWM.mt gDM OU g.mWM.bd)))) (WI! (Z1! (JNd g.mWSe.mt Jy6 lq g.mWSe.bd sO!))) (V1! (WI! (Z1! (rr! g.mWAs.mt Jy9 VM g.mWAs.bd))) (WI! (JJo Jzk g.mLi.mg g.mLi.fn.kp g.mLi.bd (JMz (Df (Jki (rr! g.mWCl.mt Jy8 VM g.mWCl.bd)))))) (JJo Jzk g.mLi.mg g.mLi.fn.kp g.mLi.bd (JMz (Df (Jki (rr! g.mWDe.mt Jy7 hr g.mWDe.bd))))));cases h with | make p pw r W h e S QT k =>subst e;show B?;show x?;show c?;show h?;show B3 ⟨Fi?⟩ | send p pw r b W h t e S QT k =>subst e;show B?;show x?;show c?;show V?;show W?;show h?;show Kl? | ask p pw r W h e S QT k =>subst e;show B?;show x?;show c?;show V?;show W?;show V?;show W?;show h?;show B3 ⟨Fi?⟩ | clean p pw r W h e S QT k =>subst e;show B?;show x?;show c?;show V?;show W?;show V?;show W?;show V?;show W?;show h?;show B3 (Hy! (λv H'=>rp!) ⟨Fi?⟩);rintro v H' ⟨l,ns,rfl,el,z1,z2,kq⟩;show⟨l,A!,Bq! el,AN! (P3 hq el z1 z2 λH2 s2 e2=>⟨q,Ug! FG,A!,e2,CY! z1,Nj z2,kq H2 s2⟩)⟩ | GC p pw r W n e S QT k =>subst e;show B?;show x?;show c?;show V?;show W?;show V?;show W?;show V?;show W?;show V?;show Bn (Hy! (λv H'=>rp!) ⟨Fi?⟩);rintro v H' ⟨l,ns,rfl,el,z1,z2,kq⟩;show⟨l,A!,Bq! el,AN! (P3 hq el z1 z2 λH2 s2 e2=>⟨q,Ug! FG,A!,e2,CY! z1,Nj z2,kq H2 s2⟩)⟩
open E K51
open N FX
open PySem PySem.Spec PyProof.Rows L2
def zE:∀d,d<10->(hM! d).toNat=48+d:=wP
def Jmj(a:Bh!)(c:Nat):G8! (a++[c])=G8! a*10+(c-48):=by unfold numOf;rw[QW];rfl
def Jmi:∀n:No,G8! (yI! Xy!)=n:=λn=>by induction n using Nat.strongRecOn with | _ n ih =>rw[TN! Nat.toDigits_eq_if];show D? (n<10);(.rw[AE c];change 0*10+((hM! n).toNat-48)=n;rw[zE n c];lia);.rw[AD c,ZF];change G8! (_++[(hM! (n % 10)).toNat])=n;rw[Jmj,ih (n / 10) i!,zE _ (Nat.mod_lt _ TD)];lia
def Jqj:∀n:No,((uL! 10 n).map Xy!).head?=D! 48->n=0:=λn=>by induction n using Nat.strongRecOn with | _ n ih =>rw[TN! Nat.toDigits_eq_if];show D? (n<10);(.rw[AE c];intro h;have h:(hM! n).toNat=48:=ZO h;rw[zE n c] at h;lia);.rw[AD c,ZF];intro h;have ne:(uL! 10 (n / 10)).map Xy!≠[]:=GN! Nat.toDigits_ne_nil uM!;have⟨a,r,e⟩:=KL ne;have:=ih (n / 10) i! (by rw[e];show AC?;show h);lia
def Jk8{i:Int}(h:Sm i):iJ (FG i):=Jhq v6 (bz! h.2 (JCV this))
def Uj{i:Int}(h:Sm i):AT Gm (FG i) i:=by
 have d:=Jk8 h;have⟨n,rfl⟩:=Int.eq_ofNat_of_zero_le v6;have e:kS! DN!=yI! Xy!:=Pb n;have ok:y! (pT (FG DN!)):=by unfold pT;rw[N'.mpr d.d,AR d.l];(have l1:1<=NS! DN!:=U! Sg! (Yv! d.n));rw[AR l1];show D? ((FG DN!).cps.toList.head?=D! 48);(.have z:n=0:=Jqj n (p4!);subst z;rfl);.rw[AL c];rfl
 unfold Gm;rw[AE ok,e,Jmi]
def Nx{i:Int}(h:Sm i):32∉(FG i).cps.toList/\46∉(FG i).cps.toList:=(Jk8 h).free
def Sx(t:T2):(Br t).cps.toList=kS! lc++46::kS! AX!:=D3 46 (FG lc) (FG AX!) []
def Jij{t:T2}(h1:Sm lc)(h2:Sm AX!):AT Ji (Br t) (.t lc AX!):=by
 have e:KS! (Br t) "."=qg!:=Tn (c:=46) KB λp hp=>by show Eg?;(.show(Nx h1).2);.rw[ZK hp];show(Nx h2).2
 unfold Ji;rw[e];change((Gm (FG lc)).bind λi=>(Gm (FG AX!)).map λj=>Arg.t i j)=_;rw[Uj h1,Uj h2];rfl
abbrev F3:Arg->Str
 | .n i=>FG i
 | .t i j=>Br (i,j)
abbrev gn:Arg->A3!
 | .n _=>true
 | .t _ _=>false
abbrev Rl:JG! Arg
 | .n i=>Sm i
 | .t i j=>Sm i/\Sm j
def Jxj{a:Arg}(h:Rl a):Jh (gn a) (F3 a)=D! a:=by cases a with | n i=>change(if true=true then(Gm (FG i)).map Arg.n else _)=_;rw[BG!,Uj h];rfl | t i j=>change H4! fx! _ (Ji (Br (i,j)))=_;rw[aM!,Jij (t:=(i,j)) v6 h.2]
def Jrg{a:Arg}(h:Rl a):32∉(F3 a).cps.toList:=by cases a with | n i=>show(Nx h).1 | t i j =>change 32∉(Br (i,j)).cps.toList;rw[Sx];intro z;show d? (ZI z);(.show(Nx v6).1 z);.show d? (ZM z);(.cases z);.show(Nx h.2).1 z
def Sv{a:Arg}(h:Rl a):Ee! F3 a 19:=by cases a with | n i=>show BY? (Ca i h) | t i j =>change Ak! Br (i,j)<=19;rw[Sg!,Sx,ZE,BJ,<-Sg!,<-Sg!];have h1:=Ca i v6;have h2:=Ca j h.2;change NS! i+(NS! j+1)<=19;show AF (MM h1 h2) TD
def Jfx:∀{as:lE!},(k0!)->Uz! (Gh (Ar! gn) (Ar! F3))
 | [],_=>rfl
 | a::as,h=>by change((Jh (gn a) (F3 a)).bind λb=>(Gh (Ar! gn) (Ar! F3)).map λr=>b::r)=_;rw[Jxj (h a Hp!),Jfx (ut (h b (AH! hb)))];rfl
abbrev Fz(v:Str)(as:lE!):Str:=Da! " " (k2!)
def Jv0{v:Str}{as:lE!}(hl:JLh v Ar!)(h:k0!):KS! (Fz v as) " "=k2!/\Uz! (Si v (Ar! F3))/\Ja! Fz v as 1000:=by
 have fr:=Jkx hl;show S? (Tn (c:=32) KB Eb!) ?_;.show Eg?;(.show fr.1);.have⟨a,ha,rfl⟩:=ZN hp;show Jrg (h a ha)
 .unfold Si;rw[hl];change(if wo! F3=wo! gn then Gh (Ar! gn) (Ar! F3) else none)=_;rw[AE (by rw[ZA,ZA]),Jfx h]
 .have e:=JT " " (k2!);show H2?;(have l3:as.length<=3:=by have:=fr.2.2;show BA? ZA);(have s1:=LX (B:=19) (Ar! F3) (Fs! (by have⟨a,ha,rfl⟩:=RA!;show Sv (h a ha))));simp only[AI,DL,BJ,ZA,q] at e s1;have f2:=fr.2.1;have:as.length*19<=3*19:=EJ _ l3;unfold Fz;lia
open E FX
open N K51
open PySem L2 FX
def Yl(xs:C!)(k:Nat):Pi xs (D! EX!) KM=xs.drop k:=by
 unfold Pi HT.JP;rw[JN];.by_cases h:k<=xs.length;(.congr 1;simp;show Nat.min_eq_left h);.rw[List.drop_of_length_le (by simp;lia),List.drop_of_length_le (CF (Nat.not_le.mp h))]
 .rw[t7!];simp
def Jxf(xs:C!)(k:Nat):JMb xs EX!=xs.take k:=by unfold Pi HT.JP;simp;split<;>omega
abbrev QS:C!:=[UV AL!,UV Db!,UV Dc!,UV Dd!]
abbrev ak:C!:=[UV C9!,UV Ch!,UV AM!,UV Ci!,UV Ew!]
inductive Qw(vs:C!)(H:Hp)(Q:VK)(E:XK):B!
 | mk (p:Addr) (v:Str) (as:bx!) (_:Y8! (UV (Fz v as))) (_:JLh v Ar!) (_:k0!) (_:HK λdx x=>JIK x)
   (_:∀r xs H1,VG!->lt! H1 xs->JMW H1 xs->(V2! v->Jn7 JL6 H1 (λ_ H'=>wI! "ok") E)/\(nx!->V3! v->Jun JL6 H1 Q E)/\(nx!->m9! v->zS JL6 H1 Q E))
def gRw(g:GG):GX 3 V5 Xk [O8!,HL!] Qx:=MW! (Jdj g.mRw.fn g.TR g.FK g.mRn g.mRd)
def J1z(g:GG):EL 2 Wi Xx kF! Lu:=Jiu g.mLg.fn g.TR g.mWt g.mLi
def gLk(g:GG):GX 5 Wf Xv h1! zS:=Js1 g.mLk.fn g.T g.TR g.TK CQ! g.mWSt (Jzb g) g.mWLe (og g) g.mLg (J1z g) g.mLi g.mWl
def au:Al! [B7!,"row",HL!,O8!,"given"] b5! yn:={}
def gSy(g:GG):GX 8 Rw R1 b5! Qw:=by show Ar? g.mSy.fn au;have⟨p,v,as,rfl,hl,ha,⟨dx,x,hp⟩,k⟩:=h;have⟨es,ra,hz⟩:=Jv0 hl ha;generalize Fz v as=z at es hz;show A?;show A8?;have hr5:DW 5 _:=Y3!;have xG:DW 6 _:=Y3!;show BH? au.nd (F4 HX PySem.F.slot_str_split PySem.F.type_str_split Jgy w! (CR! As)) (rM! au.nd ZF! au.nd (jd! (gRw g) VM g.mRw.mg g.mRw.fn.kp g.mRw.bd (Zc! (Ii Jr4 EQ ey! Ma))) (V1! (Bc (Au Mc AI! (Bh JPE) A!) (Ac (Bf (Y2! Rs TJ! g.mMo.mt (gMo g) xG g.mMo.bd nb!)) (Hb! As)) A5) (JDR AI! (Aa As JPE) (JFR Rs TJ! g.mAt.mt gAt g.mAt.bd nb!)) (Y2! Rs TJ! g.mLk.mt (gLk g) hr5 g.mLk.bd nb!)));show AF?;have w0:∀y∈KS! z " ",y.length<=1000:=Fs! (AA (PyProof.Rows.part_short hy) hz);show⟨_,A!,A!,z," ",A!,A!,A!,X!,Jl!⟩;show Dj? (KS! z " ").map AE! hl;rw[es] at s1 w0 ⊢;show Dr? l _ 0 Ld! wB!;show⟨F?,_,A!,1,A!,l,_,A!,Ld!,BQ!⟩;rw[Ih! (bQ! H5! 1),Yl];have s2:=HX! (.BK ((Ar! F3).map AE!)) hq;show⟨v,q,Ar! F3,as,A!,Ab,ev! w0,ra,λr xs H1 s3 HJ pa=>?_⟩;have s4:=XE!;show⟨_,A!,JTU,Ay! ⟨GR? t QS (id! Ab)⟩⟩;have s5:=ET! QS ht;show DG? (k r xs _ (Ah s4 s5) (NE s5 HJ) (Ax (Od! (z.same s5)) pa));show Ku? v QS;cases c:MJ (AE! v) QS with | true=>show B3 ⟨JF? s5 s4 hp (k1 c)⟩ | false =>show Bn ⟨_,A!,RO! 5,JLO ak⟩;have s6:=ET! ak oN;show DG? (k r xs _ (Ji! s4 s5 s6) (GT! s6 s5 HJ) (Ax (Od! (z.same (Ah s5 s6))) pa));show Ku? v ak;cases c2:MJ (AE! v) ak with | true=>show B3 ⟨JF? s6 s5 (NE s4 hp) (k2 c c2)⟩ | false=>show Bn ⟨JF? s6 s5 (NE s4 hp) (k3 c c2)⟩
def mY{A B:TS}{D:Ends}{σ:L2.St}{H:Hp}(R:UQ!)(h1:∀nx,(wL! R (nx GA H'))->A { D with nx:=nx } σ H)(h2:wL! R (B D GA H')):Jx3 A B D σ H:=h1 _ h2
def mD(g:GG):EL 1 Wy Yi [HK!,MR!] Jn9:=Js6 g.mC1.fn g.T.len
def YC:IF! [YW!,MS!,"_law_xs","_law_number",MR!] YW! MS! Jc5:={}
inductive Jn6(vs:C!)(H:Hp)(Q:VK)(E:XK):B!
 | mk (c:Int) (m:Nat) (_:vs=[T! c,T! m]) (_:m<=20) (_:∀(l:Addr)(xs:At)(H':Hp),XV->P5!->ec! D5! wp->xs.length=m->(∀x∈xs,0<=x)->TR! l)
def gSm(g:GG):EL 1 V3 Xi [YW!,MS!] Jn6:=by
 show m? g.mSm.fn.KD YC;have⟨c,m,rfl,hm,k⟩:=h;show A?;show BH? YC.nd Lr! (Nr! YC.nd (Ph! Rs) (af! (Ih A! g.T.range La!) 4 YC.nd (Nr! YC.nd (Ph! (cl! (Be Nh AI! Af))) (sj! EQ AI!)) JDg));show⟨wP,Jl!⟩;show⟨t?,_,A!,A!,JDo,?_⟩;show⟨_,A!,Bt!,A!,DO!,e7! hm,?_⟩;rw[CZ];show Gj? 0 m (λi σ H2=>NM λ(xs:List Int)(z:Int)(u:Option V)=>σ=[Du! c,Du! m,Nl!,Du! z,u]/\FJ!/\U0! l (EO! D5! wp)/\xs.length=i/\∀x∈xs,0<=x) ⟨[],_,_,A!,Ai hl,Ab,A!,λx hx=>GG! hx⟩;.rintro i σ H2 hi ⟨xs,z,u,rfl,s2,e2,len,nn⟩;show⟨_,A!,_,_,A!,A!,e8!,_,_,A!,A!,_,_,A!,A!,JDo,?_⟩;have y0:=eO! (z*48271+12345) 2147483647;generalize (z*48271+12345) % 2147483647=y at y0;show⟨AT? (IP! e2),A!,l,_,_,A!,A!,e2,ee! Bz,?_⟩;show⟨xs++[y],_,_,A!,JR7 hl (Jb! s2),JLZ,cq! len,H9!⟩;show j? hx;(.show nn x h);.rw[ZK h];show y0
 .rintro σ H2 ⟨xs,z,u,rfl,s2,e2,len,nn⟩;show P? (k l xs H2 s2 hl e2 len nn)
def E8{l:GV!}{cl:CF!}{y:Str}(h:y! (l.all (λp=>pi != OT!&&pi != Eq!)))(h2:JMs):Lv!:=by
 have key:∀k,JLp->AU! (k != OT!&&k != Eq!):=λk e=>bz! (N'.mp h (y,k) (lookup_mem e)) this
 rcases h2 with e|e;.show EU?
 .show EU?
abbrev jx(n:Nat):FL!:=[n==0,n==1,n==2,n==3,n==4,n==5,n==6,n==7]
inductive Jj7(ex:Addr)(vs:C!)(H:Hp)(Q:VK):B!
 | mk (cls:Addr) (n:Nat) (_:vs=[h! ex]) (_:BE! ex (mX ex ww)) (_:cq ww n) (_:Zr! (jT! n))
def WX:P7! [MT!,"_law_some"] MT! uq:={}
def Jpx{f:Addr}{fd:FuncData}(F:a! g2! g2! uq)(g:GG):JRL 1 f fd [MT!] Jj7:=by
 show C4?;show Jw6 lk TH WX (λex vs H Q h=>?_) λex A outer s H vs Q hr h=>?_;.have⟨cls,n,rfl,_⟩:=h;rfl
 .have⟨cls,n,rfl,he,xf,k⟩:=h;show CA? WX.nd (Eh (vj! (OM! NH g.TW.cNH.mg) (OM! NJ g.T.q_.mg) (OM! OM g.T.q8.mg) (OM! MI g.T.cMI.mg))) (JHy 1 WX.nd (Be Jpm w! (Eh (vj! (OM! NW g.T.cNW.mg) (OM! NL g.TP.cNL.mg) (OM! NI g.cNI.mg) (OM! NR g.cNR.mg)))) (Pb! (rg! (zJ (F1 (A7 Ee Dk! g.T.VL CK (hj! Rs (Sk (v:=.ty Ov!) Dk! g.vY Jt4 A!))))) (JEl (jW! (Jpi (te:=Ef!) (be:=[]) A! (Jpb (pv 1)) A! ZV A! ZV A! CM! (λy h=>E8 A! h) CM! ZV (PS! (Du (F1 Rs))) (PS! (pv 0)))))) JOg) (aR! PySem.F.slot_list_index PySem.F.type_list_index Jmm w! Ij));have VL:∀{D:Addr} {b:Bool} {H':Hp} {Q':VK},XV->Oi! K (IN ww) (IN D)=D! b->Q' (bv b) H'->Yw K [h! ex,h! D] H' Q':=λ{D b H' Q'} s' kk q=>⟨ex,ww,h! D,h! D,b,A!,A!,L! s' he,xf.isX,kk,q⟩;show P? (VL M9! xf.k0 (VU! M9! xf.k1 (VU! M9! xf.k2 (VU! M9! xf.k3 (U2! (λa1 h1=>?_))))));have s1:=VV! [Nq! 0,Nq! 1,Nq! 2,Nq! 3] h1;show B1? _ (VL s1 xf.k4 (VU! s1 xf.k5 (VU! s1 xf.k6 (VU! s1 xf.k7 (U2! (λa2 h2=>?_))))));have s2:=VV! [Nq! 4,Nq! 5,Nq! 6,Nq! 7] h2;show⟨a1,a2,_,_,A!,A!,UO! s2,Ab,RO! 8,λa3 h3=>?_⟩;have s3:=HX! (.BK (fc!++fd!)) h3;have XE:=XE!;have e3:AT (PQ! (PQ! (PT! a1 fc!) a2 fd!) a3 (fc!++fd!)) a3 (EO! (jx n).map D8!):=Ab;generalize ZU! (PQ! (PT! a1 fc!) a2 fd!) a3 (fc!++fd!)=H3 at XE e3 ⊢;show P? ⟨ex,ww,.ty Ov!,JR0,q!,A!,A!,L! XE he,xf.isX,xf.kV,q!,A!,?_⟩;show k?;show CX? a3 e3 (λp4 h4=>?_);show Jjg (C:=ww) (ex:=ex) (xs:=ER! jx n D8!) (tt:=tB (Bt 0)) (te:=Ef!) (be:=[]) (σ:=[cQ!,A1! a3]) (λi ys H4=>BZ H3 H4/\JCO p4/\ys=ER! ((jx n).take i).filter id D8!) (CB! (Ai h4) Ab) (λi ys H4 _ h=>⟨JDY e3,h.2.1,FF! v6 XE he⟩) ?_ ?_;(.rintro i x ys H4 N hi ⟨s4,e4,rfl⟩ hN;rw[ZH] at hi;have⟨b,hb,rfl⟩:=G5! hi;have hlen:zz! ((jx n).take i).filter id:=AF (BC ..) (AF (List.length_take_le' ..) (by change 8<sizeLine;decide));show DQ? b;cases b with | false =>show Bn (NE hN (Hy! s4 e4));rw[CY,hb];simp | true =>show B3 ⟨_,A!,e4,CY! C8!,xR! (λb' o e=>?_) Ab⟩;(.rw[Ad (Ak e h4)];show L! s4 e);.rw[CY,hb];simp);.rintro ys H4 ⟨s4,e4,rfl⟩;rw[ZA,BY] at e4;(have l1:Ak! (jx n).filter id=1:=by have:=xf.lt;match n,this with | 0,_|1,_|2,_|3,_|4,_|5,_|6,_|7,_=>rfl);(have l2:(jx n).idxOf q!=n:=by have:=xf.lt;match n,this with | 0,_|1,_|2,_|3,_|4,_|5,_|6,_|7,_=>rfl);show⟨p4,_,A!,P2! e4,?_⟩;rw[ZA,l1];show⟨A!,am,sK,Bn ?_⟩;show⟨R? (GE (JS! _ (Ms! s4 e3))),a3,jx n,n,A!,A!,GX! e3,l2,xf.lt,k _ (Ah XE s4)⟩
def gCs(g:GG):JRL 1 Wu Ye [MT!] Jj7:=Jpx g.mCs.fn g
def WI.upn(x:SB)(cA:I8!)(cB:Mh!):WI H p W D m He! (d+1) A' B' al ys:=by show Bv?;have a2:=x.ez;have a3:=x.fz;show Bw?;show{ x with wg:=x.wg.up,md:=BW a1,ez:=CC a2,fz:=CC a3,iz:=CC a4,pb:=⟨AA cA x.pb.1,AA x.pb.2 cB⟩ }
abbrev M_(H:Hp)(x:Addr):VS!
 | .make h=>JMO C9!
 | .hold h ta tb=>JQ9 AL!
 | .drop h ta tb=>JQ9 Db!
 | .take h ta tb=>JQ9 Dc!
 | .free h tb=>∃b,M3! [UV Dd!,DH!,B9!]/\BA!
 | .send h g tb=>∃b,M3! [UV Ch!,DH!,K4!,B9!]/\BA!
 | .clean h=>JMO Ci!
 | .ask h=>JMO AM!
 | .GC n=>M3! [UV Ew!,T! n]
def M_.keep(k:BB!)(h:Wi!):M_ H' x dd:=by cases dd with | make h'=>show Em? | hold h' ta tb=>show Ki? | drop h' ta tb=>show Ki? | take h' ta tb=>show Ki? | free h' tb=>have⟨b,h1,h2⟩:=h;show⟨b,Mp! h1,Mp! h2⟩ | send h' g tb=>have⟨b,h1,h2⟩:=h;show⟨b,Mp! h1,Mp! h2⟩ | clean h'=>show Em? | ask h'=>show Em? | GC n=>show Em?
abbrev pK(W:ET)(m:Nat):VS!
 | .send h g _=>h<m/\g<m
 | .GC n=>NM λl1 l2 t=>W.ls=l1++(n,t)::l2
 | d=>d.at<m
abbrev DoA(p:Addr)(H:Hp)(Q:VK)(E:XK):VS!
 | .make h=>V5! Lo
 | .hold h ta tb=>JQB Lp
 | .drop h ta tb=>JQB Lr
 | .take h ta tb=>JQB Ln
 | .free h tb=>∀b,BA!->Hc! Lq [DF!,DH!,B9!]
 | .send h g tb=>∀b,BA!->Hc! Sa JH7
 | .clean h=>V5! N8
 | .ask h=>V5! vE
 | .GC n=>Hc! vF [DF!,Hv!]
structure Yu(H:Hp)(v:V)(d:PyData):B! where
 rep:JGi
 ok:xo! 5
def Jgn{H:Hp}:∀L:j!,Wz! (BX! λz=>xz z.1) xa! V!
 | []=>R!
 | z::L=>SC (V! _) (Jgn L)
def Hj{H:Hp}{y:Addr}{L:j!}(e:BE! y xT!):Yu H aZ! (Ju L):=by
 show f? (JLs e Jgn L);show U? (Cd! ye n 1 ds (mM! BX! hN!) (λd hd=>by have⟨i,_,rfl⟩:=ZN hd;show AS? (by simp[PyData.depth])))
 unfold Ju;show⟨by simp only[PyData.canLay0,h1],by simp only[PyData.depth];show ZV! h2⟩
open S
variable {H:Hp}{p:Addr}{W:ET}{D:T2->Prop}{m n d B B':Nat}{al:List LL}{ys:List Qy}{dd:DD}{Q:VK}{E:XK}
def Jw9(g:GG)(x:JCd)(hn:Ae!)(hB:Bx!)(hd:Nf!)(m4:FW!)(cB:eJ!)(ok:pK W m dd)(k:∀(v:V) (dv:PyData) (W':ET) (D':AQ!) (al':l!) (EC:GM) (H':Hp),rj!->JFZ Uc!->JPV->R6!->Wd!->Ys!->Jt!)(kE:JLP (Ef m W W al al ys ys H dd Vj!) (JL! ww)):DoA p H Q E dd:=by
 have kk:KT p K W m n d 0 B' ys H Q (λv W' al' EC H'=>∃dv,rj!/\JFZ Uc!):=λv W' D' al' EC H' r fp wi fr ehs=>by have⟨dv,h1,h2⟩:=r;show k v dv W' D' xL EC H' h1 h2 wi fr fp ehs
 have gB:∀{h:Nat},h<m->HK λq G=>JCE/\JC2:=λ{h} hh=>by have⟨⟨q,G⟩,e⟩:=rY! Mi! hh;show⟨q,G,e,DO!,e⟩
 have tn:∀H',Yu H' Av! IR:=λH'=>FM! (EM! Av!) wP;have ti:∀H' i,U7! Yu H' i V! i:=λH' i=>FM! (EM! (V! i)) (by simp[PyData.depth]);cases dd with | make h =>show A3?;show(Jtx x hn hB i Dw! Wg! kk λt a W' H' et nw e=>BM! ⟨EM! (M0 et),(Tf _).1,CW! (Tf _).2⟩ (.JD _ q G _ _ hi (Ki! h G a) e PL! A! A!)) | hold h ta tb =>show A3?;intro a b ea eb;by_cases c1:BZ!/\B8!;(.have⟨ha,hb⟩:=c1;show HL?;(.show fS! Jty i ea eb ha hb c2 Wg! (qt! (HQ! h ta tb G ha hb c2)));.show EK? (UV! ⟨ha,hb,c2,JMj (.rO h ta tb G ha hb c2)⟩));.show EK? (JKN c1 .rP (Classical.not_and_iff_not_or_not.mp c1)) | drop h ta tb =>show A3?;intro a b ea eb;by_cases ha:BZ!;(.show HL?;(.by_cases hb:Nd!;(.show fS! Jt0 i ea eb ha hb c2 Wg! (qt! (rv! JC!)));.have⟨ad,fd⟩:=(I9! SZ).1.ok.find ha c2;show DS? (o! ⟨GX? (sy! c2 (JSf hb g.X3 3 (rv! .rS)))⟩));.show EK? (UV! ⟨ha,c2,JMj (.rT h ta tb G ha c2)⟩));.show EK? (JKN ha .rV ha) | take h ta tb =>show A3?;intro a b ea eb;have z1:=(I9! SZ).1.ok.hz;by_cases ha:BZ!;(.show HL?;(.by_cases hb:Nd!;(.show fS! Jtv i ea eb ha hb c2 Wg! (qt! (rv! JD!)));.have⟨ad,fd⟩:=(I9! SZ).1.ok.find ha c2;show DS? (o! ⟨Fh? (sy! c2 (JSf hb g.X3 3 (rv! .take3)))⟩));.show DS? (o! ⟨Fh? (UV! ⟨ha,c2,JMj (.take2 h ta tb G ha c2)⟩)⟩));.show DS? (o! ⟨Fh? (JKN ha .take1 ha)⟩) | free h tb =>show A3?;intro b eb;by_cases hb:B8!;(.show Jtz x hn hB i eb hb Dw! Wg! kk (qt! (Eq! h tb G hb)));.show⟨p,_,_,W,A!,Az!,o! ⟨q,G,i,q,b,G,tb,A!,i.at Az!,eb,JUF hb (.rR h tb G hb)⟩⟩ | send h g' tb =>have⟨o1,o2⟩:=ok;have⟨q,G,hi,i⟩:=gB o1;intro b eb;show S! ?_;by_cases hb:B8!;(.show Jtw x hn hB i Ng! (G6! o2) eb hb Dw! (AA (IT TD _) cB) kk (λW' G' l t H' se nw e=>BM! (ti _ _) (HR! h g' tb q G G' l t hi hb se e PL! A! A!)) λc2 w0=>FS kE g.X4 (.no _ q G 4 hi (.jH h g' tb G hb c2 w0) A! A! A!));.have z1:=(I9! SZ).1.ok.oz;have z2:=(I9! SZ).1.ok.rz;show Ak?;have⟨q2,G2,_,i2⟩:=gB o2;show⟨p,b,_,_,W,tb,q,G,A!,Az!,eb,i,⟨q2,G2,i2⟩,jA!,JE1,CW! z3,JUF hb (.jI h g' tb G hb)⟩ | clean h =>show S! ?_;show A3?;show(Jqz x hn hB i Dw! Wg! kk λy W' k9 R' rs H' L rc pm pw nw e ey=>BM! (Hj ey) (Yt! h q G k9 R' rs L hi rc pm pw e PL! A! A!)) | ask h =>show S! ?_;show A3?;show(Jxb x hn hB hd i Dw! i! kk λW' L H' io I nw el e=>BM! (ti _ _) (I3! h io I L e PL! A! A!)) | GC BQ =>show S! ?_;have⟨l1,l2,t,el⟩:=ok;have lw:=x.lw;rw[el] at lw;have⟨a,z,b,es,p1,p2,p3⟩:=Jn3 lw;have ll:=AD! p1;cases z with | w l=>show Jm8 x hn hB el es p1 p2 p3 Dw! sm! kk λy L bs W' q G G' H' hi we nw e ey=>qL! ⟨l1,l2,t,a,_,b,el,es,ll,PL!,A!,nw.fi,q,G,G',bs,hi,we,e,A!⟩ | ask s g n' u=>show fS! Jq0 hd el es p1 p2 p3 sm! (λy L W' H' q G hs os rs hi tl nw e ey=>qL! ⟨l1,l2,t,a,_,b,el,es,ll,PL!,A!,nw.fi,e,q,G,hs,os,rs,hi,tl,A!⟩) | MY s g n' u tk S=>show fS! Jm9 hd el es p1 p2 p3 sm! (λv L W' al' EC H' e nv ey an=>qL! ⟨l1,l2,t,a,_,b,el,es,ll,nv,e,an⟩) | lt s g ts=>show Jxa x hn hB el es p1 p2 p3 Dw! sm! kk λy L W' H' q G hs os rs hi tl nw e ey=>qL! ⟨l1,l2,t,a,_,b,el,es,ll,PL!,A!,nw.fi,q,G,hs,os,rs,hi,tl,e,A!⟩
abbrev yc(m:Nat):VS!
 | .send h g _=>¬(h<m/\g<m)
 | .GC _=>False
 | d=>¬d.at<m
inductive RW(m:Nat)(W W':ET)(al al':l!)(ys EC:GM)(H':Hp):xD! DD
 | ok (d:DD) (v:PyData) (o:pK W m d) (e:JFY v):wa! d v
 | out (d:DD) (o:yc m d) (e:W'=W) (ea:al'=al) (ey:Kh!):wa! d (YG 0)
 | WJ (n:Int) (o:n∉ci I1!) (e:W'=W) (ea:al'=al) (ey:Kh!):wa! (.GC n) (YG 5)
def Jq6{dd:DD}{W:ET}(o:pK W m dd)(n:yc m dd):Or!:=by cases dd with | GC=>show n | send h g tb=>show n o | make h=>show n o | hold h ta tb=>show n o | drop h ta tb=>show n o | take h ta tb=>show n o | free h tb=>show n o | clean h=>show n o | ask h=>show n o
def Juu{n:Int}{W:ET}(o:pK W m (.GC n)):n∈ci I1!:=by have⟨l1,l2,t,e⟩:=o;rw[e];simp
def RW.one{H' H1 nC H3 H4:Hp}{r:Addr}{W' V V':ET}{D' E1 E':AQ!}{n' n1 lP d' d1 mL A A' A1 nJ B1 nG:Nat}{al' bl XU:l!}{EC zs XD:GM}{v v':PyData}(x:L2!)(wi:SB)(OS:R9!)(vi:im! H1 r E1 n1 d1 A1 B1)(cM:tG!)(a:RW m W W' al xL ys EC H3 dd v)(b:RW m V V' bl XU zs XD H4 dd v'):tF! (v=v'):=by cases a with | ok _ _ o e =>(cases b with | ok _ _ o2 e2=>show Ef.one x wi OS vi cM e e2 | out _ o2=>show(Jq6 o o2).elim | WJ n o2=>show(o2 (A0! x.nu (Juu o))).elim) | out _ o e ea ey =>(cases b with | ok _ _ o2=>show(Jq6 o2 o).elim | out _ o2 e2 WD bQ=>show GN?;show⟨x,A!⟩ | WJ n o2=>show o.elim) | WJ n o e ea ey =>cases b with | ok _ _ o2=>show(o (ac! x.nu Juu o2)).elim | out _ o2=>show o2.elim | WJ n o2 e2 WD bQ=>show GN?;show⟨x,A!⟩
def Fu(g:GG)(x:JCd)(hn:Ae!)(hB:Bx!)(hd:Nf!)(m4:FW!)(cB:eJ!)(k:∀(v:V) (dv:PyData) (W':ET) (D':AQ!) (al':l!) (EC:GM) (H':Hp),rj!->JIL->JPV->R6!->Wd!->Ys!->Jt!)(kE:JLP (JKX H Vj!) (JL! ww)):DoA p H Q E dd:=by
 show D? (pK W m dd);.show Jw9 g x hn hB hd m4 cB c (λv dv W' D' al' EC H' tl ef=>k v dv W' D' xL EC H' tl (.ok _ _ c ef)) (vS! (kE ww i xf (.ok _ _ c ef)))
 have ow:∀{h:Nat},¬h<m->Yx W ii:=λ{h} z=>LF! d! Mi! (MC! (G1! z));have no:∀(o:yc m dd),JDa:=λo=>FS kE g.X0 (.out dd o A! A! A!);cases dd with | make h=>show⟨p,_,W,A!,Az!,JUA⟩ | hold h ta tb=>show Fj? | drop h ta tb=>show Fj? | take h ta tb=>show Fj? | free h tb=>show λb _=>⟨p,_,_,W,A!,Az!,JUA⟩ | clean h=>show L? ⟨p,_,W,A!,Az!,ow c,no c⟩ | ask h=>show L? ⟨p,_,W,A!,Az!,ow c,no c⟩ | send h g' tb =>show λb _=>o! ⟨p,_,_,_,W,A!,Az!,?_,no c⟩;by_cases c1:h<m;(.have⟨⟨q,G⟩,e⟩:=rY! Mi! c1;show GM! ⟨q,G,DO!,e⟩ (ow λz=>c ⟨c1,z⟩));.show S! (ow c1) | GC BQ =>have nl:Mj! (AY!≠BQ):=YG! (c (by have⟨l1,l2,e2⟩:=IB hl;show⟨l1,l2,l.2,by rw[e2,<-e]⟩));show o! ⟨p,BQ,W,A!,Az!,nl,FS kE g.X5 (.WJ BQ (λz=>by have⟨l,hl,e⟩:=ZN z;show nl l hl e) A! A! A!)⟩
open E
def OT(k:Vc! tb)(ex:nD! (UV wd::r))(hv:Uy! (JI! x):=by rfl)(ne:¬wd=c:=by show BO?):sB! (Ki (UG iS (JTD i) oE!)) :=⟨_,hv,x,_,0,DL? A! Hn! JM6 (lR! (AL (Fr! (¬AE! wd=AE! c) (GN! ne YH!))) Bn)⟩
def jF(k:Vc! ta)(ex:nD! (UV c::r))(hv:Uy! (JI! x):=by rfl):sB! (Ki (UG iS (JTD i) oE!)) :=⟨_,hv,x,_,0,DL? A! Hn! JM6 (lR! (AR A!) B3)⟩
def J1w(g:GG):JEn Rv Rz Lo:=KB! Jgb g.mWM.fn g.mM gMk
def Jze(g:GG):JEo Jy Ka Lp:=KB! Jge g.mWHo.fn g.mHo gHo
def Jzg(g:GG):JEo J0 Kc Lr:=KB! Jgg g.mWDr.fn g.mDr gDr
def Jza(g:GG):JEo Jw J8 Ln:=KB! Jf9 g.mWTa.fn g.mTa gTa
def Jzf(g:GG):GX 6 Jz Kb RN! Lq:=KB! Jgf g.mWFr.fn g.mFr gFr
def Jzc(g:GG):GX 6 Gx G9 ar! Sa:=JEj Jy6
def Jzi(g:GG):JEn Gz Hb N8:=JEj Jy8
def Jzj(g:GG):JEn G0 Hd vE:=JEj Jy9
def Jzh(g:GG):sZ! vF:=Jy7 g
def RZ:IF! [E2!,DE!,MU!,MT!] E2! DE! yu:={}
inductive Jvr(vs:C!)(H:Hp)(Q:VK)(E:XK):B!
 | mk (p xa:Addr) (W:ET) (D:AQ!) (m n d B B':Nat) (al:l!) (ys:GM) (dd:DD) (_:JDG xa) (_:JCd) (_:Ae!) (_:Bx!) (_:Nf!) (_:FW!) (_:eJ!) (_:M_ H xa dd)
   (_:∀(t:Addr)(dv:PyData)(W':ET)(D':AQ!)(al':l!)(EC:GM)(H0 H':Hp),j5 K H' ZM! dv->ao dv->JJx dv->JPV->R6!->Wd!->Ys!->cm!)
def Jt1(h:dv.canLay0=true/\dv.depth<=5):ao (VO dv):=by
 show C0?;show BU?;.unfold VO;simp only[PyData.canLay0,PyData.canLayAll0,h1,RL,RK];show AI?
 .unfold VO;show GP?;lia
def uX(n:Nat):ao (YG n):=by
 show BU?;.unfold YG;simp only[PyData.canLay0,PyData.canLayAll0,RL,RK];show AI?
 .unfold YG;show GP?;lia
def Jfu(k:XV)(r:JGi):Jz! Rep d:=by cases r with | one r=>show EM! (Yb! (JX k)) | BK h p=>show .BK (by rcases h with(e|⟨o,e⟩)|z;{ show Pq! (NE k e) };{ show JCi (EW! (L! k e)) };{ show cC! }) (JJe (FO! Yb! k))
def Fp.back{p:Addr}{W W':ET}{ys EC:GM}(f:wS! EC H1)(s:VG!):Wd!:=ut (by show By? (C5! f);(.show J?);(.show CU?);.show AG? ?_;cases e:H b with | none=>rfl | some o=>show Az? Vn!)
def gDn(g:GG):EL 7 Wr Yc [E2!,DE!] Jvr:=by
 show m? g.mDn.fn.KD RZ;have⟨p,xa,W,D,m,n,d,nB,wb,al,ys,dd,rfl,wi,hn,hB,hd,m4,cB,hx,k⟩:=h;show A?;show Q?;show D2? RZ.nd (Bh (QJ! Jpd)) (Jf3 (i:=3) A! A! A! RZ.nd A! A! A! g.cHE (λAB E ES cW=>JGr g.mWM.mt J1w g.mWM.bd b3! g.mWHo.mt Jze g.mWHo.bd (JGr g.mWDr.mt Jzg g.mWDr.bd (TQ! GF! GF! GF!) g.mWTa.mt Jza g.mWTa.bd (JGr g.mWFr.mt Jzf g.mWFr.bd (Mk! GF! GF!) g.mWSe.mt Jzc g.mWSe.bd (JSZ g.mWCl.mt Jzi g.mWCl.bd b3! (JSZ g.mWAs.mt Jzj g.mWAs.bd b3! (Ag (JSA (JSF F7! g.mWDe.mt Jzh g.mWDe.bd b3!)))))))) (λex=>Ag (JSA (QJ! (Jf7 (gCs g) HJ Dk! g.mCs.mg g.mCs.fn.kp g.mCs.bd lU!))))) JDg;show⟨Y7!,λt1 h1=>?_⟩;show BJ? pZ! h1;generalize Ny! t1 pZ!=H1 at s1;have wi1:=Yw! s1;have YS:=FO! hx.keep s1;have⟨dx,hp⟩:=wi1.wa.ob;have fin:∀(v:V)(dv:PyData)(W':ET)(D':AQ!)(al':l!)(EC:GM)(H':Hp)(t:Addr),rj!->JIL->WI H' p W' D' m He! (d+1) 0 wb xL EC->Qp p W ys H1 H'->wS! EC H1->Ys!->Ab! H' t->GC! t (F8! H' t FB [JB5,v]):=λv dv W' D' al' EC H' t tl ef OS fr fp eh ht=>by have s2:=ET! [JB5,v] ht;show k t Uc! W' D' xL EC H' _ (JS9 FB Ab (EM! (bn _)) (Jfu s2 TK!)) (Jt1 tl.ok) ef (OS.same s2) (λb o e n1 n2=>U8! (fr b o (Q3! e) n1 n2)) (fp.back s1) eh
 have WK:∀(i:Nat)(H2:Hp)(t:Addr),JKX H1 Vj!->ed!->b4! t->GC! t (NM! t FB (o1! i)):=λi H2 t ef s2 ht=>by show Af? (o1! i) ht;have aT:=XE!;show k t Vj! W D al ys H1 _ (JS9 FB Ab (EM! (bn _)) (EM! (V! _))) (uX i) ef ((Yw! aT).upn CC! (AA EU! cB)) (λb o e _ _=>L! aT e) (JDc JFp) A!
 have run:=λ(Q:VK)(E:XK)=>Fu (dd:=dd) (Q:=Q) (E:=E) g wi1 hn hB hd m4 cB;cases dd with | make h =>have ex:=YS;dsimp only [M_] at ex;show jF (⟨FY?⟩) ex;show FS run (λv dv W' D' al' EC H' tl ef OS fr fp eh=>JSB (wn v dv W' D' xL EC H' t tl ef OS fr fp eh ht)) (vS! (JSE i (WK i H4 t5 ef (Ah (Ai hx) s4) h5))) | hold h ta tb =>show KI? tD! | drop h ta tb =>show KI? (OT tD! ex) | take h ta tb =>show KI? (hq! tD!) | free h tb =>have⟨b,ex,eb⟩:=id YS;show OT (OT (hq! (jF (⟨DU?,_,A!,hp,Co W _ ZV,_,A!,xa,_,y? _ _ A! A! Hn! A! xa _ _ _ A! Hn! A!⟩) ex)) ex) ex;show JUO b eb | send h g9 tb =>have⟨b,ex,eb⟩:=id YS;show OT (jr! tD!) ex;show JUO b eb | clean h =>show IY? (OT (jr! (jF (⟨FY?⟩) ex)) ex) | ask h =>show IY? (hq! (jr! (jF (⟨FY?⟩) ex))) | GC BQ =>show IY? (hq! (jr! (OT (⟨FY?⟩) ex)))
abbrev mW(n:Int)(kind:Str)(s g:Int)(th:T2)(x:Int):Ev!:=JEt BD! (LD! [QR th,T! x])
abbrev j6(n:Int)(kind:Str)(s g k u:Int):Ev!:=JEt BD! (LD! [T! k,T! u])
abbrev lR(n s g:Int)(ts:G!):Ev!:=JEt Kc! (JHs KV!)
def Jtf{H:Hp}{t:Addr}{n:Int}{kind:Str}{s g:Int}{tb:T2}{x:Int}(h:JQp x):JEw (mW n BD! s g tb x):=by have⟨a,b,e1,e2,e3⟩:=h;show KU! (ED! e1) (JDz (JML (nN! (rt! e2 (M0 e3)))))
def Jlj{H:Hp}{t:Addr}{n:Int}{kind:Str}{s g k u:Int}(h:SF H t n BD! s g k u):JEw (j6 n BD! s g k u):=by have⟨a,e1,e2⟩:=h;show KU! (ED! e1) (JDz (JML (nN! (rt! e2 hr!))))
def Jwk{H:Hp}{t:Addr}{n s g:Int}{ts:G!}(h:qN! n):JEw (lR n s g ts):=by have⟨a,as,e1,e2,th⟩:=h;show KU! (ED! e1) (JDz (JML (nN! (JKE e2 th))))
def Jtg{n:Int}{kind:Str}{s g:Int}{th:T2}{x:Int}(hk:kr!\/ze!\/kind=EJ!\/zf!):y! (mW n BD! s g th x).canLay0/\(mW n BD! s g th x).depth<=20:=by
 have t1:y! (QR th).canLay0:=(R8 th).1;show BU?;.show Bs? hk;all_goals unfold mW;simp only[PyData.canLay0,PyData.canLayAll0,t1,RL,RK];show AI?
 .unfold mW;simp[PyData.depth,PyData.depthAll,QR]
def Jlk{n:Int}{kind:Str}{s g k u:Int}(hk:kind=AM!\/kind=F5!):y! (j6 n BD! s g k u).canLay0/\(j6 n BD! s g k u).depth<=20:=by
 show BU?;.show C6? hk;all_goals unfold j6;simp only[PyData.canLay0,PyData.canLayAll0,RL,RK];show AI?
 .unfold j6;show F4?
def Jru(ts:G!):∀d∈KV! QR,xo! 5:=λd hd=>by have⟨t,_,rfl⟩:=ZN hd;show⟨(Tf t).1,by unfold QR;show F4?⟩
def Jwl{n s g:Int}{ts:G!}:y! (lR n s g ts).canLay0/\(lR n s g ts).depth<=20:=by
 show U? (ye (Jru ts));show BU?;.unfold lR;simp only[PyData.canLay0,PyData.canLayAll0,h1,RL,RK];show AI?
 .unfold lR;show GP?;show AF (vR! h2 _) TD
def NP.kd{m:Nat}{l:LT}(h:UZ!):l.kind=AL!\/zi!\/zh!\/Ne!:=by
 rcases h.2.2.2 with⟨h,_⟩|⟨h,_⟩|⟨h,_⟩|⟨h,_⟩;.show J?
 .show CU?
 .show AV? Jc!
 .show AV? RG!
abbrev llD(n:Int):LL->Ev!
 | .w l=>mW n l.kind l.s l.g Sc l.x
 | .ask s g k u=>j6 n AM! s g k u
 | .MY s g k u _ _=>j6 n F5! s g k u
 | .lt s g ts=>lR n s g ts
abbrev pU:At->l!->LW!
 | n::ns,l::ls=>llD n l::pU ns ls
 | _,_=>[]
def Jwn{H:Hp}{GQ:j!}{y:Sq!}{z:LL}(h:eo!):T5! (IN y.2) (llD AK! z):=by cases z with | w l=>show Jtf h | ask s g k u=>show Jlj h | MY s g k u t S=>show Jlj v6 | lt s g ts=>show Jwk h
def Jg3{H:Hp}{GQ:j!}{ys:j!}{ls:l!}(p:JD4 ys ls):Zw! HY (BS! λy=>AA! y.2) (pU (Kk! BS!) ls):=by induction p with | nil=>show R! | cons h _ ih=>show SC (Jwn h) ih
def Vf{m:Nat}:∀{ns:At} {ls:l!},(∀l∈LP ls,UZ!)->∀d∈pU ns ls,JHa
 | [],_,_,d,h=>NJ!
 | _::_,[],_,d,h=>NJ!
 | n::ns,l::ls,k,d,h=>by rcases ZM h with rfl|h;(.cases l with | w l=>show Jtg (k l Hp!).kd | ask s g k u=>show Jlk (S! A!) | MY s g k u t S=>show Jlk (d! A!) | lt s g ts=>show Jwl);.show Vf (Ai! (k z ?_)) d h;cases l with | w l=>show ZD _ hz | ask s g k u=>show hz | MY s g k u t S=>show hz | lt s g ts=>show hz
def Jmr{R:AP! Sq! LL}{ys:j!}{ls:l!}(p:Pf! ys ls)(ne:ys≠[]):wT (pU (Kk! BS!) ls).isEmpty:=by cases p with | nil=>show I? A! ne | cons _ _=>rfl
def Jms{ls:l!}:y! (pU (Kk! ([]:j!).map) ls).isEmpty:=z4! ls
def MT.BE{H:Hp}{GQ:j!}{y:Sq!}{z:LL}(h:eo!):∃xs,Ml! y.2 (T! AK!::xs):=by cases z with | w l=>have⟨a,b,e,_⟩:=h;show⟨_,e⟩ | ask s g k u=>have⟨a,e,_⟩:=h;show⟨_,e⟩ | MY s g k u t S=>have⟨⟨a,e,_⟩,_⟩:=h;show⟨_,e⟩ | lt s g ts=>have⟨a,as,e,_⟩:=h;show⟨_,e⟩
def Jhm(ds:LW!):KR! (IZ! ds) (IZ! [])=ds.isEmpty:=z4! ds
def Jp1:ao (IZ! []):=Ou λd hd=>GG! hd
inductive J1b(K:W.Frag)(x:V)(y:V)(H:Hp)(Q:VK):B!
 | mk (p xs i v) (_:kC!) (_:kE!) (_:dI!\/m0!) (_:fA!) (_:Q v H)
def Jw0{X:E!}:p9 X (J1b Kx):=by
 show C2?;obtain⟨p,xs,i,z,e1,e2,hq|hq,he,q⟩:=h;.show tI! A8 Ft! MD! s H I ⟨p,xs,i,z,e1,e2,hq,he,q⟩ hs
 .show tI! Aw Ft! MD! s H I ⟨p,xs,i,z,e1,e2,hq,he,q⟩ hs
abbrev SV(t:T2):B!:=JKq
abbrev R6:VS!
 | .make h=>QZ!
 | .hold h a b=>JJ8
 | .drop h a b=>JJ8
 | .take h a b=>JJ8
 | .free h b=>QZ!/\SV b
 | .send h g b=>QZ!/\Sm (AF! g)/\SV b
 | .clean h=>QZ!
 | .ask h=>QZ!
 | .GC n=>Sm n
abbrev dM:VS!
 | .GC n=>0<=n/\n<=99000
 | d=>R6 d
def dM.sm{d:DD}(h:dM d):R6 d/\∀n,d=.GC n->n<=99000:=by cases d with | GC n=>show⟨⟨v6,CJ h.2 TD⟩,λn e=>by cases e;show h.2⟩ | _=>show⟨h,λn e=>by cases e⟩
def J0p:Al! fN! fN! yx:={}
inductive Jvp(vs:C!)(H:Hp)(Q:VK)(E:XK):B!
 | mk (s:Addr) (x:Int) (v:V) (as:Z!) (_:vs=[h! s,T! x,v]) (_:DZ K H s (Ar! CK!)\/JCe s) (_:Q v H) (_:∀a∈as,GC! a H)
def tN(g:GG):EL 1 V7 Xm fN! Jvp:=by
 show m? g.mPk.fn.KD J0p;have⟨s,x,v,as,rfl,sq,k0,k1⟩:=h;show AS? (λEO A outer s' hr=>?_);show D8? (Mw! (Qa! JGg) jX!) (Ao Jw0 Rs (Be Cf w! JGg));show⟨_,Jk? s sq⟩;show Io (λ_=>Dn! k0) (λcc=>?_);have aB:TV! fC!:=by (have:¬d9! fC! 0:=by simpa using cc);have h2:fC!≠0:=λz=>this (by rw[z]);lia
 have j0:=DE x (show fC!≠0 by show JL aB);have j1:=DM x aB;have⟨a,ha⟩:=Mm! as (JX! (x % fC!)) (by rw[ZA] at j0 j1 ⊢;lia);show⟨t?,A!,_,A!,s,_,A!,sq,_,_,A!,A!,aB,s,_,_,_,A!,A!,sq,Do j0 (Lo! ha),DQ! k1 a ha⟩
def g7:IF! [PA!,Sz!,S0!,"_law_out","_law_holds"] PA! Sz! Jc8:={}
inductive Jn8(vs:C!)(H:Hp)(Q:VK)(E:XK):B!
 | mk (x y1 y2 y3 a:Addr) (bs:C!) (os:B0!) (ta:T2) (_:vs=[h! x,Br!]) (_:M3! JPy) (_:Ml! y2 bs) (_:JJ2) (_:∀r∈os,∀u∈Bd!,SV u) (_:ND!) (_:∀(hd:Addr)(cs:Z!)(H':Hp),XV->GL! hd (hp! cs.map)->(∀c∈cs,∃t,Gf!/\GL! c (TM! t))->TR! hd)
def Je2(h:c5! hl)(sm:∀t∈hl,Gf!):∀c∈cs,∃t,Gf!/\hY! c t:=Ia! (by have⟨j,hj⟩:=G_.mp hc;have⟨t,ht⟩:=JT2 hl (L4! h);show⟨t,DQ! sm t ht,A6 h j c t hj ht⟩)
def gHb(g:GG):EL 1 Wo X9 [PA!,Sz!] Jn8:=by
 show m? g.mHb.fn.KD g7;have⟨x,y1,y2,y3,a,bs,os,ta,rfl,ex,e2,rows,sm,ea,k⟩:=h;show A?;show Ac? (Ey S4! A! (Fk DR!) (Uq A! (Cy (JD3 2) (du! (JD3 3) (JD3 4)))) (Ag (Mw! (JHG EQ w!) (Ap (pv 4))))) (JDf Ae);show⟨AK? x _,Jn? _ Hn! y2 (Ac! e2)⟩;show O7 (K:=K) (a:=y2) (xs:=bs) (λj σ H2=>H2=H/\(NM λu1 u2 u3=>σ=[VK!,K6!,u1,u2,u3])) (JQP _) (λj σ H2 _ h=>lQ! (Ac! e2)) ?_ (λσ H2 h=>?_);.rintro j v σ H2 hj ⟨rfl,u1,u2,u3,rfl⟩;have⟨r,MC⟩:=JIW os rows;have⟨a',t,hd,cs,rfl,e3,e4,e5,e6⟩:=A6 rows j v r hj MC;show⟨a',_,A!,Ac! e3,A!,_,_,KY?⟩;show⟨Au?,QR W!,QR ta,EM! (M0 e4),EM! (M0 ea),R8 W!,R8 ta,_,A!,?_⟩;show Io (λ_=>Dn! (k hd cs _ M9! e5 (Je2 e6 (sm r (ZP MC))))) (λ_=>JQP _)
 .have⟨rfl,u1,u2,u3,rfl⟩:=h;show⟨Bu!,zV! [] (Ai ht) eY!⟩
def qK:IF! [E2!,YX!,"_law_lying"] E2! YX! yr:={}
inductive Jvt(vs:C!)(H:Hp)(Q:VK)(E:XK):B!
 | mk (p:Addr) (x:Int) (W:ET) (D:AQ!) (m n d A B:Nat) (al:l!) (ys:GM) (_:Y8! (T! x)) (_:SB) (_:Mj! (cj!/\AY!<=99000)) (_:∀(t:Addr)(dd:DD)(H':Hp),JOA dd (dM dd))
def gCo(g:GG):EL 3 Wv Yf [E2!,YX!] Jvt:=by
 show m? g.mCo.fn.KD qK;have⟨p,x,W,D,m,n,d,nA,nB,al,ys,rfl,wi,sl,k⟩:=h;show A?;show Aa?;show BH? qK.nd JKc (JEc (n6! (JHG EQ Lr!) Af) (QJ! (TL! (Ao A8 EQ (Ao A8 (Eh (TQ! Af (Be um (jW! EQ) Af) (Be Cf (Be F8 w! Af) (jW! EQ)))) (Ph! w!))))));have⟨dx,hp⟩:=wi.wa.ob;show⟨DU?,IV? hp wi.wa (λl H2 hl el s2=>?_)⟩;show Ir?;show⟨_,A!,Bu!,λr MC=>⟨_,_,JLs (Ai MC _ _ el) Jg3 (Ed bg.lw (JX (Ai MC))),.BK (DZ.of Ab) R!,Ou (Vf bg.wg.wl.ok),Jp1,_,A!,?_⟩⟩;show BQ? MC;generalize ef! r=H3 at s3;have aT:=Ah s2 s3;have YZ:=Ge! el;by_cases e0:bt!;.rw[Jhm,e0,Jms];show B3 (JRk (Ay! (k t (Ki! 0) _ (oo! aT) Ab J1!)))
 .rw[Jhm,Jmr bg.lw e0];show k?;(have aB:TV! jk!:=by rw[ZA];have:=Yv! e0;show G6! this);have x0:=oe! x 3;have x1:=q0! x 3;have z0:=DE (x / 3) (show jk!≠0 by show JL aB);have z1:=DM (x / 3) aB;(obtain⟨j,ej,hj⟩:∃j:Nat,UK [xz 0,Kp! (jk!-1),Kp! JLH] (x % 3)=D! (V! Cx!)/\j<W.ls.length:=by have hl:=ZA (as:=HF!) (f:=Zs!);rcases(Px! (x % 3=0\/x % 3=1\/x % 3=2)) with e|e|e;(.show⟨0,cG!,Yv! e0⟩);(.show⟨W.ls.length-1,by rw[e];change HU! wp _=_;congr 2;rw[hl];have:=Yv! e0;lia,by have:=Yv! e0;lia⟩);.show⟨JX! JLH,by rw[e];change HU! wp _=_;congr 2;show Ec! BO z0,by rw[hl] at z0 z1 ⊢;lia⟩);have⟨⟨BQ,t2⟩,hy⟩:=A4 hj;have tK:UK (I1! Zs!) Cx!=D! (IN t2):=Do (AN _) (by rw[ZH,CZ,hy];rfl);have⟨lt,IP⟩:=iq! al (CZ! (AD! wi.lw) hj);have⟨a1,x9⟩:=MT.BE (A6 bg.lw _ _ _ hy IP);have x9:b7! t2 FB (xz BQ::a1):=x9;have⟨l1,l2,esp⟩:=IB (ZP hy);show⟨t?,A!,l,_,A!,P2! YZ,_,_,A!,A!,_,A!,_,_,A!,A!,J1!,_,A!,l,_,A!,P2! YZ,_,_,A!,A!,aB,by show DI? 3;decide,be!⟩;have s4:=VV! [xz 0,Kp! (jk!-1),Kp! JLH] hc;show⟨_,A!,_,_,A!,A!,m2!,c,_,_,_,A!,A!,Ld!,ej,l,_,_,_,A!,A!,Ms! s4 YZ,tK,t2,_,0,_,A!,A!,JB4 s4 s3 x9,JM6,H1!,zV! (.GC BQ) (Ah aT (oo! s4)) (sl _ (ZP hy))⟩
def Z':Al! [E2!,"_law_xs",MS!,hO!,PA!,"_law_near",Sz!,"_law_b","_law_way"] oV! yt:={}
abbrev Jxx:TT:=Ki (UG iS pn! (Bt 1))
inductive Jvs(vs:C!)(H:Hp)(Q:VK)(E:XK):B!
 | mk (p l:Addr) (W:ET) (D:AQ!) (m n d A B:Nat) (al:l!) (ys:GM) (x0 x1 x2 x3 x4 x5 x6:Int) (_:UF! JU! Bt!) (_:PY! l [T! x0,T! x1,T! x2,T! x3,T! x4,T! x5,T! x6]) (_:SB) (_:Ae!) (_:Mj! (cj!/\AY!<=99000)) (_:∀(t:Addr)(dd:DD)(H':Hp),JOA dd (dM dd))
def Juw(g:GG):EL 3 Jx J9 GD! (qm! Fx):=FX.FR.no (Jzb g)
def zp{l:cr}(m0:∀z∈l,0<=Uv!){q:gi!}(h:q∈l):LS!<=D1 l:=by induction l with | nil=>cases h | cons z l ih =>have h0:=ZN! m0 z;(have hl:0<=D1 l:=by (have:y9! ((∀z∈l,0<=Uv!)->0<=D1 l):=λ{l} h=>by induction l with | nil=>show AH _ | cons y l ih =>have h1:=Go! y;have h2:=ih eC!;change 0<=y.2.AY+D1 l;show g9! h1 h2);show this (ev! m0));change LS!<=Uv!+D1 l;rcases ZM h with rfl|h;(.show IC hl);.have:=ih (ev! m0) h;show CJ this (FN h0)
def WI.sm{H:Hp}{p:Addr}{W:ET}{D:AQ!}{m n d A B:Nat}{al:l!}{ys:GM}(x:SB)(hn:Ae!){j:Nat}{q:Addr}{G:CN}(hj:Ba! (W.qs[j]?)){t:T2}(h:FS!):Gf!:=by
 have⟨i,q2,G2,e,h1,h2,h3⟩:=x.ma.has j q G hj t h;show Bx?;have il:i<m:=NE! Mi! e
 have md:=x.md;show Ka? (G2.AY<=a0!) I9! (ZP e);show⟨LY! (h1▸Ng!),LY! h2⟩
def gDe(g:GG):EL 4 Ws Yd oV! Jvs:=by
 show m? g.mDe.fn.KD Z';have⟨p,l,W,D,m,n,d,nA,nB,al,ys,x0,x1,x2,x3,x4,x5,x6,rfl,el,wi,hn,sl,k⟩:=h;show A?;show Q?;show Aa?;show A8?;show Ac? (hS! 3 Z'.nd JBk JM9) (JCf Z'.nd (vc! Rs F7! g.mWSt.mt (Juw g) VM g.mWSt.bd lU!) (Ac (JQz i 5 Jxx te Ef! [(hO!,3)] Z'.nd oP! (JIZ DR! w!) ai!) (mO! Z'.nd (s8! K3! (Bh (Zc! RW!))) (JEN 7 Z'.nd (s8! JSs (Bh (JBt JM9))) 8 Z'.nd RW! (Pb! (rh! eR! (xH! Jpl JKc Lr!)) (Pc! gCo VM g.mCo.mg g.mCo.fn.kp g.mCo.bd (in! JRm))) (JJV (n6! eR! AI!) eR! Jp! LX! (JJV (JTg JFS AI! Jp! (s8! (ZQ! gHb g.mHb.mg g.mHb.fn.kp g.mHb.bd (xG! Jp!)) LX!)) JFS Jp! (s8! (ZQ! gHb g.mHb.mg g.mHb.fn.kp g.mHb.bd (xG! Jp!)) LX!) (JJV (Mw! eR! (Ap (Bh (TQ! As AI! LX!)))) eR! JM9 LX! (JEc (n6! (rg! JFS (JEk (jW! JKc))) AI!) (QJ! AI!)))))))));have aA:TV! Bt!:=by have:=wi.m1;show G6! this
 show⟨_,A!,l,_,_,_,A!,A!,Cq! el,A!,_,A!,_,_,A!,A!,aA,?_⟩;have h0:=JOB x1;have h1:=DM x1 aA;obtain⟨h,eh,hm⟩:∃h:Nat,x1 % Bt!=ii/\h<m:=⟨JX! (x1 % Bt!),by show Ec! BO h0,X!⟩;rw[eh];clear h0 h1 eh;have⟨⟨q,G⟩,hq⟩:=rY! vT! hm;have i:JC2:=⟨DO!,hq⟩;have gd:=wi.wg.wl.good (JH5) hq;have⟨hs,os,rs,KO⟩:=gd.told;have⟨dx,hp⟩:=wi.wa.ob;show Ix? ii wi.wa (o! ⟨q,G,i,q,G,hs,os,rs,A!,i.at wi.wa,gd.h2,gd.o2,gd.r2,KO.pm,KO.pw,KO.PL,JA!,KO.wr,λx H1 s1 st=>?_⟩);have⟨y1,y2,y3,as,bs,ds,ex,e1,t1,e2,r2,_,_⟩:=st;have n5:∀t∈hs,Gf!:=JQ4 wi.sm;have smR:∀r∈os,∀u∈Bd!,SV u:=λr hr u hu=>by have⟨_,ad,hl,a2,_,a3,_⟩:=KO.PL.at_ r hr;show wi.sm hn hq (S! (d! (BM! (BI a2) (a3.mem_iff.mp hu))))
 have bo:QZ!:=⟨R2!,by have:=wi.m5;lia⟩;have las:as.length=hs.length:=AD! t1;have lhs:=KO.pm.length_eq;have zhd:=gd.h2;show⟨AK? x _,IU? Hn! y1 QK! (λnr hnr=>?_)⟩;have s4:=hn! .BK hnr;show Kk? Ym y1 xs c9! tt Jxx te Ef! [(hO!,3)] (λj ys Hc=>BZ H1 Hc/\Y1! Hc nr/\∃zs:Z!,ys=JP! zs.map/\zs.length<=j/\∀z∈zs,∃t,Gf!/\AT H1 z (TM! t)) ⟨s4,Ab,[],A!,Ao!,ko!⟩ (λj ys Hc _ hc=>⟨QC! hc.1 e1,hc.2.1⟩);.rintro j x' ys Hc N hj ⟨sc,en,zs,rfl,zl,al⟩ gO;rw[ZH] at hj;cases mC:as[j]? with | none=>rw[mC] at hj;cases hj | some aj =>rw[mC] at hj;cases hj;have jl:=ES! mC;have⟨tj,htj⟩:=iq! hs (CZ! las jl);have ej:AT H1 aj (TM! tj):=A6 t1 _ _ _ mC htj;show⟨CD? aj _,GR? A! (QC! sc ej) _⟩;show Io (λcc=>?_) (λcc=>?_);(.show⟨_,A!,en,ee! Bz,L! gO ⟨LP!,Ab,zs++[aj],Vd!,Dq! ZE FY (EV zl),JQ!⟩⟩;(.rw[Ad (Ak e hnr)];show Jb! sc);.show AE?;(.show al z hz);.rw[ZK hz];show⟨tj,DQ! n5 tj htj,ej⟩);.show L! gO ⟨sc,en,zs,A!,by show CC zl,al⟩
 rintro EC H2 ⟨sI,enr,zs,rfl,_,azs⟩;have s2:=Ah s1 sI;show DH?;show mY (Oa! (HK λa ta=>GA=[Eg!,Nl!,Nu!,JDK,VK!,JCH,K6!,none,none]/\BZ H2 H'/\SV ta/\Ha! H' (TM! ta))) (k3!) ?_;.show⟨HQ? l,_,_,A!,A!,UB! s2,A!,_,A!,_,A!,l,_,_,_,A!,A!,UB! s2,A!,_,_,A!,A!,m2!,Y7!,be!⟩;show Af? [T! ii,JR! (x2 % 3)] hc;show⟨nr,x2,_,zs,A!,P2! (NE s3 enr),pz! c (ii,x2 % 3) s3 ⟨bo,DE _ TD,by have:=q0! x2 3;change x2 % 3<=100000;lia⟩ Ab,Oz! ?_⟩;have⟨t,st,et⟩:=azs a ha;show pz! a t s3 st (FF! s3 sI et)
 rintro bf H3 ⟨a,ta,rfl,jU,ny,ea⟩;have s3:=Ah s2 jU;have aT:=Ah sI jU;show mY (Oa! (HK λb tb=>GA=[Eg!,Nl!,Nu!,JDK,VK!,JCH,K6!,A1! b,none]/\BZ H3 H'/\SV tb/\Ku! (TM! tb))) (k3!) ?_;.show⟨F?,x,_,_,_,A!,A!,db! aT,A!,_,A!,l,_,_,_,A!,A!,UB! s3,A!,_,A!,l,_,_,_,A!,A!,UB! s3,A!,_,A!,_,_,A!,A!,aA,Y7!,be!⟩;have s4:=ET! [JR! z1!,T! 0] hc;show⟨y1,x3,_,as,A!,id! (GT! s4 aT e1),pz! c (z1!,0) s4 ⟨⟨DE _ (by show JL aA),by have:=DM x3 aA;have:=wi.m5;change z1!<=100000;lia⟩,⟨AH 0,by change PR!<=100000;decide⟩⟩ Ab,GW!⟩;have⟨t,st,et⟩:=Je2 t1 n5 b hb;show pz! b t s4 st (FF! s4 aT et)
 rintro σ4 H4 ⟨b,tb,rfl,jT,nq,eb⟩;have s4:=Ah s3 jT;have iR:=Ah aT jT;have ea:=L! jT ea;have el:=GX! el;have ex:=L! iR ex;have e2:=L! iR e2;have r2:Dm! (TM H4) bs os:=JIH iR;have rq:=Yw! s4;clear s3 aT jT jU sI s2 s1 azs enr t1 e1;show⟨CD? l _,A!,Cq! el,A!,_,_,A!,A!,EZ! 20,?_⟩;generalize x0 % 20=wy;have go:∀(t:Addr)(dd:DD)(H5:Hp)(xs:C!),BZ H4 H5->Ab! H5 t->M_ (F8! H5 t FB xs) t dd->dM dd->GC! t (F8! H5 t FB xs):=λt dd H5 xs s5 ht at' fq=>k t dd _ (Ah s4 (oo! s5)) at' fq;have x4b:∃g9:Nat,x4 % Bt!=AF! g9/\g9<m:=⟨JX! (x4 % Bt!),by have:=JOB x4;lia,by have:=DM x4 aA;have:=JOB x4;lia⟩;have⟨bU,jj⟩:=rq.wa.ob;show DH?;show mY (Oa! (GA=[Eg!,Nl!,Nu!,JDK,VK!,JCH,K6!,A1! b,Du! wy]/\BZ H4 H')) (k3!) ?_;.show Ji?;by_cases c6:wy<6;(.rw[AR c6];show B3 ⟨Aq? bU,IV? jj rq.wa (λl5 H5 hl5 yC s5=>?_)⟩;have lD:=rq.same s5;show⟨Bu!,λr MC=>⟨_,_,JLs (Ai MC _ _ yC) Jg3 (Ed lD.lw (JX (Ai MC))),.BK (DZ.of Ab) R!,Ou (Vf lD.wg.wl.ok),Jp1,_,A!,?_⟩⟩;have s6:=nt!;generalize ZU! H5 r []=H6 at s6;have bE:=Ah s5 s6;show Io (JW!) (λ_=>L! cS (A8! bE));show⟨F?,BI? l _ _ _ A!,UB! bE,A!,p,x4,W,D,m,n,d,nA,nB,al,ys,A!,lD.same s6,sl,λt dd H7 s67 at7 ok7=>k t dd H7 (Ji! s4 bE s67) at7 ok7⟩);.rw[AL c6];show Bn (Bn (NE cS (A8! (BZ.refl _))))
 rintro rY H5 ⟨rfl,PR⟩;show FS? (eU! (oT! (rd! (Ki! h) Ab bo)));show FS? (eU! ⟨t?,A!,_,A!,JSP,rd! (Ze! HQ!) ⟨a,b,Ab,iF! (NE PR ea),JJZ⟩ JIQ⟩);show⟨_,A!,A!,_,A!,eU! ⟨DL? _ A! _ ⟨x,y1,y2,y3,a,bs,os,ta,A!,VA! ex,VA! e2,JIH PR,smR,VA! ea,λhd cs H6 bD yD each=>⟨R? l,_,_,_,A!,A!,Ms! bD (NE PR el),A!,_,A!,hd,x4,_,cs,A!,id! yD,U2! (oa! (Ze! JC!) pT! ⟨a,b,Ab,pm!,JTC eb⟩ JIQ),Ia! (U2! (Ay! ((each c hc).elim λtc ⟨v7,ec⟩=>go t (JC! h ta tc) H6 _ pT! ht ⟨a,c,Ab,pm!,iF! ec⟩ ⟨bo,ny,v7⟩)))⟩⟩⟩⟩;show⟨_,A!,A!,_,A!,eU! ⟨DL? _ A! _ ⟨x,y1,y2,y3,a,bs,os,ta,A!,VA! ex,VA! e2,JIH PR,smR,VA! ea,λhd cs H6 bD yD each=>⟨R? l,_,_,_,A!,A!,Ms! bD (NE PR el),A!,_,A!,hd,x4,_,cs,A!,id! yD,U2! (oa! (Ze! JD!) pT! ⟨a,b,Ab,pm!,JTC eb⟩ JIQ),Ia! (U2! (Ay! ((each c hc).elim λtc ⟨v7,ec⟩=>go t (JD! h ta tc) H6 _ pT! ht ⟨a,c,Ab,pm!,iF! ec⟩ ⟨bo,ny,v7⟩)))⟩⟩⟩⟩;show FS? (eU! ⟨_,A!,_,A!,by show DI? 3;decide,rd! JL3 ⟨b,Ab,JJZ⟩ ⟨bo,nq⟩⟩);show FS? (Io (JW!) (JW!));.have⟨g9,eg,hg⟩:=x4b;show⟨HQ? l,_,_,A!,A!,UB! PR,A!,_,A!,_,_,A!,A!,aA,_,A!,JSP,Gc!⟩;rw[eg];show go t (HR! h g9 tb) H5 _ PR ht ⟨b,Ab,JJZ⟩ ⟨bo,⟨R2!,by have:=wi.m5;lia⟩,nq⟩
 have lD:=rq.same PR;have⟨cZ,bx⟩:=lD.wa.ob;show c?;by_cases c18:d9! wy 18;.rw[AR c18];show B3 (B3 (oT! (rd! my! Ab bo)))
 .rw[AL c18];show Bn ⟨Aq? cZ,IV? bx lD.wa (λl6 H6 hl6 el6 s6=>⟨l6,_,A!,P2! el6,_,_,A!,A!,_,A!,Io (λ_=>oT! (oa! my! (Ah PR s6) Ab bo)) (λ_=>oT! (oa! (I3! h) (Ah PR s6) Ab bo))⟩)⟩
def Gf(a b:Str):yA!=a.length+b.length:=by change(a.cps++b.cps).size=a.cps.size+b.cps.size;simp
def Jnb(t:T2):FG lc++"."++FG AX!=Br t:=N7 (by rw[Jrb,Sx])
def J0x:WC! S0! S0! Jc7:={}
inductive Tu(vs:C!)(H:Hp)(Q:VK)(E:XK):B!
 | mk (a:Addr) (t:T2) (_:cx!) (_:JHI) (_:Gf!) (_:Q JNa H)
def tO(g:GG):EL 1 Wc Xs [S0!] Tu:=by
 show m? g.mLt.fn.KD J0x;have⟨a,t,rfl,ha,sm,k⟩:=h;show A?;have l1:=Ca _ sm.1;have l2:=Ca _ sm.2;show AF?;show r? (JIR (Z1! DR!) DR!);show⟨AT? a,0,_,A!,A!,ha,A!,lc,A!,Cc sm.1,_,_,A!,A!,?_,_,A!,a,_,1,_,A!,A!,ha,A!,AX!,A!,Cc sm.2,FG lc++".",FG AX!,A!,A!,?_,?_⟩;.change B5! (JBz lc);lia
 .rw[Gf];change JBz lc+NS! AX!<=_;lia
 .rw[Jnb];show k
inductive J1f(K:W.Frag)(x:V)(y:V)(H:Hp)(Q:VK):B!
 | mk (a b:Addr) (xs:C!) (_:Bg!) (_:Uo!) (_:Fe!) (_:DZ K H b []) (_:Z9! xs.isEmpty)
def Jwe{X:E!}(hu:dP!):JHW .Eq J1f:=by
 show p?;have⟨a,b,xs,rfl,rfl,ha,hb,q⟩:=h;show H?;cases ry;have⟨its,v1,l1,_⟩:=Fp! ha;have⟨sy,v2,l2,_⟩:=Fp! hb;have e2:sy=[]:=by cases v2;rfl
 subst e2;have ll:xs.length=its.length:=AD! v1;cases As! with | nil =>have e1:xs=[]:=DB.mp ll;subst e1;show SeqAt.eq_listAt (e:=λ_=>true) l1.isList l2.isList A! (AF EU! hu) (λj h1 _=>AJ! h1 (Nat.not_lt_zero _)) (WS! (bv q!)) | cons z r =>(have e1:xs.isEmpty=false:=by cases xs;{ cases ll };{ rfl });rw[e1] at q;show SeqAt.eq_list_lengthsAt l1.isList l2.isList KB (AF EU! hu) (WS! (bv am))
def J0y:WC! YY! YY! Ub:={}
inductive Jlx(vs:C!)(H:Hp)(Q:VK)(E:XK):B!
 | mk (l:Addr) (ws:AC) (_:JDC) (_:JG9) (_:ws.length<=5000) (_:∀y∈ws,k1!) (_:Zr! (Hg! (bn (Fh ws))))
def tP(g:GG):EL 1 We Xu [YY!] Jlx:=by show m? g.mLl.fn.KD J0y;have⟨l,ws,rfl,el,z1,z2,k⟩:=h;show A?;show D8? (Pb! (xH! Jwe Rs Lr!) As) (s2! Rs);show⟨_,A!,Bu!,λr MC=>⟨l,r,_,A!,A!,DZ.of (Ai MC _ _ el),Ld!,_,A!,?_⟩⟩;have s1:=nt!;cases ws with | nil=>show B3 (k _ s1) | cons y r =>show Bn ⟨A!,_,A!," ",l,y::r,A!,A!,dl!,?_,dR!⟩;have e:=LX (B:=100) (y::r) z2;show H2?;rw[q];show AF?;have:(FQ! (y::r)*100)<=5000*100:=EJ _ z1;lia
abbrev OV:DD->Str
 | .make _=>C9!
 | .hold _ _ _=>AL!
 | .drop _ _ _=>Db!
 | .take _ _ _=>Dc!
 | .free _ _=>Dd!
 | .send _ _ _=>Ch!
 | .clean _=>Ci!
 | .ask _=>AM!
 | .GC _=>Ew!
abbrev SU:DD->bx!
 | .make h=>ba!
 | .hold h a b=>JOG
 | .drop h a b=>JOG
 | .take h a b=>JOG
 | .free h b=>[.n h,.t b.1 b.2]
 | .send h g b=>[.n h,.n g,.t b.1 b.2]
 | .clean h=>ba!
 | .ask h=>ba!
 | .GC n=>[.n n]
def Ju2(dd:DD):JLh (OV dd) (SU dd).map/\Ee! OV dd 5/\Ee! SU dd 3:=by cases dd<;>show JS! (by simp only[OV];show AI?) (by simp only[SU,BJ,BR];decide)
def Jlc{dd:DD}(h:RX!):∀a∈SU dd,Rl a:=by cases dd with | make h'=>show E3? | clean h'=>show E3? | ask h'=>show E3? | GC n=>show E3? | hold h' x y=>show Fa? | drop h' x y=>show Fa? | take h' x y=>show Fa? | free h' y=>intro a ha;simp only[SU,BU,CL,GY] at ha;show C6? ha;{ show v6 };{ show h.2 } | send h' g y=>show Fa?
def M_.row(h:Wi!):∃xs,nD! (r0!::xs)/\Hz! (ON H) xs SU dd:=by cases dd with | make h'=>show E1? | clean h'=>show E1? | ask h'=>show E1? | GC n=>show E1? | hold h' ta tb=>show Jr? | drop h' ta tb=>show Jr? | take h' ta tb=>show Jr? | free h' tb=>show D5? e (r6! A! (FM! b eb)) | send h' g tb=>show D5? e (SC A! (hw! A! (FM! b eb)))
def Jou(v:Str)(as:bx!)(a:FX.Arg):Fz v (as++[a])=Fz v as++" "++F3 a:=by unfold Fz;rw[ZF,<-List.cons_append,Jg9 " " KB KB];rfl
def Jsh{v:Str}{as:bx!}(hv:v.length<=5)(ha:k0!)(l:as.length<=3):Ja! Fz v as 100:=by
 have e:=JT " " (k2!);show H2?;have s1:=LX (B:=19) (Ar! F3) (Fs! (by have⟨a,oZ,rfl⟩:=RA!;show Sv (ha a oZ)))
 simp only[AI,DL,BJ,ZA,q] at e s1;have:as.length*19<=3*19:=EJ _ l;unfold Fz;lia
def dA:P7! [DE!,S1!,"_law_one"] DE! zM:={}
inductive Jr1(vs:C!)(H:Hp)(Q:VK)(E:XK):B!
 | mk (x:Addr) (dd:DD) (_:vs=[Qz!]) (_:Wi!) (_:RX!) (_:ja! JNm)
def My{K:W.Frag}:Oi! K (BR! G3!) (BR! Er!)=D! am:=by rfl
def gRo(g:GG):EL 2 V6 Xl [DE!] Jr1:=by
 show m? g.mRo.fn.KD dA;have⟨x,dd,rfl,hx,sm,k⟩:=h;show A?;show AF?;show Hk? dA.nd DR! (Fk (Ii Tz Rs ey! Ma)) dA.nd (Ag (Bc (F1 (JMf EQ Er! g.T.tuple EY)) (Ag (JR8 dA.nd (Be Cb (Be Cb w! As) (JDS tO hP! hQ! hR! JAJ)))) (Ag (JR8 dA.nd (JIR w! EQ))))) (JDe 1);have⟨xs,ex,pa⟩:=hx.row;have⟨_,lv,la⟩:=Ju2 dd;have as:=Jlc sm;have lx:=AD! pa;show Dr? x _ 0 Hn! wB!;show HS? 1 Hn! BQ!;.rintro⟨z,_⟩;have z:i9! (Qs!) 0 1=0:=z;have e:i9! (Qs!) 0 1=min 1 (Qs!):=L! HT.WY 1;rw[e] at z;show DR _ (BM z)
 rw[Ih! (bQ! H5! 1),Yl];show BJ? xs hq;show⟨q,A!,lk! Ab,?_⟩;have eq:rI! q xs q xs:=Ab;change vd! UQ! _ (x9! xs) _;have pa1:Hz! (ON (x9! xs)) xs SU dd:=Ax (Od! (z.same s1)) pa;generalize Ny! q xs=H1 at s1 eq pa1;show If? q xs (λj σ H2=>H2=H1/\∃u2,σ=[VK!,li! (Fz (OV dd) (iz! j)),u2]) (ak! _) (λj σ H2 _ h=>lQ! (Ac! eq));.rintro j v σ H2 hj ⟨rfl,u2,rfl⟩;have⟨a,ha⟩:=JT2 (SU dd) lx;have av:=A6 pa1 j v a hj ha;have ma:=ZP ha;have sa:=as a ma;(have tk:iz! (j+1)=(SU dd).take j++[a]:=cr! ha);have l1:=Jsh lv (as:=(SU dd).take j) (Mu! (as b (List.mem_of_mem_take hb))) (AA (AC! List.length_take_le') la);(have l2:(qP!++" ").length<=101:=by rw[Gf];change(Fz (OV dd) (iz! j)).length+1<=101;show AF l1 TD);have l3:=Sv sa;have q1:Zz! " ":=rfl;(have nx:qP!++" "++F3 a=Fz (OV dd) (iz! (j+1)):=jp tk Jou);cases a with | n i =>obtain rfl:v=My!:=av;show P? ⟨_,_,_,am,A!,My!,My,am,A!,?_⟩;show Bn ⟨t?,_,A!,A!,mA! q1,_,A!,i,A!,Cc sa,_,_,A!,A!,?_,A!,Du! i,?_⟩;(.show CW? qP! " " (F3 (.n i)).length;lia);.rw[<-nx];rfl | t i j' =>have⟨t,rfl,et⟩:=av;show P? ⟨_,_,_,q!,A!,FB et,Vg,q!,A!,?_⟩;show B3 ⟨AK? _ A!,A!,mA! q1,_,A!,t,(i,j'),A!,QX!,sa,_,_,A!,A!,?_,A!,A1! t,?_⟩;(.show CW? qP! " " (Ak! F3 (.t i j'));lia);.rw[<-nx];rfl
 .rintro σ H2 ⟨rfl,u2,rfl⟩;rw[lx,BY];show P? dR!
structure Mv(p:Addr)(W:ET)(ys:GM)(W':ET)(EC:GM)(H H':Hp):B! where
 fr:R6!
 fp:Wd!
def Mv.refl{p:Addr}{W:ET}{ys:GM}(s:XV):Mv p W ys W ys H H':=⟨λb o e _ _=>Vn!,ut (hb.elim S! λh=>JFp)⟩
def Mv.trans{p:Addr}{W W' W2:ET}{ys EC ys2:GM}(a:W6! H1)(b:Mv p W' EC W2 ys2 H1 H2):Mv p W ys W2 ys2 H H2:=by
 have key:∀c o,BE! c o->c∉GK!->c∉WU!->iU! H1/\c∉Ns!/\c∉JFh:=uY! (by (have no:¬(c∈Ns!\/c∈JFh):=λz=>by show By? (a.fp c z);(.show n1 h);(.show n2 h);.show Ah?);show⟨JKL a.fr,GN! no S!,GN! no d!⟩)
 show⟨uY! ?_,be!⟩;.have⟨e1,n3,n4⟩:=JKL FM;show b.fr c o e1 n3 n4
 .show By? (b.fp c hc);(.show a.fp c Jc!);(.show a.fp c RG!);.cases e:H c with | none=>show AV? A! | some o =>by_cases n1:c∈GK!;(.show E? n1);.by_cases n2:c∈WU!;(.show B6? n2);.have:=JKL a.fr;show N? h;cases this
def Mv.pre{p:Addr}{W W':ET}{ys EC:GM}(s:VG!)(b:Mv p W ys W' EC H1 H2):W6! H2:=(Mv.refl s).trans b
def Mv.post{p:Addr}{W W':ET}{ys EC:GM}(b:W6! H1)(s:ed!):W6! H2:=b.trans (Mv.refl s)
def WI.FQ{H H':Hp}{p:Addr}{W:ET}{D:AQ!}{m n d A B:Nat}{al:l!}{ys:GM}(x:SB)(f:R6!):BB!:=by
 have no:Ce! (Hf!->((∃xs,o=FB xs)\/HK λob u=>o=.IQ ob u)->Ga!/\b∉WU!):=λb o e c=>by show⟨GY!,GY!⟩;(.have⟨o',e',h1,h2⟩:=x.wa.some_at z;show g?;cases e';rcases c with⟨xs,c⟩|⟨ob,u,c⟩;(.show h1 _ c);.show L! h2 c);.show DE? (EN.mp z);have⟨o',e',h1,_,h2⟩:=JTW;show g?;cases e';rcases c with⟨xs,c⟩|⟨ob,u,c⟩;(.show h1 _ c);.show L! h2 c
 show⟨Xw! (f a _ e (no a _ e (Am! (Py! xs))).1 (no a _ e (Am! (Py! xs))).2),λa o u e=>f a _ e (no a _ e (Bc! (CB! o u))).1 (no a _ e (Bc! (CB! o u))).2⟩
abbrev LsK(hs:Addr)(H H':Hp):B!:=∀b xs,JEy->b≠hs->Ku! (.BK xs)
def WI.lists{H H':Hp}{p:Addr}{W:ET}{D:AQ!}{m n d A B:Nat}{al:l!}{ys:GM}(x:SB)(f:R6!):LsK CN! H H':=λb xs e ne=>f b _ e (x.wa.WS e ne) λz=>by show DE? (EN.mp z);have⟨o,e2,_,h,_⟩:=JTW;rw[e] at e2;cases e2;show h _ A!
abbrev Ft(p:Addr)(W:ET)(ys:GM)(b:Addr):B!:=b∈GK!\/b∈WU!
open S
variable {H H':Hp}{p r:Addr}{W W' V V':ET}{D D' E:T2->Prop}{m n d A B n1 d1 A1 B1:Nat}{al bl:List LL}{ys EC zs XD:List Qy}
def WI.rM(x:SB)(k:dj! fQ!)(kt:BB!):JRf H' A :={ x with wa:=x.wa.keep (CJ! (Mv! k (Am! hb))),lw:=Ed x.lw kt,at_:=Fs! (JJD (CJ! (Mv! k (d! (Sx! ⟨y,hy,hb⟩)))) kt) }
def WI.lies(x:SB)(h:fQ!):yW!:=by
 show CG?;.have⟨o,e,_⟩:=x.wa.some_at h;show⟨o,e⟩
 .show DE? (EN.mp h);show Gv?;show⟨o,e⟩
abbrev kD(p:Addr)(W:ET)(ys:GM)(r:Addr)(V:ET)(zs:GM):B!:=∀b,fQ!->¬Ft r V zs b
def kD.symm(a:kD p W ys r V zs):kD r V zs p W ys:=λb h1 h2=>a b h2 h1
def kD.mv(a:kD p W ys r V zs)(x:SB)(y:JTH H)(mv:W6! H'):JTH H'/\kD p W' EC r V zs:=by
 show⟨y.rM (CJ! (mv.fr b o e (λz=>a b (Am! z) hb) (λz=>a b (Bc! z) hb))) (x.FQ mv.fr),λb h1 h2=>?_⟩;show By? (mv.fp b h1);.show a b Jc! h2
 .show a b RG! h2
 .show Ap? (y.lies h2);rw[h] at e;cases e
open E
open S
variable {H H' H1:Hp}{p r b:Addr}{W W' V V':ET}{D E:T2->Prop}{m n d A B n1 d1 A1 B1:Nat}{al bl:List LL}{ys EC zs:List Qy}{S:Nat->HS}
def Mv.off{o:HO}(mv:W6! H')(e:Hf!)(n:¬fQ!):IE!/\¬Ft p W' EC b:=by
 show⟨mv.fr b o e (λz=>n (S! z)) (GN! n d!),GY!⟩;show By? (mv.fp b z);.show n (S! h)
 .show n (d! h)
 .show Ah?
def WI.new(x:SB)(h:An!):¬fQ!:=λz=>by show Ap? (x.lies z);rw[h] at e;cases e
abbrev j3(d:PyData):B!:=∀es,d=LD! es->∀e∈es,JLQ (e=pF!) Hv!
def Jo9{v:PyData}(h:JLQ (v=pF!) (hN! n)):j3 (VO v):=λes e1 e he ds e2=>by cases e1;show HG?;(.show Hr?);.rw[ZK h1] at e2;show h ds e2
def Jf5(L:j!):j3 (VO (Ju L)):=Jo9 λds e x hx=>by cases e;have⟨n,_,rfl⟩:=ZN hx;show⟨n,A!⟩
def Ng{v:PyData}(h:∀ds,v≠pF!):j3 (VO v):=Jo9 λds e=>b6! e h ds
def Ef.wN{dv:PyData}(h:JFZ dv):j3 dv:=by cases h with | JD _ q G G' v hi hs =>(cases hs with | make=>show A6? | hold=>show A6? | drop=>show A6? | take=>show A6? | free=>show A6?) | no _ q G k =>intro es e1 e he ds e2;cases e1;show HG?;(.show Hr?);.show DY? (ZK h1) | send=>show A6? | clean=>show Jf5 _ | ask=>show A6? | GC=>show Jf5 _
def RW.wN{dv:PyData}(h:JTr dv):j3 dv:=by
 have rf:∀k,j3 (YG k):=λk es e1 e he ds e2=>by cases e1;show HG?;(.show Hr?);.show DY? (ZK h1)
 cases h with | ok _ _ _ e=>show e.wN | out=>show rf 0 | WJ=>show rf 5
def Jsi{v:L2.V}{e:PyData}(y:im! H r E n d A B)(fr:Qp r V zs H H')(h:jY! e)(pl:JLQ (e=pF!) (hN! n)):Jz! Rep e:=by have kt:=y.FQ fr;cases h with | one h=>show EM! (h.keep kt) | @BK a xs ds h p =>show .BK ?_ (JJe (Yb! kt));rcases h with(e|⟨o,e⟩)|z;(.show S! (S! (y.lists fr a xs e GY!));rw[z,y.wa.hs] at e;have e:V.qs.map (λq=>L2.V.ref H!)=xs:=HO.BK.inj (ZO e);have⟨q,hq⟩:=Mm! V.qs 0 (KE y.wg.wl.len y.m1);(have hx:xs[0]?=D! (L2.V.ref H!):=by rw[<-e,ZH,hq];rfl);have⟨d0,hd0⟩:=Mm! ds 0 (we! (AD! p) hx);have rp:=A6 p 0 _ _ hx hd0;have⟨k,rfl⟩:=pl ds A! d0 (ZP hd0);cases rp);(.show DM? (EW! (FS kt.IQ _ e)));.show L? z
def Joy{v:L2.V}{e:PyData}(y:im! H r E n d A B)(fr:Qp r V zs H H')(h:j5 K H v e)(pl:j3 e):Jz! j5 e:=by cases h with | @BE a xs ds h p =>show FB ((y.FQ fr).sq h) (Ec (L4! p) λj x d0 hx hd=>Jsi y fr (A6 p j x d0 hx hd) (pl ds A! d0 (ZP hd)))
def Al.start(w0:bt!)(v0:V.ls=[])(wc:W.c=0)(vc:V.c=0)(sh:W.share=V.share)(wl:hI!)(vl:V.qs.length=m)(we:qK!)(ve:∀i q G,Ba! (V.qs[i]?)->mf G i):Al W V [] [] [] []:=by show⟨Ec (Bi! wl vl) λj x y hx hy=>?_,A!,jp w0 v0,jp wc vc,sh,A!⟩;have⟨h,o,l,r',e⟩:=we j Ag! x.2 hx;have⟨h2,o2,l2,r2,e2⟩:=ve j AK! y.2 hy;rw[e,e2];show⟨A!,A!,A!,A!,A!,A!,A!⟩
open E
structure Nm(W:ET)(i:Nat):B! where
 c0:0<=W.c
 c1:W.c<=2400*sB
 ls:Mj! (cj!/\AY!<=W.c)
open S
variable {H H':Hp}{p:Addr}{W W':ET}{D D':T2->Prop}{m n d A B i:Nat}{al al':List LL}{ys EC:List Qy}{dd:DD}{dv:PyData}
def Nm.sm(x:OB!)(h:i<=40):Mj! (Sm AY!):=Fy! (by have h1:=x.ls l hl;have h2:=x.c1;show⟨h1.1,X!⟩)
def Nm.up(x:OB!):Nm W (Aj!):=⟨x.c0,by have:=x.c1;lia,x.ls⟩
def Nm.nv{VJ L:j!}(x:OB!)(nv:oG!)(sub:z2!)(ll:z3!):Nm W' (Aj!)/\∀l∈L,cj!/\AY!<=W'.c:=by
 have hl:L.length<=2400:=by rw[nv.ls,ZE] at ll;show AA Nm! ll
 have c0:=x.c0;have c1:=x.c1;have new:∀l∈L,cj!/\AY!<=W'.c:=λl bN=>by (have h1:AY!∈nums W.c L.length:=JB0 nv.nu BL bN);have⟨j,hj,e⟩:=ZN h1;have:=Ck! hj;rw[nv.c,<-e];constructor<;>lia
 show⟨⟨U! nv.c (g9! c0 Ng!),U! nv.c (Int.add_le_add c1 (MC! hl)),λl bN=>?_⟩,new⟩;rw[nv.ls] at bN;show j? bN;.have:=x.ls l (sub l h);rw[nv.c];show⟨St!,X!⟩
 .show new l h
def nD.sub{BQ:Int}{L:j!}(h:JRX H'):∃VJ,oG!/\z2!:=by
 have⟨l1,l2,t,a,z,b,el,_,_,nv,_⟩:=h;show⟨_,nv,Jl!⟩;rw[el];show HX?;.show M4!
 .show DW?
def RW.nm(e:JTr dv)(x:OB!)(ll:z3!):Nm W' (Aj!):=by have lb:Mj! (l∈W.ls):=λl h=>h;cases e with | out _ _ e=>rw[e];show x.up | WJ _ _ e=>rw[e];show x.up | ok _ _ _ e =>cases e with | JD _ q G G' v hi hs e nv=>show Eq? | no _ q G k hi rf e=>rw[e];show x.up | send h g tb q G G' l t hi hb se e nv=>show Eq? | clean h q G k R rs L hi rc pm pw e nv=>show Eq? | ask h io I L e nv=>show Eq? | GC BQ L dl =>have⟨VJ,nv,sub⟩:=dl.sub;show(x.nv nv sub ll).1
abbrev t_(L:j!):B!:=L.length<=5000/\∀n∈ci BX!,Sm n
inductive XH:DD->AP! Ev! Str
 | make (h:Nat) (t:T2) (s:Gf!):XH (Ki! h) (QR t) (Br t)
 | hold (h:Nat) (a b:T2):JKG HQ!
 | drop (h:Nat) (a b:T2):JKG JC!
 | take (h:Nat) (a b:T2):JKG JD!
 | free (h:Nat) (b:T2):XH (Eq! h b) IR "ok"
 | send (h g:Nat) (b:T2) (n:Int) (s:Sm n):U7! XH (HR! h g b) n FG n
 | ask (h:Nat) (n:Int) (s:Sm n):U7! XH (I3! h) n FG n
 | clean (h:Nat) (L:j!) (s:t_ L):XH my! (Ju L) JJd
 | GC (n:Int) (L:j!) (s:t_ L):XH (.GC n) (Ju L) JJd
def RW.tx(e:JIL)(wi:SB)(hn:Ae!)(x:OB!)(hi:i<=39)(ll:z3!):∃z,SD!:=by
 have nums:∀{VJ L:j!},oG!->(z2!)->t_ L:=λ{VJ L} nv sub=>by show U? (x.nv nv sub ll);have c1:=h1.c1;rw[nv.ls,ZE] at ll;show⟨X!,bh!⟩;have⟨l,hl,rfl⟩:=ZN hk;have:=h2 l hl;show⟨St!,X!⟩
 have lb:Mj! (l∈W.ls):=λl h=>h;have m5:=wi.m5;generalize ed:VO dv=u at e;cases e with | out=>cases ed | WJ=>cases ed | ok _ _ _ e =>cases e with | no=>cases ed | JD _ q G G' v VF hs e nv =>cases ed;(cases hs with | make h _ a =>have⟨sd,nu⟩:=Yx! VF;(have il:h<m:=NE! vT! VF);show Ka? (G.AY<=a0!) Yx! (ZP VF);have md:=wi.md;have m0:=sd.m0;have nu:G.BQ=ii:=nu;show⟨_,Ki! h _ ⟨⟨Mz! (0<=G.BQ) (nu▸Ng!),by change G.BQ<=100000;lia⟩,⟨m0,by change G.AY<=100000;lia⟩⟩⟩ | hold h a b=>show u? (HQ! h a b) | drop h a b=>show u? (JC! h a b) | take h a b=>show u? (JD! h a b) | free h b=>show u? (Eq! h b)) | send h g tb q G G' l t VF hb se e nv =>cases ed;have:=x.c0;have:=x.c1;show⟨_,HR! h g tb _ (LY! X!)⟩ | clean h q G k R rs L VF rc pm pw e nv =>cases ed;show⟨_,Yt! h L (nums nv lb)⟩ | ask h io I L e nv =>cases ed;have:=wi.iz;show⟨_,I3! h _ (LY! DO!)⟩ | GC BQ L dl =>cases ed;have⟨VJ,nv,sub⟩:=dl.sub;show⟨_,.GC BQ L (nums nv sub)⟩
open E
def VI:NP! C9!/\NP! Ch!/\NP! AM!/\NP! Ci!/\NP! Ew!/\V2! AL!/\V2! Db!/\V2! Dc!/\V2! Dd!:=ZV
def pC:V3! C9!/\V3! Ch!/\V3! AM!/\V3! Ci!/\V3! Ew!:=ZV
def bb{P:B!}{b:Bool}(h1:XZ!)(h2:b=false):P:=by rw[h1] at h2;cases h2
def jY{R:Fg!}{xs:Q!}{a:β}(h:v0! [a]):∃x,xs=[x]/\R x a:=by cases h with|cons r h=>show DX? h r
def wL{R:Fg!}{xs:Q!}{a b:β}(h:v0! IT!):HK λx y=>xs=[x,y]/\R x a/\R y b:=by cases h with|cons r h=>have⟨y,rfl,r2⟩:=jY h;show⟨_,_,A!,r,r2⟩
def sP{R:Fg!}{xs:Q!}{a b c:β}(h:v0! [a,b,c]):NM λx y z=>xs=[x,y,z]/\R x a/\R y b/\R z c:=by cases h with|cons r h=>have⟨y,z,rfl,r2,r3⟩:=wL h;show⟨_,_,_,A!,r,r2,r3⟩
def Uh{H:Hp}{v:V}{ns:At}(h:jY! (IZ! (CL! V!))):∃l,v=JU!/\JHi:=by generalize e:PyData.list (CL! V!)=u at h;cases h with | one h=>cases h<;>cases e | @BK a xs ds sq pr =>cases e;show S? a A!;(have:∀{xs:C!} {ns:At},Wz! xs CL! hN!->xs=Ug! wp:=λ{xs ns} pr=>by induction ns generalizing xs with | nil=>cases pr;rfl | cons n ns ih =>cases pr with | cons r pr=>cases r;rw[ih pr];rfl);rw[<-this pr];show sq
def Sh{H:Hp}{v:V}{n:Int}(h:jY! l2!):v=Hv!:=by cases h with | one h=>cases h;rfl
def Jow{H:Hp}{v:V}{t:T2}(h:Rep K H v (QR t)):JMU:=by generalize e:QR t=u at h;cases h with | one h=>subst e;show h.th | BK=>cases e
open S
variable {H:Hp}{p pw:Addr}{V:ET}{D:T2->Prop}{m n d B B' i:Nat}{al:List LL}{ys:List Qy}{dd:DD}{Q:VK}{E:XK}
def Jq4(g:GG)(S:dC!)(x:WI H pw V D m n d 0 B al ys)(hn:Ae!)(hB:Bx!)(hd:Nf!)(m4:FW!)(cB:eJ!)(xj:B'<=2400)(nm:Nm V i)(hi:i<=39)(sm:RX!)(k:∀(z:Str) (dv:PyData) (W':ET) (D':AQ!) (al':l!) (EC:GM) (H0 H':Hp),SD!->sR! W' xL EC H0 Uc!->JRV H'->Mv pw V ys W' EC H H'->wI! z)(kE:∀cls i H0 H',XV->cq ww i->sR! V al ys H0 Vj!->E (IN ww) KM H'):rL! JNm:=by
 show B?;show⟨p,OV dd,SU dd,A!,(Ju2 dd).1,Jlc sm,⟨dx,_,hp⟩,λr xs H1 s1 er pa=>?_⟩;show AY?;have x1:=x.same s1;have bad:JLP (sR! V al ys H1 Vj!) (E (IN ww) KM H1):=vS! (kE ww i H1 H1 s1 xf ef);have fin:∀{v:L2.V} {dv:PyData} {W':ET} {D':AQ!} {al':l!} {EC:GM} {H2:Hp},sR! W' xL EC H2 Uc!->JRV H2->Qp pw V ys H1 H2->Fp pw V ys W' EC H1->∃z,SD!/\∀H',BZ H2 H'->wI! z:=λ{v dv W' D' al' EC H2} ef wi fr fp=>by have⟨z,tx⟩:=ef.tx x1 hn nm hi (wi.PU xj);show⟨z,tx,λH' s=>k z dv W' D' xL EC H2 H' tx ef (Yw! s) ((Mv.pre s1 ⟨fr,fp⟩).post s)⟩
 cases dd with | make h =>show Cl? VI.1 pC.1;show Bi?;show JM? Ki! Ki!;show BN?;show Bz?;(cases tx with | make _ t st =>have⟨a,rfl,sq⟩:=Jow TK!;show⟨a,t,A!,sq,st.1,st.2,λH' s=>A0! ez (kq H' s)⟩) | hold h ta tb =>show Fo? yS! yS! HQ! HQ! | drop h ta tb =>show Fo? JAM JAM JC! JC! | take h ta tb =>show Fo? JCt JCt JD! JD! | free h tb =>show⟨JW!,λc=>bb JEe c,λc=>bb JEe c⟩;have⟨_,_,rfl,rfl,⟨b,rfl,eb⟩⟩:=wL pa;show Eq! p pw r b V h A! S1 er (Fu (dd:=Eq! h tb) g x1 hn hB hd m4 cB wT! bad b eb);show BN?;cases tx;show xp! | send h t tb =>show Cl? VI.2.1 pC.2.1;have⟨_,_,_,rfl,rfl,rfl,⟨b,rfl,eb⟩⟩:=sP pa;show HR! p pw r b V h t A! S1 er (Fu (dd:=HR! h t tb) g x1 hn hB hd m4 cB wT! bad b eb);show BN?;show Bz?;(cases tx with | send _ _ _ j sj =>obtain rfl:=Sh TK!;show⟨j,A!,Cc sj,lH! xp!⟩) | clean h =>show Cl? VI.2.2.2.1 pC.2.2.2.1;show Bi?;show JM? Yt! Yt!;show BN?;show Bz?;(cases tx with | clean _ L sL =>have⟨l,rfl,sq⟩:=Uh TK!;show CS? l _ sq sL.1 sL.2 (lH! kq)) | ask h =>show Cl? VI.2.2.1 pC.2.2.1;show Bi?;show JM? I3! I3!;show BN?;show Bz?;(cases tx with | ask _ j sj =>obtain rfl:=Sh TK!;show⟨j,A!,Cc sj,lH! xp!⟩) | GC BQ =>show Cl? VI.2.2.2.2.1 pC.2.2.2.2;show Bi?;show Gh? .GC BQ (Fu (dd:=.GC BQ) g x1 hn hB hd m4 cB wT! bad);show BN?;show Bz?;cases tx with | GC _ L sL =>have⟨l,rfl,sq⟩:=Uh TK!;show CS? l _ sq sL.1 sL.2 (lH! kq)
open E
def dC:IF! [PB!,S1!,MU!,MT!] PB! S1! yv:={}
inductive Jvq(vs:C!)(H:Hp)(Q:VK)(E:XK):B!
 | mk (p pw:Addr) (W:ET) (D:AQ!) (m n d B B' i:Nat) (al:l!) (ys:GM) (dd:DD) (_:Y8! (UV JNm)) (_:D0!) (_:WI H pw W D m n d 0 B al ys) (_:Ae!) (_:Bx!) (_:Nf!) (_:FW!) (_:eJ!) (_:B'<=2400) (_:OB!) (_:i<=39) (_:RX!)
   (_:∀(t:Addr)(z:Str)(dv:PyData)(W':ET)(D':AQ!)(al':l!)(EC:GM)(H0 H':Hp),eQ! [UV "done",T0!]->SD!->JJx Uc!->JRV H'->Mv pw W ys W' EC H H'->cm!)
   (_:∀(t:Addr)(k:Nat)(H0 H':Hp),eQ! (o1! k)->k<8->JKX H0 (YG k)->XV->cm!)
def gLs(g:GG):EL 9 Wd Xt [PB!,S1!] Jvq:=by
 show m? g.mLs.fn.KD dC;have⟨p,pw,W,D,m,n,d,nB,wb,i,al,ys,dd,rfl,S,wi,hn,hB,hd,m4,cB,xj,nm,hi,sm,k,kE⟩:=h;show A?;show Q?;show D2? dC.nd (Bh (QJ! Jpd)) (Jf3 (i:=3) A! A! A! dC.nd A! A! A! g.cHE (λAB E ES cW=>Ag (JRw dC.nd (JSF TJ! g.mSy.mt gSy g.mSy.bd La!))) (λex=>Ag (JRw dC.nd (QJ! (Jf7 (gCs g) HJ Dk! g.mCs.mg g.mCs.fn.kp g.mCs.bd lU!))))) JDg;show⟨Y7!,λt1 h1=>?_⟩;show BJ? pZ! h1;generalize Ny! t1 pZ!=H1 at s1;show AY?;have⟨dx,hp⟩:=S1.ob;show⟨F?,p,dx,_,A!,hp,Xc ZV,_,A!,Jq4 (B':=wb) g S1 (Yw! s1) hn hB hd m4 cB xj nm hi sm (λz dv W' D' al' EC H0 H' tx ef OS mv=>JSB ?_) (λcls c H0 H2 s2 xf ef=>JSE c ?_)⟩;.have s2:=ET! [UV "done",T0!] ht;show k t z dv W' D' xL EC H0 _ Ab tx ef (OS.same s2) ((Mv.pre s1 mv).post s2)
 .show kE t5 c H0 _ Ab xf.lt ef (Ah s1 (Ji! s2 (Ai hx) (Ah s4 (Ai h5))))
def J0j:IF! [DE!,MU!] DE! MU! Jc4:={}
inductive Jn5(vs:C!)(H:Hp)(Q:VK)(E:XK):B!
 | mk (x:Addr) (v:V) (dd:DD) (dv:PyData) (z:Str) (_:vs=[Qz!,v]) (_:Wi!) (_:jY! dv) (_:SD!) (_:ja! z)
abbrev cN:C!:=[UV Ci!,UV Ew!]
def r8:JDx Ch!/\JDx AM!/\JEJ Ci!/\JEJ Ew!:=ZV
inductive pE(v:Str):AP! Ev! Str
 | th (t:T2) (s:Gf!) (e:v=C9!):pE v (QR t) (Br t)
 | ok (n:yX!) (m:V2! v):pE v IR "ok"
 | BQ (j:Int) (s:Sm j) (n:yX!) (m:nx!) (t:JDx v):U7! pE v j FG j
 | nums (L:j!) (s:t_ L) (n:yX!) (m:nx!) (t:JEJ v):pE v (Ju L) JJd
def XH.k{dd:DD}{dv:PyData}{z:Str}(h:SD!):pE (OV dd) dv z:=by cases h with | make h t s=>show .th t s A! | hold=>show Ev? AL! yS! | drop=>show Ev? Db! JAM | take=>show Ev? Dc! JCt | free=>show Ev? Dd! JEe | send h g b j s=>show Eu? .BQ j Ch! VI.2.1 r8.1 | ask h j s=>show Eu? .BQ j AM! VI.2.2.1 r8.2.1 | clean h L s=>show Eu? .nums L Ci! VI.2.2.2.1 r8.2.2.1 | GC h L s=>show Eu? .nums L Ew! VI.2.2.2.2.1 r8.2.2.2
def gTx(g:GG):EL 2 La Lm [DE!,MU!] Jn5:=by show m? g.mTo2.fn.KD J0j;have⟨x,v,dd,dv,z,rfl,hx,rp,tx,k⟩:=h;show A?;show BK? (JRx DR! (JDS tO hP! hQ! hR! La!)) (V1! (JDR DR! JPE As) (JDR DR! (QJ! As) (JDS tP g.mLl.mg g.mLl.fn.kp g.mLl.bd (JMz (Ra! 1)))) (Z1! w!));have⟨xs,ex,_⟩:=hx.row;show⟨Ju? Hn!⟩;have tk:=tx.k;generalize OV dd=vb at ex tk;change B3! (y! (Zh! AE! vb AE! C9!)) _ _;cases tk with | th t st e =>rw[Fd e];have⟨a,rfl,sq⟩:=Jow rp;show B3 ⟨R? a,t,A!,sq,st,k _ M9!⟩ | ok n m =>rw[D0 n];show Jv?;show H7?;rw[m];show B3 (k _ (Ai ht)) | BQ j sj n m m2 =>rw[D0 n];show Jv?;show D7? QS;show H7?;rw[m];show K8? (db! s1) H1! (JLO cN);show K2? cN;rw[m2];obtain rfl:=Sh rp;show Bn ⟨_,A!,j,A!,Cc sj,k _ (Ah s1 (Ai oN))⟩ | nums L sL n m m2 =>rw[D0 n];show Jv?;show D7? QS;show H7?;rw[m];show K8? (db! s1) H1! (JLO cN);have s2:=Ah s1 (ET! cN oN);show K2? cN;rw[m2];have⟨l,rfl,sq⟩:=Uh rp;show B3 ⟨_,A!,l,A!,Bq! (Tl s2 sq),AN! (P3 hq (Tl s2 sq) (Pa! sL.1) sL.2 λH3 s3 e3=>⟨q,mM! BX! FG,A!,e3,ck! ZA sL.1,Nj sL.2,λH4 s4=>k _ JN7⟩)⟩
def Jqe(n:Nat):iZ (n+1) (-1)=D! n:=by unfold iZ;rw[aM!,Kr! AE];congr 1;lia
def Jrf(xs:C!)(z:V):UK (xs++[z]) (-1)=D! z:=by unfold UK;rw[ZE,yy! [z].length Qs!,Jqe];change(xs++[z])[xs.length]?=D! z;simp
def Jon(n d:Nat):i9! He! d (-1)=n:=by change bJ! (AF! (-1)<0) (AF! (-1)+JCR).toNat (min (-1:Int).toNat (n+1))=n;rw[TN! AE];lia
def Jq7(xs:C!)(z:V):JMb (xs++[z]) (-1)=xs:=by unfold Pi;rw[ZE,yy! [z].length Qs!,Jon,HT.dj];simp
abbrev DD.JU(k:Nat):DD->DD
 | .make _=>Ki! k
 | .hold _ a b=>HQ! k a b
 | .drop _ a b=>JC! k a b
 | .take _ a b=>JD! k a b
 | .free _ b=>Eq! k b
 | .send _ g b=>HR! k g b
 | .clean _=>Yt! k
 | .ask _=>I3! k
 | .GC n=>.GC n
abbrev DD.MZ(t:T2):DD->DD
 | .hold h a _=>HQ! h a t
 | .drop h a _=>JC! h a t
 | .take h a _=>JD! h a t
 | .free h _=>Eq! h t
 | .send h g _=>HR! h g t
 | d=>d
structure Dh(H:Hp)(x:Addr)(dd:DD)(rest:C!):B! where
 at_:∃h:Int,nD! (r0! :: DH!::rest)
 ne:¬OV dd=Ew!
 qI:∀(k:Nat)(t:Addr)(H':Hp),BB!->eQ! (r0! :: T! EX!::rest)->M_ H' t (dd.JU k)
 last:(∃h:Int,rest=[]/\M3! [r0!,DH!])\/NM λxs b tb=>M3! (xs++[B9!])/\BA!/\xs≠[]/\xs.length<=3/\∀(c t:Addr)(tc:T2)(H':Hp),BB!->GL! c (TM! tc)->eQ! (xs++[h! c])->M_ H' t (dd.MZ tc)
def M_.dh(h:Wi!)(n:∀n,dd≠.GC n):∃rest,Dh H x dd rest/\rest.length<=2:=by cases dd with | GC n'=>show I? A! (n n') | make h'=>show KS? C9! | clean h'=>show KS? Ci! | ask h'=>show KS? AM! | hold h' ta tb =>show Kj? AL! AL! | drop h' ta tb =>show Kj? Db! Db! | take h' ta tb =>show Kj? Dc! Dc! | free h' tb =>show D5? (JUY Dd! ⟨b,e',Tr! eb⟩ [UV Dd!,T! h'] ⟨c,et,ec⟩) (by change 1<=2;decide) | send h' g tb =>show D5? (JUY Ch! ⟨b,e',Tr! eb⟩ [UV Ch!,T! h',K4!] ⟨c,et,ec⟩) Ao!
def Jj8{dd:DD}{k:Nat}(h:RX!)(hk:Sm EX!):R6 (dd.JU k):=by cases dd with | make=>show hk | hold=>show Cf? | drop=>show Cf? | take=>show Cf? | free=>show Cf? | send=>show Cf? | clean=>show hk | ask=>show hk | GC=>show h
def Jr3{dd:DD}{t:T2}(h:RX!)(ht:Gf!):R6 (dd.MZ t):=by cases dd with | make=>show h | hold=>show FE? | drop=>show FE? | take=>show FE? | free=>show⟨v6,ht⟩ | send=>show FE? | clean=>show h | ask=>show h | GC=>show h
def Jt2{dd:DD}(h:OV dd=Ch!):NM λa g b=>dd=HR! a g b:=by cases dd with | send a g b=>show⟨a,g,b,A!⟩ | make=>show Al? C9! | hold=>show Al? AL! | drop=>show Al? Db! | take=>show Al? Dc! | free=>show Al? Dd! | clean=>show Al? Ci! | ask=>show Al? AM! | GC=>show Al? Ew!
def J0u:Al! d7! d7! zL:={}
inductive Jr2(vs:C!)(H:Hp)(Q:VK)(E:XK):B!
 | mk (x l:Addr) (dd:DD) (m:Nat) (x0 x1 x2 x3 x4 x5 x6:Int) (_:vs=[Qz!,JU!,T! Bt!]) (_:Wi!) (_:RX!) (_:∀n,dd=.GC n->n<=99000) (_:PY! l [T! x0,T! x1,T! x2,T! x3,T! x4,T! x5,T! x6]) (_:FW!)
   (_:∀(t:Addr)(cH:DD)(H':Hp),JOA cH (R6 cH))
def gOt(g:GG):EL 1 Wa Xq d7! Jr2:=by
 show m? g.mOt.fn.KD J0u;have⟨x,l,dd,m,x0,x1,x2,x3,x4,x5,x6,rfl,hx,sm,cb,el,m4,k⟩:=h;show A?;show Cm? (Mw! (JEl RW!) (Ap (pv 0))) (n6! (PV! DR!) (Ao A8 (Eh (cD! (Lh! (cl! DR!) RW!))) RW!)) (Pv! (Pb! (Qa! RW!) (Be zv (Be zv (JIq ey!) (Bh (CR! (Lh! EQ JHN)))) (Ii Tz Rs ey! Ma))) (JTg (rh! (Qa! RW!) (PV! DR!)) DR! (Lh! EQ JHN) DR!) (JEb (Pb! (F1 (JMf (Ao Aw Rs JOg) Er! g.T.tuple EY)) (Be zv (JIq (L9 (uW vG Af))) (Bh (CR! (Bh (Mk! (Be Cf (Be F8 JRm Af) (cl! EQ)) JHN)))))) 0));have sl:=DZ.of (K:=K) el;show⟨F?,GW? l 5 sl _ A! A! (EZ! 9) _ A!⟩;show Io (λ_=>Dn! (k x dd H M9! hx sm)) (JW!);by_cases cc:∃n,dd=.GC n;.have⟨BQ,rfl⟩:=cc;have ex:M3! [UV Ew!,T! BQ]:=hx;show⟨AK? x 0,K6? Hn!⟩;show h?;show B3 ⟨F?,x,_,1,_,A!,A!,Hn!,A!,_,_,A!,A!,_,A!,l,_,6,_,A!,A!,sl,A!,_,_,A!,A!,EZ! 60,_,_,A!,A!,H1!,BQ!⟩;have s1:=VV! sd! hq;have eq:Yz! (PT! q sd!) q sd!:=Ab;change UG _ _ _ _ _ _;have a0:=oe! x6 60;have a1:=q0! x6 60;have b0:=cb BQ A!;have sm:Sm BQ:=sm;(obtain⟨j,ej,sj⟩:∃j:Int,UK sd! (x6 % 2)=D! (V! j)/\Sm j:=by have:=sm.1;rcases(Px! (x6 % 2=0\/x6 % 2=1)) with e|e;(.show⟨0,cG!,wP,wP⟩);.show⟨BQ+1+x6 % 60,cG!,X!,X!⟩);show⟨BI? l _ 6 _ A!,dl!,A!,_,_,A!,A!,EZ! 2,q,_,_,_,A!,A!,Cq! eq,ej,H1!,zV! (.GC j) (oo! s1) sj⟩
 have⟨rest,dh,rl⟩:=hx.dh λn e=>cc ⟨n,e⟩;have⟨h,ex⟩:=dh.at_;have sx:=ED! (K:=K) ex;show⟨Ju? sx⟩;rw[D0 dh.ne];have c0:=eO! (x6 / 3) 40;have c1:=JJK (x6 / 3) 40;obtain⟨k9,ek,sk⟩:∃k9:Nat,Bt!+x6 / 3 % 40=T4!/\Sm T4!:=⟨(Bt!+x6 / 3 % 40).toNat,X!,DO!,X!⟩;show Bn ⟨F?,l,_,6,_,A!,A!,sl,A!,_,_,A!,A!,m2!,A!,_,A!,Io (JW!) (JW!)⟩;· show HS? 1 sx (λq1 YU=>?_);(.rintro⟨_,z⟩;have z:oj! JSv 1=wM!+1:=z;have e:oj! JSv 1=min 1 (wM!+1):=L! HT.WY 1;rw[e] at z;show AJ! (BM Fx!) (CQ.mpr Nm!));have e1:JMb (iH!::wp h::rest) 1=LQ!:=Jxf _ 1;rw[e1];show BJ? LQ! YU;have eq1:rI! q1 LQ! q1 LQ!:=Ab;generalize Ny! q1 LQ!=H1 at s1 eq1;show⟨t?,A!,l,_,6,_,A!,A!,dl!,A!,_,_,A!,A!,J1!,_,_,A!,A!,EZ! 40,_,_,A!,A!,RO! 1,λq2 VU=>?_⟩;rw[ek];have s2:=ET! Uq! VU;have eq2:aT! H1 q2 Uq! q2 Uq!:=Ab;generalize QY! H1 q2 Uq!=H2 at s2 eq2;show⟨q1,q2,LQ!,Uq!,A!,A!,QC! s2 eq1,Ac! eq2,sK,H1!,(λz=>hv!),λ_ q3 lu=>?_⟩;have s3:=HX! (FB (LQ!++Uq!)) lu;have eq3:oY! q3 (LQ!++[xz T4!]) q3 [iH!,xz T4!]:=Ab;generalize JFQ q3 (LQ!++[xz T4!])=H3 at s3 eq3;have aT:=XE!;show HS? 2 (db! aT) (λq4 gG=>?_);(.rintro⟨z,_⟩;have z:oj! 0 2=0:=z;have e:oj! 0 2=min 2 (wM!+1):=L! HT.WY 2;rw[e] at z;show Nat.not_lt_zero _ (BM z));have e2:Pi (iH!::wp h::rest) (D! 2) KM=rest:=Yl _ 2;rw[e2];have s4:=ET! rest gG;have eq4:aT! H3 q4 rest q4 rest:=Ab;generalize QY! H3 q4 rest=H4 at s4 eq4;have iR:=Ah aT s4;show⟨q3,q4,_,rest,A!,A!,QC! s4 eq3,Ac! eq4,sK,CW! (IT rl 2),GY!,λ_ q5 lr=>?_⟩;(.subst z;show k q3 (dd.JU k9) H4 iR (dh.qI k9 q3 H4 (JX iR) (NE s4 eq3)) (Jj8 sm sk));.have s5:=HX! (FB ([iH!,xz T4!]++rest)) lr;show k q5 (dd.JU k9) _ (Ah iR s5) (dh.qI k9 q5 _ (JX (Ah iR s5)) Ab) (Jj8 sm sk)
 show DH?;show mY (Oa! (H'=H/\GA=[VK!,Nl!,Nu!])) (k3!) ?_;· show⟨F?,GW? l 6 sl _ A! A! m2! _ A!⟩;by_cases q1:Kp! (x6 % 3)=wp 1;(.rw[AR q1];show B3 ⟨Ju? sx⟩;by_cases q2:OV dd=Ch!;(.rw[Fd q2];have⟨a,g',b,rfl⟩:=Jt2 q2;have⟨bb,e,eb⟩:=hx;show B3 ⟨CD? x 1,A!,Q7!,A!,_,A!,_,A!,l,_,6,_,A!,A!,sl,A!,_,_,A!,A!,J1!,_,_,A!,A!,EZ! 40,_,_,A!,A!,_,A!,x,_,3,_,A!,A!,Q7!,A!,JTU,Gc!⟩;rw[ek];show k t (HR! a k9 b) _ (Ai ht) ⟨bb,Ab,iF! eb⟩ ⟨sm.1,sk,sm.2.2⟩);.rw[D0 q2];show Bn (NE cS Bj!));.rw[AL q1];show Bn (Bn (NE cS Bj!))
 rintro GA H' ⟨rfl,rfl⟩;rcases dh.last with⟨h',_,e⟩|⟨xs,b,tb,e,eb,ne,xl,mk⟩;· show⟨_,A!,1,A!,x,_,-1,_,A!,A!,Q7!,A!,⟨_,_,_,am,A!,T! h',My,am,A!,Bn (Dn! (k x dd H' M9! hx sm))⟩⟩
 · show⟨_,A!,1,A!,x,_,-1,_,A!,A!,Q7!,Jrf xs _,⟨_,_,_,q!,A!,FB eb,Vg,q!,A!,B3 ?_⟩⟩;have d0:=DE (x6 / 3) (show(Bt!+2)≠0 by lia);have d1:=DM (x6 / 3) (show TV! (Bt!+2) by lia);have d2:=eO! (x6 / 40) 30;have d3:=JJK (x6 / 40) 30;show⟨R? 1,A!,-1,A!,x,_,A!,Q7!,?_,λq1 YU=>?_⟩;(.rintro⟨_,z⟩;rw[ZE,yy! [AA! b].length Qs!,Jon] at z;show DR _ (BM Fx!));rw[Jq7];show BJ? xs YU;have eq1:aT! H' q1 xs q1 xs:=Ab;generalize QY! H' q1 xs=H1 at s1 eq1;show⟨CD? l 6,A!,dl!,A!,_,_,A!,A!,J1!,_,A!,_,_,A!,A!,_,_,A!,A!,(show TV! (Bt!+2) by lia),_,A!,l,_,6,_,A!,A!,dl!,A!,_,_,A!,A!,J1!,_,_,A!,A!,EZ! 30,H1!,Ia! ⟨RO! 1,λq2 VU=>?_⟩⟩;have s2:=HX! (FB (tv JSl)) hc;have ec:AT JMa c JTR:=Ab;change Jur K _ _ (F8! JMa q2 FB Lm!) _;have VU:Ab! JMa q2:=VU;generalize z! H1 c JTR=H2 at s2 ec VU;show Af? Lm! VU;have eq2:oY! q2 Lm! q2 Lm!:=Ab;generalize JFQ q2 Lm!=H3 at s3 eq2;show⟨q1,q2,xs,Lm!,A!,A!,JB4 s3 s2 eq1,Ac! eq2,ne,CW! (vR! xl 1),(λz=>hv!),λ_ q3 lu=>?_⟩;have s4:=HX! (FB (xs++Lm!)) lu;have sa:=Ah s1 JN7;show k q3 (dd.MZ JSl) _ sa (mk c q3 _ _ (JX sa) (GT! s4 s3 ec) Ab) (Jr3 sm ⟨⟨d0,by change x6 / 3 % (Bt!+2)<=100000;lia⟩,⟨d2,by change x6 / 40 % 30<=100000;lia⟩⟩)
open E K51
open N FX
open PySem PySem.Spec PyProof.Rows L2
abbrev Jnx(K:W.Frag)(wi:TI)(caps:Cb!)(tt:TT)(te:TE):TE:=sP! (Hi! /\
 sx! (kA λa u v v2 v3 v4=>Bg!/\DC K H3 a [u,v,v2,v3,v4]/\tt (JGx) H3 λb H4 =>
   if XZ! then nE! JGx
   else DW!))
open S
variable {X:Cx Kx}{elt iter:Expr}{x y0 y1 y2 y3:Str}{px aV jX jW jV pt pos:Pos}{kt:Nat}{ifs:List Expr}{sc:Scope}{cl:List (Str×Addr)}{caps:List (Str×Nat)}{wi:TI}{tt:TT}{te:TE}
def Jjj{X:E!}{AB:x!}{σ:L2.St}{H:Hp}{s:Shared}{Q:VK}{use:eK!}{RQ:Os}(hc:BK!)(hi:pB! w4!)(J':J8!)(JE:J3!)(H_:GZ!)(IF:J9!)(hx:Gm!)(br:m7!)(jh:Tk! y1)(gD:Tk! y2)(jg:Tk! y3)(KG:Fi!)(has:KA!)(LY:Fh!)(hN:(x::y0::y1::y2::y3::Cg caps).Nodup)(ht:aF! bC!)(he:aE! bC!)(I:I!)(h:JRU Jnx Q)(fin:fh!)(hs:KC!) : fi! pV! (SR! w4! kt pt):=by show Ef?;have qX:cz! y0:=FL br;have qW:cz! y1:=FL jh;have qV:cz! y2:=FL gD;have qU:cz! y3:=FL jg;show Fp? [x,y0,y1,y2,y3] (λy H R=>kA λa u v v2 v3 v4=>y=Br!/\DC Kx H a [u,v,v2,v3,v4]/\R (JGx));show F0?;have⟨ay,uu,vv,vv2,vv3,vv4,ey,gF,q⟩:=b7;match ws,wl with | [v0,v1,w2,w3,w4],_ =>show Jj? (Uq (X:=JDl bC!) hc (Cy (SF! 0 bt bt) (Cy (SF! 1 qX qX) (Cy (SF! 2 qW qW) (du! (SF! 3 qV qV) (SF! 4 qU qU))))) A! A! _ s7 (v0::v1::w2::w3::w4::Kl!) H7 y u (qW! (Ix uu::Ix vv::Ix vv2::Ix vv3::vX! vv4)) I7 r7 ⟨ay,_,ey,gF,A!,_,J2? _ _ _ A! _ _ A! A! A!⟩) [Ix uu,Ix vv,Ix vv2,Ix vv3,Ix vv4] q
def Jo5{X:E!}{i:Nat}{y:Str}{py c9:Pos}(gO:X.N.Nodup)(VF:X.N[i]?=D! y)(hy:AT SM! y .local)(xF:swapsWith pV! (D! (Fo! y py)) c9.line SL=BU! q!)(hc:BK!)(hi:pB! w4!)(J':J8!)(JE:J3!)(H_:GZ!)(IF:J9!)(hx:Gm!)(br:m7!)(jh:Tk! y1)(gD:Tk! y2)(jg:Tk! y3)(KG:Fi!)(has:KA!)(LY:Fh!)(hN:(x::y0::y1::y2::y3::Cg caps).Nodup)(ht:aF! bC!)(he:aE! bC!)(hs:KC!:=by intro _;rfl) :
 PS X (.Assign [Fo! y py] pV! c9) (L9! (JRU Jnx (λv H'=>D.nx fa! H'))):=by
 show i?
 rw[aw! exec_Assign_Name_used xF]
 show HR? RY!
 change F9! _ X.A (do let _ <-comprehension pV! sc SL _ (newList []) am is! (D! q4!)) _ _ s
 show Iw? (Jjj (use:=Ix q4!) (RQ:=λ_ s'=>JQo .next) hc hi J' JE H_ IF hx br jh gD jg KG has LY hN ht he I h (λC Dd H' s1 s' H1 hC I1 I' hn ⟨m,hm⟩ q=>?_) hs) (λ_ s' hq=>ZS (ZS hq))
 subst hC
 show CC? (SQ! (Fo! y py) SL U3!)
 show tg! (Pr I' gO VF (Am! hy) (yF! U3! U3!) (λs2 I2 ⟨a,SQ,ha⟩=>?_) (Bc! hy))
 have xh:s1.heap.objs.size≠a:=by
  show d? ha
  .rw[z];show EU I1.lt
  .intro z2
   have⟨v,qc⟩:=I1.cell y a z
   show I? qc.lt (CZ! z2 (DR _))
 show⟨m,hm.sameBut SQ xh,λh' bu=>⟨_,H',JUW I2,q⟩⟩
open E
def Jjh{K:W.Frag}{a p:Addr}{xs:C!}{tt:TT}{te:TE}{caps:Cb!}{σ:L2.St}{H:Hp}{Q:Gi!}(Pv:No!)(h0:OL!)(hl:pe! JGP)(hs:∀i x ys H2 (N:JH!),w1! Pr! (kA λa' u v' v2 v3 v4=>x=h! a'/\DC K H2 a' [u,v',v2,v3,v4]/\JPK pD! pD!))(hd:We!) : Ff! (FV! (FP! (VZ K a).stop Dv! (VZ K a).go (VZ K a).RU (kA λa' u v' v2 v3 v4=>x=h! a'/\DC K H3 a' [u,v',v2,v3,v4]/\tt (pD!) H3 (vi! (vh! pD! H4 M6!) DW!)))):=by
 show EX?;show Cq?
 show Cj?
open E FX
open N K51
open PySem L2 FX
abbrev dz:LL->Str×Int×Int
 | .w l=>(l.kind,l.s,l.g)
 | .lt s g _=>(Kc!,s,g)
 | .ask s g _ _=>(AM!,s,g)
 | .MY s g _ _ _ _=>(F5!,s,g)
abbrev SG(m:Nat)(z:LL):B!:=(0<=JLe/\JLe<m)/\0<=JMJ/\JMJ<m
open S
variable {H H' H0:Hp}{p:Addr}{W W':ET}{D D':T2->Prop}{m n d A B n' d' A' B' i:Nat}{al al':List LL}{ys EC:List Qy}{dd:DD}{dv:PyData}
def uO(x':R9!){l:LT}(h:LL.w l∈al')(s:0<=l.s/\l.s<m):SG m (.w l):=by
 have⟨a,b,e⟩:=IB h;have hl:l∈LP xL:=LB! (vH e)
 have⟨g0,g1,_⟩:=x'.wg.wl.ok _ hl;show⟨s,g0,g1⟩
def RW.sg(e:JJx dv)(x:SB)(x':R9!)(s:kx!):∀z∈al',SG m z:=by
 have inm:∀{h:Nat} {q:Addr} {G:CN},Ba! (W.qs[h]?)->PR!<=ii/\ii<m:=λ{h q G} hi=>by have:=ES! hi;show N? Mi!;constructor<;>lia
 cases e with | out _ _ _ ea=>rw[ea];show s | WJ _ _ _ ea=>rw[ea];show s | ok _ _ o e =>cases e with | JD _ q G G' v hi hs e nv ea=>rw[ea];show s | no _ q G k hi rf e ea=>rw[ea];show s | send h g tb q G G' l t hi hb se e nv ea =>intro z hz;have bL:=hz;rw[ea] at bL;show ET?;(.show s z h1);(.rw[ZK h1] at hz ⊢;show FK?;(have:l.s=ii:=by rcases se with⟨_,_,rfl⟩|⟨_,_,_,rfl⟩|⟨_,_,_,rfl⟩<;>rfl);rw[this];show inm hi) | clean h q G k R rs L hi rc pm pw e nv ea =>intro z hz;have bL:=hz;rw[ea] at bL;show ET?;(.show s z h1);.have⟨l,hl,rfl⟩:=ZN h1;show FK?;have⟨r,_,rfl⟩:=ZN hl;show inm hi | ask h io I L e nv ea =>intro z hz;rw[ea] at hz;show HF?;(.show s z h1);.show HH?;have:=Ck! hj;have o:h<m:=o;show⟨⟨JJC ii,JJw ii o⟩,JJC Cx!,JJw Cx! this⟩ | GC BQ L dl =>have⟨l1,l2,t,a,z0,b,el,es,_,nv,dv⟩:=dl;have old:bn! (SG m z):=Ai! (s z (by rw[es];show j? hz;(.show M4!);.show DW?));have s0:=s z0 (lc! ZL!);cases z0 with | w l =>have⟨_,_,q,G,G',bs,hi,we,_,ea⟩:=dv;intro z hz;have bL:=hz;rw[ea] at bL;show ET?;(.show old z h1);(.have⟨l',bN,rfl⟩:=ZN h1;show FK?;(have hl:l∈Rr!:=LB! (vH es));have⟨g0,g1,_,kk⟩:=hG! _ hl;rcases we with⟨_,_,rfl⟩|⟨kp,we⟩;(.cases bN);(·(have gt:kt!:=by rcases kk with⟨e,_⟩|⟨e,_⟩|⟨e,_⟩|⟨_,e,_⟩;(.show I7?);(.show I7?);(.show I7?);.show e);(have:l'.s=Mb!:=by rcases we with⟨_,_,rfl⟩|⟨_,_,rfl⟩;(.rw[ZK bN]);.show C? (ZM bN);(.rw[h]);.rw[ZK h]);rw[this,<-gt];show⟨g0,g1⟩)) | lt s' g ts =>have⟨_,_,q,G,hs,os,rs,hi,_,_,ea⟩:=dv;intro z hz;have bL:=hz;rw[ea] at bL;show ET?;(.show old z h1);.have⟨l',bN,rfl⟩:=ZN h1;show FK?;have⟨r,_,rfl⟩:=ZN bN;show s0.2 | ask s' g n0 u =>have⟨_,_,_,q,G,hs,os,rs,hi,_,ea⟩:=dv;intro z hz;rw[ea] at hz;show HF?;(.show old z h1);.rw[ZK h1];show⟨s0.2,s0.1⟩ | MY s' g n0 u tick S =>have⟨_,y,y',i1,i2,new,e1,e2,e3,e4,e5,e6⟩:=dv;intro z hz;rw[e5] at hz;show HF?;(.show old z h1);.have key:∀j:No,j<m->(FX!/\g<m)/\PR!<=Cx!/\Cx!<Bt!:=λj hj=>⟨s0.2,DO!,G6! hj⟩;rcases e6 with⟨_,_,_,_,⟨rfl,_⟩|⟨rfl,_⟩⟩|⟨_,_,_,⟨rfl,_⟩|⟨_,ts,xf,as,rfl,_⟩⟩;(.cases h1);(.show HH?;show FM j (Ck! hj));(.cases h1);.show HH?;show FM j (Ck! hj)
abbrev eJ(ns:At)(al:l!):JDr:=ER! ns.zip al (λy=>(AK!,dz y.2))
def MT.JBW{GQ:j!}{y:Sq!}{z:LL}(h:eo!):∃v,Ml! y.2 [T! AK!,UV (dz z).1,T! JLe,T! JMJ,v]:=by cases z with | w l=>have⟨a,b,e,_⟩:=h;show⟨_,e⟩ | ask s g n u=>have⟨a,e,_⟩:=h;show⟨_,e⟩ | MY s g n u t S=>have⟨⟨a,e,_⟩,_⟩:=h;show⟨_,e⟩ | lt s g ts=>have⟨a,as,e,_⟩:=h;show⟨_,e⟩
def zQ{GQ:j!}:∀{ls:j!} {al:l!},JD4 ls al->Zw! Jzv ls (eJ (Kk! MM!) al)
 | _,_,.nil=>R!
 | _,_,.cons r t=>SC (by have⟨v,e⟩:=r.JBW;show⟨v,Q7!⟩) (zQ t)
def Jwm{ns:At}{al:l!}{l:y6!}(h:l∈eJ ns al):AY!∈ns/\∃z∈al,l.2=dz z:=by show Bt? (ZN h);show⟨(LQ hy).1,y.2,(LQ hy).2,A!⟩
def Jr5(x:SB){z:LL}(hz:Yr!):(dz z).1.length<=10:=by cases z with | w l =>have⟨a,b,e⟩:=IB hz;(have hl:l∈Rr!:=LB! (vH e));change l.kind.length<=10;(rcases(hG! _ hl).kd with h|h|h|h<;>(rw[h];show AI?)) | lt=>show JQ? Kc! | ask=>show JQ? AM! | MY=>show JQ? F5!
def Ji3(x:SB)(hB:Bx!)(nm:OB!)(hi:i<=40)(s:kx!):zC (eJ (Kk! I1!) al):=by
 show Bx?;show⟨?_,Jl!⟩;.unfold eJ;rw[ZA,List.length_zip,ZA];have:=x.PU hB;lia
 .have⟨h1,z,hz,e⟩:=Jwm hl;have⟨y,hy,e1⟩:=ZN h1;have e1:AK!=AY!:=e1;have sz:=Gk! s;have sl:=Jr5 x hz;rw[e,<-e1];show⟨nm.sm hi y hy,⟨sz.1.1,by have:=sz.1.2;lia⟩,⟨sz.2.1,by have:=sz.2.2;lia⟩,sl⟩
open E
def Jyh{v vb:Str}{a:FX.Arg}(h:vb.cps.toList=v.cps.toList++[32]):vb++F3 a=Fz v [a]:=by show N7 ?_;have e:(Fz v [a]).cps.toList=v.cps.toList++32::(F3 a).cps.toList:=D3 32 v (F3 a) [];rw[e];change(vb.cps++(F3 a).cps).toList=_;rw[LH,h];simp
def Jlf(n:Int)(kd:Str)(s g:Int):FG n++":"++kd++":"++FG s++":"++FG g=du (n,kd,s,g):=by
 show N7 ?_;have e:(du (n,kd,s,g)).cps.toList=(FG n).cps.toList++58::(kd.cps.toList++58::(kS! s++58::(FG g).cps.toList)):=by change(Da! (one 58) [FG n,kd,FG s,FG g]).cps.toList=_;rw[D3,D3,D3];rfl
 rw[e];change((((((FG n).cps++#[58])++kd.cps)++#[58])++(FG s).cps++#[58])++(FG g).cps).toList=_;simp
open S
variable {H:Hp}{p pw:Addr}{V:ET}{D:T2->Prop}{m n d A B i:Nat}{al:List LL}{ys:List Qy}
def lU:NP! A6!/\NP! EB!/\NP! BW!/\m9! A6!/\m9! EB!/\m9! BW!:=ZV
def Wg.rJ{D:AQ!}{m n:Nat}{sh}{qs:cr}{ls}(x:Cc!){j:Nat}{q:Addr}{G:CN}{t:T2}(hj:wp!)(h:Hw!):lc=Cx!/\kZ!:=by have⟨s,nu⟩:=Iq! hj;have:=hA! t h;show N? nu;show this
def Jmo{Q:VK}{E:XK}{h:Nat}{q:Addr}{G:CN}{hs:G!}{os:B0!}{rs:Y!}(S:dC!)(x:JKg)(hn:Ae!)(hq:Ba! (V.qs[h]?))(KO:J2!)(k:JGm X7!):rL! (Fz A6! kG!):=by
 show B?;show Bx?;show Gq? (h<m) Mi! hq
 show KH? A6! ba! (Oz! (by rw[ZK ha];show⟨DO!,X!⟩)) lU.1 lU.2.2.2.1;show Bi?;show AY?;have gd:=x.wg.wl.good (CF hn) hq;show Jh? (NA V ii q G) DO!;show Gh? .hand h ⟨pw,ii,V,A!,S1.wo,JOO S1.wo (λy H' s st=>⟨hs,os,rs,s,st.rep,⟨?_,JQ4 x.sm⟩,JKW⟩)⟩;have:=KO.pm.length_eq;have:=gd.h2;lia
def Jg1{Q:VK}{E:XK}{h:Nat}{q:Addr}{G:CN}{hs:G!}{os:B0!}{rs:Y!}(S:dC!)(x:JKg)(hn:Ae!)(hq:Ba! (V.qs[h]?))(KO:J2!)(sm:∀r∈os,SV W!)(k:JGm (De! Bl!).map):rL! (Fz EB! kG!):=by
 show B?;show Bx?;show Gq? (h<m) Mi! hq
 show KH? EB! ba! (Oz! (by rw[ZK ha];show⟨DO!,X!⟩)) lU.2.1 lU.2.2.2.2.1;show Bi?;show AY?;have gd:=x.wg.wl.good (CF hn) hq;show Jh? (NA V ii q G) DO!;show Gh? .things h ⟨pw,ii,V,A!,S1.wo,JOO S1.wo (λy H' s st=>⟨hs,os,rs,s,st.rep,⟨?_,Gc!⟩,JKW⟩)⟩;.have:=KO.PL.pm.length_eq;rw[ZA] at this ⊢;show BP?;have:=gd.o2;lia
 .show HI? ht;show sm r hr
def Jmn{Q:VK}{E:XK}(S:dC!)(x:JKg)(sm:zC (eJ (Kk! V.ls.map) al))(k:ja! (Fh ((eJ (Kk! V.ls.map) al).map du))):rL! BW!:=by show B?;show KH? BW! [] (Oz! JCo) lU.2.2.1 lU.2.2.2.2.2;show .post p pw r V _ A! (S.same s1) (zQ (x.same s1).lw) sm JKW
open E
def Je3{p a:Addr}{H:Hp}{xs:C!}{ts:G!}{te:TE}{σ:L2.St}{Q:Gi!}(hp:Kv!)(ea:oC!)(len:xs.length=ts.length)(z1:zR!)(pr:∀(j:Nat) (x:V) (t:T2) (H2:Hp) (QQ:VK),MF!=D! x->ts[j]?=D! t->FJ!->QQ JNa H2->te (Ix x::Bw σ []) H2 QQ)(k:∀H2,FJ!->jS! (EO! (KV! Br).map AE!)->Dv!) : Ff! (FV! (FP! (XI K a).stop Dv! (XI K a).go (XI K a).RU (JBi (λ(_:L2.St)(H:Hp)(Q:Bool->Hp->Prop)=>Q q! H) H3 (vi! (nE! (Ix x::Bw σ [])) DW!)))):=by
 show Ym (K:=K) (a:=a) (p:=p) (xs:=xs) (tt:=H6!) (te:=te) (be:=[]) (σ:=σ) (K1! (FJ!/\rq!/\Hi!)) (FM! (Ai hp) Ab) (xW! (QC! v6 ea) h.2.2) ?_ ?_;.rintro i x ys H2 N hx ⟨s2,rfl,e2⟩ hN;show HD? (we! len hx);show B3 (pr i x t H2 _ hx ht s2 ⟨e2,?_,JO6 hp s2⟩);(.show Be?;show mq!);.rw[CY,ht,ZF,ZF];rfl
 .rintro ys H2 ⟨s2,rfl,e2⟩;rw[len,BY] at e2;show k H2 s2 e2
def Jat{ts:G!}(z2:YO! Gf!):∀y∈KV! Br,k1!:=Fs! (by have⟨t,ht,rfl⟩:=RA!;show lS! AA (Sv (a:=.t lc AX!) (z2 t ht)))
abbrev Jx0:TE:=Kj Tu [] E0 UD!
abbrev Jxz:TE:=Kj Tu [] E0 (Ck pn! F6)
def c_:Al! [PB!,E2!,MS!,hO!,PA!,"_law_rows","_law_letters"] rO! yy:={}
inductive Jvo(vs:C!)(H:Hp)(Q:VK)(E:XK):B!
 | mk (p pw p0:Addr) (W V':ET) (D D2:AQ!) (m n d B d2 B2 i:Nat) (al bl:l!) (ys zs:GM) (_:UF! (h! p0) Bt!) (_:GV H p pw V') (_:WI H pw V' D2 m n d2 0 B2 bl zs) (_:WI H p0 W D m n d 0 B al ys) (_:Al W V' al bl ys zs) (_:Ae!) (_:Bx!) (_:OB!) (_:i<=40) (_:kx!) (_:Zr! (Q (bv q!) H'))
def yj(g:GG):EL 8 Rw R1 b5! (qm! Qw):=FX.FR.no (gSy g)
def gSa(g:GG):EL 9 V4 Xj rO! Jvo:=by
 show m? g.mSa.fn.KD c_;have⟨p,pw,p0,W,V',D,D2,m,n,d,nB,d2,nB2,ni,al,bl,ys,zs,rfl,S,vi,wi,a,hn,hB,nm,hi,sg,k⟩:=h;show A?;show Q?;show Aa?;show A8?;show Ac? (JSC (Ih A! g.T.range JAJ) 3 c_.nd (JCf c_.nd (vc! w! F7! g.mWSt.mt (Juw g) VM g.mWSt.bd lU!) (NF! (c3! (Le! (JRE (Be Cb As JFG)) (JQf (JJi Jx0 oP! (tO g) Dk! hP! hQ! hR! UA!)))) (c3! (Le! (JRE (Be Cb As JFG)) (JQf (JJi Jxz oP! (tO g) Dk! hP! hQ! hR! (CR! DR!)))))))) (hW! 5 c_.nd (xs! w! F7! g.mWLe.mt (og g) OU g.mWLe.bd) (Ac (Jo5 (i:=6) (be:=[]) c_.nd A! A! A! A! (Ra! 5) A! ZV A! ZV A! A! A! A! A! CM! JRz CM! ZV hy! (PS! (Be Cb (Be Cb (JIR (Be Cb (Be Cb (Z1! Rs) As) w!) EQ) As) JFG))) (JCY (JRE As) (JQf (CR! Jp!)))));show AF?;have m5:=wi.m5;show⟨_,A!,Bt!,A!,R2!,by show e7! m5,?_⟩;show Gj? 0 m (λi σ H2=>HK λu3 u4=>σ=[Eg!,A1! p0,Nu!,u3,u4,none,none]/\FJ!) (HZ! _ _ (BZ.refl _));.rintro h σ H2 hh ⟨u3,u4,rfl,s2⟩;rw[show PR!+ii=ii by lia];show Ir?;have⟨⟨q,G⟩,hq⟩:=rY! vT! hh;have⟨q',G',YV,lk⟩:=a.at_ hq;have gd:=wi.wg.wl.good (JH5) hq;have⟨hs,os,rs,KO⟩:=gd.told;have⟨bu,n_,rs',kH⟩:=(vi.wg.wl.good (JH5) YV).told;have⟨rfl,rfl,rfl⟩:=Td lk KO kH;show Jh? JC2 R2!;have vz:QZ!:=LY! R2!;have lh:=Ca _ vz;have n5:∀t∈hs,Gf!:=JQ4 wi.sm;(have v8:∀r∈os,SV W!:=Ex! (by have mo:=KO.PL.pm.mem_iff.mp (BL hr);have⟨a1,a2⟩:=wi.wg.rJ hq mo;have md:=wi.md;show Ka? (G.AY<=a0!) Yx! (ZP hq);show⟨LY! (by show a1▸Ng!),LY! (wi.ob h q G hq _ mo)⟩));(have lhs:hs.length<=60:=by have:=KO.pm.length_eq;have:=(Yx! hq).1.ok.hz;lia);(have los:os.length<=60:=by have:=KO.PL.pm.length_eq;show ES?;have:=(Yx! hq).1.ok.oz;lia);have⟨dx,hp⟩:=bg.wa.ob;show⟨R? p0,dx,_,A!,hp,Hq!,_,A!,p0,ii,W,A!,bg.wa,JOO bg.wa (λx H3 s3 st=>?_)⟩;have⟨y1,y2,y3,as,bs,ds,ex,e1,t1,e2,r2,_,_⟩:=st;have XE:=Ah s2 s3;have S3:=GS! XE;have⟨tZ,eP⟩:=S3.ob;show⟨F?,y? p tZ _ A! eP (Xc ZV) ii A! (Cc vz) _ _ A! ?_⟩;(.change 5+NS! ii<=_;lia);have r1:(E7! "hand "++mC!)=Fz A6! kG!:=Jyh (a:=.n ii) A!;change Qw [DF!,bn (E7! "hand "++mC!)] H3 _ _;rw[r1];show Jmo S3 (vi.same XE) hn YV kH λH4 s4=>?_;have jq:=GX! ex;have e14:=GX! e1;show⟨AK? x 0,_,A!,A!,Ac! jq,A!,y1,A!,lk! e14,λll gJ=>Je3 (te:=Jx0) gJ e14 (Pa! (AD! t1)) (by show BY? lhs) (λj v t H5 QQ hj ht s5 qq=>?_) λH5 s5 el=>?_⟩;(.rw[ZH] at hj;have⟨aj,mC,rfl⟩:=G5! hj;show⟨R? aj,t,A!,JB4 s5 s4 (A6 t1 j aj t mC ht),DQ! n5 t ht,qq⟩);show CS? ll (X7! Br) el (CW! lhs) (Jat n5) (λH6 s6=>JIJ);show h?;have bE:=T7! s4 s5 s6;have s06:=Ah XE bE;have S6:=GS! s06;show Bn ⟨F?,y? p tZ _ A! (L! bE eP) (Xc ZV) ii A! (Cc vz) _ _ A! ?_⟩;(.change 7+NS! ii<=_;lia);have r2':(E7! "things "++mC!)=Fz EB! kG!:=Jyh (a:=.n ii) A!;change Qw [DF!,bn (E7! "things "++mC!)] H6 _ _;rw[r2'];show Jg1 S6 (vi.same s06) hn YV kH v8 λH7 s7=>?_;have n8:=Ah bE s7;show⟨AK? x 1,IU? (db! n8) y2 (QC! n8 e2) (λl2 eT=>Je3 (te:=Jxz) (ts:=JAN) eT (NE n8 e2) (Pa! (AD! r2)) (Pa! (CW! los)) (λj v t H8 QQ hj ht s8 qq=>?_) λH8 s8 js=>?_)⟩;(.rw[ZH] at ht;have⟨r,MC,rfl⟩:=G5! ht;have⟨ra,rt,rh,rc,rfl,f1,f2,_,_⟩:=FO! (A6 r2 j v r hj MC).keep (Ah n8 s8);show⟨CD? ra 0,A!,Ac! f1,A!,rt,W!,A!,Ac! f2,DQ! v8 r MC,qq⟩);show⟨l2,mM! De! Br,A!,js,ck! ZA (CW! los),Jat (Ay! (by show HI? ht;show v8 r hr)),λH9 s9=>JIJ⟩;show h?;show Bn (HZ! _ _ (Ah XE (Ji! n8 s8 s9)))
 rintro σ H2 ⟨u3,u4,rfl,s2⟩;show Ir?;have⟨dx,hp⟩:=bg.wa.ob;have ng:=Ji3 wi hB nm hi sg;have el:eJ (V'.ls.map Bl!) bl=eJ (I1! Bl!) al:=by rw[<-a.nu,<-a.al]
 show⟨_,A!,p0,dx,_,A!,hp,Hq!,p0,W,A!,bg.wa,λl H3 hl YZ s3=>?_⟩;have wi3:=bg.same s3;show CX? l YZ BQ!;have lsk:=zQ wi3.lw;have len:=AD! lsk;show Kk? Jjh l p q xs (I1! Zs!) tt H6! [] (λi ys H4=>BZ H3 H4/\iZ! ((eJ (Kk! I1!) al).take i).map du/\JCO q) (FM! (Ai hq) Ab) (λi ys H4 _ h=>lI! v6 YZ h.2.2);.rintro j v ys H4 N hv ⟨s4,rfl,e4⟩ hN;rw[ZH] at hv;show Bt? (G5! hv);have⟨le,hle⟩:=iq! (eJ (I1! Bl!) al) (we! len hy);have⟨xx,sx⟩:=A6 lsk j y le hy hle;show Bp? (DQ! ng.2 le hle);have l1:=Ca _ b1;have l2:=Ca _ b2;have l3:=Ca _ b3;have c1:Zz! ":":=rfl;show⟨y.2,_,_,_,_,_,A!,JGz sx,B3 ⟨_,A!,le.1,A!,Cc b1,_,_,A!,A!,by rw[c1];change JBz le.1<=_;lia,_,A!,_,_,A!,A!,?_,_,_,A!,A!,?_,_,A!,aK!,A!,Cc b2,_,_,A!,A!,?_,_,_,A!,A!,?_,_,A!,Qx!,A!,Cc b3,_,_,A!,A!,?_,e4,?_,JO6 hq s4⟩⟩;(.show CW? RE! ":" _;rw[Gf,c1];lia);(.change(RE!++":"++NX!).length+_<=_;rw[Gf,Gf,c1];lia);(.show CW? (RE!++":"++NX!) ":" (NS! aK!);rw[Gf,Gf,Gf,c1];lia);(.change(RE!++":"++NX!++":"++mD!).length+_<=_;rw[Gf,Gf,Gf,Gf,c1];lia);(.show CW? (RE!++":"++NX!++":"++mD!) ":" (NS! Qx!);rw[Gf,Gf,Gf,Gf,Gf,c1];lia);(.show Be?;have:=ng.1;show mq!);.rw[CY,hle,ZF,ZF];change _++[AE! (RE!++":"++NX!++":"++mD!++":"++FG Qx!)]=_++[PU! du le];rw[Jlf]
 rintro EC H4 ⟨s4,rfl,e4⟩;rw[ZA,len,BY] at e4;have wF:=T7! s2 s3 s4;have S4:=GS! wF;have⟨tZ,eP⟩:=S4.ob;show⟨_,A!,p,tZ,_,A!,eP,Xc ZV,?_⟩;show Jmn S4 (vi.same wF) (KE el ng) λH5 s5=>?_;rw[el];show⟨_,A!,q,_,A!,L! s5 e4,CY! ng.1,LR!,λH6 s6=>Fa!⟩;.have⟨le,hle,rfl⟩:=RA!;show Bp? (ng.2 le hle);have l1:=Ca _ b1;have l2:=Ca _ b2;have l3:=Ca _ b3;have c1:Zz! ":":=rfl;change Ak! du (le.1,NX!,aK!,Qx!)<=100;rw[<-Jlf,Gf,Gf,Gf,Gf,Gf,Gf,c1];lia
 .show h?;show k _ (Ji! wF s5 s6)
def Jzd(g:GG):EL 3 Qi R0 H8! To:=Jmd g.vP g.T CQ! JB! g.pJ g.FI g.bI g.kh g.vQ g.yO
def gDI(g:GG):EL 5 Qj R3 H8! Jj6:=Jpv g.vS g.TK CQ! g.iH g.tq (Jzd g)
def UN:P7! [HK!,MS!,"_law_share",PB!,E2!,MR!,"_law_xs",DE!,"_law_due",MU!] HK! j8:={}
structure WL(H:Hp)(p pw p0:Addr)(m n:Nat)(W V:ET)(D E:AQ!)(al bl:l!)(ys zs:GM):B! where
 w:WI H p0 W D m n n 0 (60*n) al ys
 v:im! H pw E n n 0 (60*n)
 a:L2!
 x:kD p0 W ys pw V zs
 ob:∃dx,JIK aa!
 nw:¬Ft p0 W ys p
 nv:¬Ft pw V zs p
 mw:Nm W n
 mv:Nm V n
 sg:kx!
def WL.JBb{H:Hp}{p pw p0:Addr}{m n:Nat}{W V:ET}{D E:AQ!}{al bl:l!}{ys zs:GM}(T:JKe H):dC!:=⟨T.ob,T.v.wa⟩
def WL.same{H H':Hp}{p pw p0:Addr}{m n:Nat}{W V:ET}{D E:AQ!}{al bl:l!}{ys zs:GM}(T:JKe H)(s:XV):JKe H' :={ T with w:=T.w.same s,v:=T.v.same s,ob:=let⟨dx,e⟩:=T.ob;Hr! Vn! }
def Jyz{xs:At}(h:xs.length=7):qB λx0 x1 x2 x3 x4 x5 x6=>xs=[x0,x1,x2,x3,x4,x5,x6]:=by match xs,h with | [x0,x1,x2,x3,x4,x5,x6],_=>show⟨Aj?,_,_,_,_,A!⟩
def Jyl{x:Int}(h:1<=x/\x<=12)(b:Bool):∃z:Nat,UK [xz x,xz 12] (if b then 1 else 0)=D! (V! (AF! z))/\1<=z/\z<=12:=by cases b with | false=>show⟨x.toNat,by rw[BO (eZ! v6)];rfl,X!,X!⟩ | true=>show⟨12,A!,wP,wP⟩
def Ja4{H H':Hp}{v:V}{d:PyData}(s:XV)(h:j5 K H v d):Jz! j5 d:=by cases h with | BE h p=>show FB ((JX s).sq h) (JJe (Jfu s r))
def Jup{H:Hp}{t:Addr}{x:Str}{d:PyData}(h:j5 K H ZM! (MI! [cF!,d])):∃v,Dp! t [cF!,v]/\JGi:=by generalize e:PyData.tuple [cF!,d]=u at h;cases h with | BE sq pr =>cases e;have⟨y1,y2,rfl,r1,r2⟩:=wL pr;cases r1 with | one r1=>cases r1;show⟨y2,sq,r2⟩
def XH.fit{dd:DD}{dv:PyData}{z:Str}(h:SD!):ao dv/\wT (KR! dv (V! (-1))):=by have i0:∀{n:Int},Sm n->ao (V! n)/\wT (KR! (V! n) JCQ):=λ{n} s=>⟨A8! JCa,by have:=s.1;change Ad! (n == -1);show IV! (JL this)⟩;have l0:∀L:j!,ao (Ju L)/\wT (KR! (Ju L) JCQ):=λL=>Py! (Ou λd hd=>by have⟨n,_,rfl⟩:=ZN hd;show AS? JCa);cases h with | make h t s=>show⟨R8 t,A!⟩ | hold=>show D9? | drop=>show D9? | take=>show D9? | free=>show D9? | send h g b n s=>show i0 s | ask h n s=>show i0 s | clean h L s=>show l0 L | GC n L s=>show l0 L
def gW(g:GG):EL 12 aZ ae jJ! (Qz K):=by
 show m? g.FW.KD UN;have⟨a,ns,rfl,hS,hlen,k⟩:=h;show A?;show Q?;show Aa?;show Jg?;have xG:DW 6 _:=Y3!;have hr7:DW 7 _:=Y3!;have hr9:DW 9 _:=Y3!;show CA? JE! (Ao A8 (Eh (JBt (Lh! Af (Ph! JT4)))) (Tf! Jnf g.y8 PyProof.Rows.boot_int (Mb Bs JHO Af PP!))) (JTT 2 JE! (Lh! Af (Ph! JT4)) (Mw! (Qa! JHO) (vZ! JE! (Lh! Af JHO))) (rM! JE! (JOI g.kj (gDI g) xG g.TK.eF g.yQ) JE! (JOI g.iH (Jzd g) lq g.TW.eF g.tq) (af! (Jl8 A! g.y1 (cD! (A7 (Jne A!) Dk! g.y7 PyProof.Rows.boot_max (cD! (A7 (Jnd A!) Dk! g.vZ PyProof.Rows.boot_min (cD! JGg)))))) 5 JE! (h2! 6 JE! (ZQ! gSm g.mSm.mg g.mSm.fn.kp g.mSm.bd (JBt (ZQ! mD g.mC1.mg g.mC1.fn.kp g.mC1.bd (in! K3!)))) 7 JE! (ZQ! gOt g.mOt.mg g.mOt.fn.kp g.mOt.bd (TQ! (Pc! gDe lq g.mDe.mg g.mDe.fn.kp g.mDe.bd (TQ! BO! Jp! w!)) Jp! w!)) (JEN 8 JE! (Pc! gDn hr7 g.mDn.mg g.mDn.fn.kp g.mDn.bd (xG! LX!)) 9 JE! (Pc! gLs hr9 g.mLs.mg g.mLs.fn.kp g.mLs.bd (Zc! (Pc! gRo OU g.mRo.mg g.mRo.fn.kp g.mRo.bd (CR! LX!)))) (c3! (rg! (Le! JB9 cK!) (JHG cK! JOg))) (NF! (c3! (rh! (PV! cK!) (xH! Jpl (pv 9) (pv 8)))) (c3! (cI (Ul (PV! cK!) (Oj (cI (Q2 (zJ (F1 (JMf JB9 IU! g.rm CA))) (Nf (Le! JB9 (Pc! gTx OU g.mTo2.mg g.mTo2.fn.kp g.mTo2.bd (Mk! LX! cK!))))))))))))) (Hb! (Pc! gSa hr9 g.mSa.mg g.mSa.fn.kp g.mSa.bd (JCl BO! w!))))));show mY (Oa! (XV/\∃m:Nat,GA=[K6!,Nu!,none,none,none,none,none,none,none,none]/\1<=m/\FW!)) ?_ ?_;.intro nx hx;show FX? 0 hS.sq (λv0=>⟨_,_,JT? (EZ! 5) H1! BQ!⟩);have h00:=oe! v0 5;have h01:=q0! v0 5;have s1:=VV! JQe hq;have eq:Yz! (PT! q JQe) q JQe:=Ab;show FX? 0 (hS.keep (JX s1)).sq (λv1=>⟨_,_,A!,A!,J1!,_,_,A!,A!,EZ! 6,A!,o! cV!⟩);have⟨m,em,m1,m2⟩:=Jyl (x:=1+v0 % 5) (LY! (IC h00)) (XL! (Kp! (v1 / 5 % 6)=wp 1));show⟨q,_,_,_,A!,A!,Cq! eq,em,L! hx ⟨s1,m,A!,m1,m2⟩⟩
 rintro YM H1 ⟨s01,m,rfl,m1,m4⟩;have iu:=FO! hS.keep s01;show FX? 1 iu.sq (λv1=>⟨_,KL? (EZ! 2)⟩);have xk:=oe! v1 2;show DH?;show mY (Oa! (H'=H1/\∃(sh:Int),GA=[K6!,Nu!,JDJ,none,none,none,none,none,none,none]/\2<=sh)) ?_ ?_;.intro nx hx;show FX? 1 iu.sq (λv2=>⟨_,_,A!,A!,J1!,_,_,A!,A!,EZ! 4,A!,_,A!,?_⟩);show D? (L2.V.int (v2 / 2 % 4)=L2.V.int 1);(.rw[AR c];show B3 ⟨F?,a,ns,1,A!,iu.sq,C8!,wP,wP,λv3=>⟨_,_,A!,A!,J1!,_,KL? (EZ! 999999998)⟩⟩;have e:=eO! (v3 / 8) 999999998;show L! hx (ag! _ (IC e)));.rw[AL c];show Bn (NE hx (ag! _ (IC xk)))
 rintro GA H' ⟨rfl,sh,rfl,sh2⟩;show EG?;intro p dx np eD sW;show⟨p,dx,Bt!,sh,A!,Ab,DO!,MC! m4,λpw V H2 S1 e1 e2 e3 e4 e5 e6 e7 e8 su=>Fa!⟩;have d9:BZ H' (z! (F8! H' dx Gx! p) p (.ins CD dx [])):=JIw np
 have s2:BZ H' H2:=fM! su d9 np;clear d9 su np eD sW;rw[CZ] at e7;have V0:WI H2 pw V bK! m 0 0 0 0 [] []:=WI.start S1.wo e2 e3 e4 e5 e6 e7 e8 (m1) (m4) (KE e1 sh2);show EG?;intro p0 yK lM qP JAu;have XE:BZ H2 (z! (NM! yK Gx! p0) p0 (.ins CW yK [])):=JUS lM qP
 have⟨jv,hp⟩:=S1.ob;have g8:p0∉Bu pw V:=λz=>V0.new lM (S! z);have qN:p0≠p:=λz=>by rw[z,hp] at lM;cases lM
 show⟨p0,yK,p::Bu pw V,Bt!,sh,A!,Ab,DO!,MC! m4,MH! ⟨?_,MH! ⟨S1.ne,S1.wo.nd⟩⟩,Vr!,λW H3 S3 f1 f2 f3 f4 f5 f6 f7 f8 sr apart=>Fa!⟩;.intro z;show d? (ZM z);(.show qN z);.show g8 z
 .show G0?;(.rw[hb];show⟨_,L! XE hp⟩);.have⟨o,e,_⟩:=S1.wo.some_at hb;show⟨o,L! XE e⟩
 have s3:BZ H2 H3:=fM! sr XE lM;clear XE sr lM qP JAu g8 qN;rw[CZ] at f7;have W0:WI H3 p0 W bK! m 0 0 0 0 [] []:=WI.start S3 f2 f3 f4 f5 f6 f7 f8 (m1) (m4) (KE f1 sh2);have T0:WL H3 p pw p0 m 0 W V bK! bK! [] [] [] []:=by show⟨W0,V0.same s3,Al.start f3 e3 f2 e2 (Bi! e1 f1) f7 e7 f8 e8,λb h1 h2=>?_,⟨jv,Ge! hp⟩,λh=>?_,λh=>?_,⟨cX! f2,cX! f2,Fy! (by rw[f3] at hl;cases hl)⟩,⟨cX! e2,cX! e2,Fy! (by rw[e3] at hl;cases hl)⟩,ko!⟩;(.rcases h1 with h1|h1;(.rcases h2 with h2|h2;(.show apart b h1 (AH! h2));.cases h2);.cases h1);(.show C? h;(.show apart p h (CT!));.cases h);.show C? h;(.show S1.ne h);.cases h
 have hS3:=FO! iu.keep (Ah s2 s3);clear W0 V0 S1 S3 e1 e2 e3 e4 e5 e6 e7 e8 f1 f2 f3 f4 f5 f6 f7 f8 apart s2 s3 hp iu s01;obtain⟨N,eN,N1⟩:∃N:Nat,AF! (bJ! (bJ! ((fD!)<42) fD! 42 > 12) (bJ! ((fD!)<42) fD! 42) 12)=2+AF! N/\N<=40:=by generalize fD!=z;by_cases c1:z<42;(.rw[AE c1];by_cases c2:z > 12;(.rw[AE c2];show⟨JX! (z-2),X!,X!⟩);.rw[AD c2];show⟨10,X!,X!⟩);.rw[AD c1,TN! AE];show⟨40,X!,X!⟩
 show⟨_,A!,a,_,A!,GE hS3.sq,_,_,A!,_,_,A!,2,2+AF! N,by rw[<-eN],⟨wP,wP,R2!,X!⟩,?_⟩;rw[show JX! (2+AF! N-2)=N by lia];clear eN;show Gj? 2 N (λi σ Hc=>vT λ(u5:Option L2.V)(u6:Option L2.V)(u7:Option L2.V)(u8:Option L2.V)(u9:Option L2.V)(W:ET)(V:ET)(D:T2->Prop)=>kC λ(E:T2->Prop)(al:List LL)(bl:List LL)(ys:List Qy)(zs:List Qy)=>σ=[K6!,Nu!,JDJ,Eg!,A1! p0,u5,u6,u7,u8,u9]/\WL Hc p pw p0 m i W V D E al bl ys zs/\fB K Hc a (CL! L2.V.int)) ⟨KM,KM,KM,KM,KM,W,V,_,_,[],[],[],[],A!,T0,hS3⟩;.clear T0;rintro i σ Hc hi ⟨u5,u6,u7,u8,u9,W,V,D,E',al,bl,ys,zs,rfl,T,tL⟩;show⟨Au?,a,ns,2+sB,A!,tL.sq,C8!,DO!,X!,λv=>⟨v,7,A!,wP,λl xs H5 s5 _ el xl _=>?_⟩⟩;have⟨x0,x1,x2,x3,x4,x5,x6,rfl⟩:=Jyz xl;have T5:=T.same s5;have mc:=T.mw.c1;show⟨_,A!,_,A!,_,A!,p0,l,W,D,m,i,i,0,60*i,al,ys,x0,x1,x2,x3,x4,x5,x6,A!,el,T5.w,fI!,(Fy! ⟨(T.mw.ls l hl).1,by have:=(T.mw.ls l hl).2;lia⟩),λt dd H6 s6 tK sc=>?_⟩;have⟨sm,cb⟩:=sc.sm;show⟨_,A!,_,A!,t,l,dd,m,x0,x1,x2,x3,x4,x5,x6,A!,tK,sm,cb,QI! el,m4,λt7 tf H7 s7 qk jS=>?_⟩;have wD:=T7! s5 s6 s7;have T7:=T.same wD;have hS7:=FO! tL.keep wD;clear T5 tK sc sm cb el s5 s6 s7 wD tL T mc;show⟨_,A!,_,A!,p0,t7,W,D,m,i,i,60*i,60*AB!,al,ys,tf,A!,T7.w,fI!,X!,fI!,m4,Ao!,qk,λt8 d8 W8 D8 tw nQ H08 H8 rp8 ok8 i5 nU gP fp8 _=>?_⟩;have mv8:Mv p0 W ys W8 nQ H7 H8:=⟨gP,fp8⟩;have⟨vi8,x8⟩:=T7.x.mv T7.w T7.v mv8;have⟨jw,ob7⟩:=T7.ob;have⟨ob8,nw8⟩:=mv8.off ob7 T7.nw;have YQ:=T7.w.FQ gP;have hS8:=hS7.keep YQ;have qj:=qk.keep YQ;have mw8:=i5.nm T7.mw (nU.PU i!);have sg8:=i5.sg T7.w nU T7.sg;show⟨_,A!,_,A!,t7,tf,A!,qj,jS,λH9 s9=>?_⟩;have jP:=vi8.same s9;have wi9:=nU.same s9;have wR:=L! s9 ob8;have JBR:=FO! qj.keep s9;have hS9:=FO! hS8.keep s9;have rp9:=Ja4 s9 rp8;show⟨p,pw,V,E',m,i,i,60*i,60*AB!,i,bl,zs,tf,A!,⟨⟨jw,wR⟩,jP.wa⟩,jP,fI!,X!,fI!,m4,Ao!,X!,T7.mv,uQ! (AA hi N1),jS,λnX z dv V10 E10 rB qD JBe cx i7 tx iD kF g_=>?_,λnX c JBe cx i7 c8 iD bF=>?_⟩;(· have⟨JAP,x10⟩:=x8.symm.mv jP wi9 g_;have⟨JAp,JAq⟩:=g_.off wR T7.nv;have⟨yS,ed⟩:=RW.one T7.a T7.w nU T7.v kF i5 iD;subst ed;have qT:=jP.FQ g_.fr;have⟨v2,sq,rv⟩:=Jup (Joy jP g_.fr rp9 i5.wN);have⟨okv,nev⟩:=tx.fit;have yV:WL cx p pw p0 m AB! W8 V10 D8 E10 tw rB nQ qD:=⟨JAP,kF,yS,x10.symm,⟨jw,JAp⟩,nw8,JAq,mw8,iD.nm T7.mv (kF.PU i!),sg8⟩;show⟨Hn? 0,A!,lo!,A!,_,A!,t8,_,0,_,A!,A!,sq,A!,A!,_,A!,?_⟩;show h?;show Bn ⟨AT? t8,1,_,A!,A!,sq,A!,1,A!,dv,JR! (-1),rv,EM! (V! _),okv,JSr,_,A!,?_⟩;rw[nev];show Ha?;show V?;show Bn (Bn ⟨AK? t8 0,K6? sq⟩);show h?;show B3 ⟨R? nX,_,1,_,A!,A!,lo!,A!,_,_,_,q!,A!,T0!,Vg,q!,A!,Bn ⟨Hn? 1,A!,lo!,A!,_,A!,_,A!,t8,_,1,_,A!,A!,sq,A!,t7,v2,tf,dv,z,A!,JBR.keep qT,rv,tx,λm_ sJ=>JIJ⟩⟩;show h?;show Bn ⟨Aj?,_,_,W8,V10,D8,E10,tw,rB,nQ,qD,A!,yV.same sJ,FO! (hS9.keep qT).keep sJ⟩);· have⟨yS,ed⟩:=RW.one T7.a T7.w nU T7.v jP i5 iD;subst ed;have⟨v2,sq,rv⟩:=Jup (Ja4 bF rp9);cases Sh rv;have yV:WL cx p pw p0 m AB! W8 V D8 E' tw bl nQ zs:=⟨wi9.same bF,(jP.same bF).upn (ZG _) EU!,yS,x8,⟨jw,L! bF wR⟩,nw8,T7.nv,mw8,T7.mv.up,sg8⟩;show⟨Hn? 0,A!,lo!,A!,_,A!,t8,_,0,_,A!,A!,sq,A!,A!,_,A!,?_⟩;show h?;show Bn ⟨AT? t8,1,_,A!,A!,sq,A!,1,A!,T! c,JR! (-1),rv,EM! (V! _),A8! JCa,JSr,_,A!,?_⟩;rw[Fr! (wT (KR! (V! (AF! c)) JCQ)) (by change Ad! (AF! c == -1);show Kr! IV!)];show Ha?;show h?;show B3 ⟨Au?,YG c,YG c,EM! (rt! i7 (bn _)),EM! (KU! sq (hw! (bn _) hr!)),uX c,uX c,_,A!,?_⟩;rw[Jqu (uX c)];show Ha?;show V?;show Bn (Bn ⟨Aj?,_,_,W8,V,D8,E',tw,bl,nQ,zs,A!,yV,FO! hS9.keep bF⟩)
 rintro σ Hc ⟨u5,u6,u7,u8,u9,W,V,D,E',al,bl,ys,zs,rfl,T,tL⟩;show⟨F?,_,A!,_,A!,p,pw,p0,W,V,D,E',m,N,N,60*N,N,60*N,N,al,bl,ys,zs,A!,T.JBb,T.v,T.w,T.a,ZV! N1,X!,T.mw,N1,T.sg,λH' _=>k H'⟩
open E K51
open N K51
open PySem L2 FX
def goal_of{P:Program}{w:World}{K:W.Frag}{mg:sw}{C CW CP CI CD HE NH NJ OM MI NW NL NI NR FA cG Rx Qi cX Wp V8 Wx W9 Zs Zj Ww V2 Y9 Zo Zb Zh Zk Zv Zp Zt Wn Wq V1 Zg Zi Za Zl Zm V9 Rv Jz Gx Gz Gy Jx K3 Vy K1 K2 K6 Jy J0 Jw Zn Zf Wy Ry Zr Zq Wm Wk Wj G0 K8 K7 K4 K9 K5 Vz Ze Qj Rw Wb Wz Wf Zu V5 Zd Zc Vx Y8 Wh Wi V3 Wu V7 Wo Wv Ws Wr Wc We Wd V6 La Wa V4 aZ:Addr}{ck Xp R0 cj Ya Xn Yh Yk fJ Z9 Yg Xh Zz fO Z1 Z7 fX fC fN fF X8 Yb Xg Z6 Z8 Z0 fW fV Xo Rz Kb G9 Hb Ha J9 Lf Xe Ld Le Li Ka Kc J8 fQ Z5 Yi X7 fK fM X6 Xz Xy Hd Lk Lj Lg Ll Lh Xf Z4 R3 R1 Xr Yj Xv fE Xk Z3 Z2 Xd Zy Xw Xx Xi Ye Xm X9 Yf Yd Yc Xs Xu Xt Xl Lm Xq Xj ae:FuncData}:Gl (∀base:Eo!,JQy aZ ae) w K mg C CW CP CI CD HE NH NJ OM MI NW NL NI NR FA cG Rx Qi cX Wp V8 Wx W9 Zs Zj Ww V2 Y9 Zo Zb Zh Zk Zv Zp Zt Wn Wq V1 Zg Zi Za Zl Zm V9 Rv Jz Gx Gz Gy Jx K3 Vy K1 K2 K6 Jy J0 Jw Zn Zf Wy Ry Zr Zq Wm Wk Wj G0 K8 K7 K4 K9 K5 Vz Ze Qj Rw Wb Wz Wf Zu V5 Zd Zc Vx Y8 Wh Wi V3 Wu V7 Wo Wv Ws Wr Wc We Wd V6 La Wa V4 aZ ck Xp R0 cj Ya Xn Yh Yk fJ Z9 Yg Xh Zz fO Z1 Z7 fX fC fN fF X8 Yb Xg Z6 Z8 Z0 fW fV Xo Rz Kb G9 Hb Ha J9 Lf Xe Ld Le Li Ka Kc J8 fQ Z5 Yi X7 fK fM X6 Xz Xy Hd Lk Lj Lg Ll Lh Xf Z4 R3 R1 Xr Yj Xv fE Xk Z3 Z2 Xd Zy Xw Xx Xi Ye Xm X9 Yf Yd Yc Xs Xu Xt Xl Lm Xq Xj ae:=λ_ X G aC aCW aCP aCI aCD aHE aNH aNHd aNNr aMI aNW aNL aNI aNR q3 q4 xNH xNHd xNNr xMI xNW xNL xNI xNR xHE sNH qaNH qbNH qcNH qdNH qeNH tNHNHd tNHNNr tNHMI tNHNW tNHNL tNHNI tNHNR tNHV sNHd qaNHd qbNHd qcNHd qdNHd qeNHd tNHdNH tNHdNNr tNHdMI tNHdNW tNHdNL tNHdNI tNHdNR tNHdV sNNr qaNNr qbNNr qcNNr qdNNr qeNNr tNNrNH tNNrNHd tNNrMI tNNrNW tNNrNL tNNrNI tNNrNR tNNrV sMI qaMI qbMI qcMI qdMI qeMI tMINH tMINHd tMINNr tMINW tMINL tMINI tMINR tMIV sNW qaNW qbNW qcNW qdNW qeNW tNWNH tNWNHd tNWNNr tNWMI tNWNL tNWNI tNWNR tNWV sNL qaNL qbNL qcNL qdNL qeNL tNLNH tNLNHd tNLNNr tNLMI tNLNW tNLNI tNLNR tNLV aFA hF hI hPI hWI mM mFr mPa mCa mAd mGi mPs mCl mSt mTo mNe mSp mQH mPR mAR mLo mGb mHo mDr mTa mQN mQG mTi mPP mPL mPT mWM mWFr mWSe mWCl mWDe mWSt mWLe mWH mWWe mWPa mWGb mWHo mWDr mWTa mP1 mR1 mC1 hII mIF mIS mIL mIR mLH mWAs mWAc mWAn mWLc mWAa mWLa mUn mRc hDI mSy mMo mAt mLk mDh mRw mRd mRn mWt mWl mLi mLg mSm mCs mPk mHb mCo mDe mDn mLt mLl mLs mRo mTo2 mOt mSa hW cC nC0 nC1 nC2 nC3 nC4 nC5 nC6 cCW nCW0 nCW1 nCW2 nCW3 nCW4 nCW5 cCP nCP0 nCP1 cCI nCI0 nCI1 nCI2 nCI3 cCD nCD0 z0 z1 z2 z3 z4 z5 z6 z7 z8 z9 z10 z11 z12 z13 base=>(Jqn (Jy5 gW) (P,w,K,mg,AW!,C,CW,CP,CI,CD,HE,NH,NJ,OM,MI,NW,NL,NI,NR,FA,λi=>[cG,Rx,Qi,cX,Wp,V8,Wx,W9,Zs,Zj,Ww,V2,Y9,Zo,Zb,Zh,Zk,Zv,Zp,Zt,Wn,Wq,V1,Zg,Zi,Za,Zl,Zm,V9,Rv,Jz,Gx,Gz,Gy,Jx,K3,Vy,K1,K2,K6,Jy,J0,Jw,Zn,Zf,Wy,Ry,Zr,Zq,Wm,Wk,Wj,G0,K8,K7,K4,K9,K5,Vz,Ze,Qj,Rw,Wb,Wz,Wf,Zu,V5,Zd,Zc,Vx,Y8,Wh,Wi,V3,Wu,V7,Wo,Wv,Ws,Wr,Wc,We,Wd,V6,La,Wa,V4,aZ].getD i 0,λi=>[ck,Xp,R0,cj,Ya,Xn,Yh,Yk,fJ,Z9,Yg,Xh,Zz,fO,Z1,Z7,fX,fC,fN,fF,X8,Yb,Xg,Z6,Z8,Z0,fW,fV,Xo,Rz,Kb,G9,Hb,Ha,J9,Lf,Xe,Ld,Le,Li,Ka,Kc,J8,fQ,Z5,Yi,X7,fK,fM,X6,Xz,Xy,Hd,Lk,Lj,Lg,Ll,Lh,Xf,Z4,R3,R1,Xr,Yj,Xv,fE,Xk,Z3,Z2,Xd,Zy,Xw,Xx,Xi,Ye,Xm,X9,Yf,Yd,Yc,Xs,Xu,Xt,Xl,Lm,Xq,Xj,ae].getD i default):yb P w K mg AW! C CW CP CI CD HE NH NJ OM MI NW NL NI NR FA cG Rx Qi cX Wp V8 Wx W9 Zs Zj Ww V2 Y9 Zo Zb Zh Zk Zv Zp Zt Wn Wq V1 Zg Zi Za Zl Zm V9 Rv Jz Gx Gz Gy Jx K3 Vy K1 K2 K6 Jy J0 Jw Zn Zf Wy Ry Zr Zq Wm Wk Wj G0 K8 K7 K4 K9 K5 Vz Ze Qj Rw Wb Wz Wf Zu V5 Zd Zc Vx Y8 Wh Wi V3 Wu V7 Wo Wv Ws Wr Wc We Wd V6 La Wa V4 aZ ck Xp R0 cj Ya Xn Yh Yk fJ Z9 Yg Xh Zz fO Z1 Z7 fX fC fN fF X8 Yb Xg Z6 Z8 Z0 fW fV Xo Rz Kb G9 Hb Ha J9 Lf Xe Ld Le Li Ka Kc J8 fQ Z5 Yi X7 fK fM X6 Xz Xy Hd Lk Lj Lg Ll Lh Xf Z4 R3 R1 Xr Yj Xv fE Xk Z3 Z2 Xd Zy Xw Xx Xi Ye Xm X9 Yf Yd Yc Xs Xu Xt Xl Lm Xq Xj ae) X G aC aCW aCP aCI aCD aHE aNH aNHd aNNr aMI aNW aNL aNI aNR q3 q4 xNH xNHd xNNr xMI xNW xNL xNI xNR xHE sNH qaNH qbNH qcNH qdNH qeNH tNHNHd tNHNNr tNHMI tNHNW tNHNL tNHNI tNHNR tNHV sNHd qaNHd qbNHd qcNHd qdNHd qeNHd tNHdNH tNHdNNr tNHdMI tNHdNW tNHdNL tNHdNI tNHdNR tNHdV sNNr qaNNr qbNNr qcNNr qdNNr qeNNr tNNrNH tNNrNHd tNNrMI tNNrNW tNNrNL tNNrNI tNNrNR tNNrV sMI qaMI qbMI qcMI qdMI qeMI tMINH tMINHd tMINNr tMINW tMINL tMINI tMINR tMIV sNW qaNW qbNW qcNW qdNW qeNW tNWNH tNWNHd tNWNNr tNWMI tNWNL tNWNI tNWNR tNWV sNL qaNL qbNL qcNL qdNL qeNL tNLNH tNLNHd tNLNNr tNLMI tNLNW tNLNI tNLNR tNLV aFA hF hI hPI hWI mM mFr mPa mCa mAd mGi mPs mCl mSt mTo mNe mSp mQH mPR mAR mLo mGb mHo mDr mTa mQN mQG mTi mPP mPL mPT mWM mWFr mWSe mWCl mWDe mWSt mWLe mWH mWWe mWPa mWGb mWHo mWDr mWTa mP1 mR1 mC1 hII mIF mIS mIL mIR mLH mWAs mWAc mWAn mWLc mWAa mWLa mUn mRc hDI mSy mMo mAt mLk mDh mRw mRd mRn mWt mWl mLi mLg mSm mCs mPk mHb mCo mDe mDn mLt mLl mLs mRo mTo2 mOt mSa hW cC nC0 nC1 nC2 nC3 nC4 nC5 nC6 cCW nCW0 nCW1 nCW2 nCW3 nCW4 nCW5 cCP nCP0 nCP1 cCI nCI0 nCI1 nCI2 nCI3 cCD nCD0 z0 z1 z2 z3 z4 z5 z6 z7 z8 z9 z10 z11 z12 z13
def all_mk{P:Program}{w:World}{K:W.Frag}{h:Heap}{mg:sw}{fa f:Addr}{d:FuncData}(X:b2!)(G:QP! h.Ns)(cT:Qc! PC! fa)(hW:GI K PC! j8 f d)(A:∀base:Eo!,JQy f d) : uF! ((∀(s:Shared)(v:Value),jm! (Hl! [v]) [(HK!,v)])/\s1! (K.In AW!) P K XM 12 jJ! (Qz K)):=by have e:=cT.symm.trans (KA X G hW.a);cases e;have z:=hW.fn;have⟨⟨oc,od,kV,doc,pm,an,EO,ct,eC,rfl,lk,cd⟩,kp⟩:=z;show⟨JF3 PC! PC! (Pf j8) (G8 j8) (Am j8),λs v=>.of_eq A!,λbase _ _=>A AW!⟩
def walk{l:W.OpenLaw}{q:Program}{loose:AC}{XP:JFK}{YP:JFJ}{d:DefRec}{K:Params->W.Frag}(hn:l.most=Ix 63)(oV:y8!)(hY:∀(w:World) (h:Heap),YP w h->lT!)(F:∀(w:World) (mg:sw) (fa:Addr) (h:Heap),lT!->QP! h.Ns->JKj (uF! ((JK4 [(HK!,u)])/\s1! ((K w.params).In AW!) l.prog wU! XM 12 jJ! (Qz (K w.params))))) : JRb W.WalkO :=L2.iK (n:=63) (k:=12) (x:=HK!) (CX:=λw=>XM) (sp:=λw=>Qz (K w.params)) hn TD oV (JS! wP wP) hY F (λ_ H a ns hl hO hS=>⟨a,ns,A!,fB.of hO hS,hl,G4!⟩) λ_ _ _ _ _ z=>z
end
end K51
open PySem PySem.W PyProof.Rows
set_option maxRecDepth 100000 in
set_option maxHeartbeats 0 in
theorem PySem.Challenge.cw_farhold_k51_desk_deeds_holds : PySem.Challenge.rw_farhold_k51_desk_deeds.Holds := by
 w_on;o_law;k_head;(case hw=>w_witness2)
 k_fill
 refine K51.walk (l:=PySem.Challenge.rw_farhold_k51_desk_deeds) rfl rfl (fun w h Y=>W.kIn_of Y) ?F
 case F =>
  intro w mg fa h KX G hmg
  refine' K51.all_mk KX G hmg ?hW (K51.goal_of KX G ?aC ?aCW ?aCP ?aCI ?aCD ?aHE ?aNH ?aNHd ?aNNr ?aMI ?aNW ?aNL ?aNI ?aNR ?q3 ?q4 ?xNH ?xNHd ?xNNr ?xMI ?xNW ?xNL ?xNI ?xNR ?xHE ?sNH ?qaNH ?qbNH ?qcNH ?qdNH ?qeNH ?tNHNHd ?tNHNNr ?tNHMI ?tNHNW ?tNHNL ?tNHNI ?tNHNR ?tNHV ?sNHd ?qaNHd ?qbNHd ?qcNHd ?qdNHd ?qeNHd ?tNHdNH ?tNHdNNr ?tNHdMI ?tNHdNW ?tNHdNL ?tNHdNI ?tNHdNR ?tNHdV ?sNNr ?qaNNr ?qbNNr ?qcNNr ?qdNNr ?qeNNr ?tNNrNH ?tNNrNHd ?tNNrMI ?tNNrNW ?tNNrNL ?tNNrNI ?tNNrNR ?tNNrV ?sMI ?qaMI ?qbMI ?qcMI ?qdMI ?qeMI ?tMINH ?tMINHd ?tMINNr ?tMINW ?tMINL ?tMINI ?tMINR ?tMIV ?sNW ?qaNW ?qbNW ?qcNW ?qdNW ?qeNW ?tNWNH ?tNWNHd ?tNWNNr ?tNWMI ?tNWNL ?tNWNI ?tNWNR ?tNWV ?sNL ?qaNL ?qbNL ?qcNL ?qdNL ?qeNL ?tNLNH ?tNLNHd ?tNLNNr ?tNLMI ?tNLNW ?tNLNI ?tNLNR ?tNLV ?aFA ?hF ?hI ?hPI ?hWI ?mM ?mFr ?mPa ?mCa ?mAd ?mGi ?mPs ?mCl ?mSt ?mTo ?mNe ?mSp ?mQH ?mPR ?mAR ?mLo ?mGb ?mHo ?mDr ?mTa ?mQN ?mQG ?mTi ?mPP ?mPL ?mPT ?mWM ?mWFr ?mWSe ?mWCl ?mWDe ?mWSt ?mWLe ?mWH ?mWWe ?mWPa ?mWGb ?mWHo ?mWDr ?mWTa ?mP1 ?mR1 ?mC1 ?hII ?mIF ?mIS ?mIL ?mIR ?mLH ?mWAs ?mWAc ?mWAn ?mWLc ?mWAa ?mWLa ?mUn ?mRc ?hDI ?mSy ?mMo ?mAt ?mLk ?mDh ?mRw ?mRd ?mRn ?mWt ?mWl ?mLi ?mLg ?mSm ?mCs ?mPk ?mHb ?mCo ?mDe ?mDn ?mLt ?mLl ?mLs ?mRo ?mTo2 ?mOt ?mSa ?hW ?cC ?nC0 ?nC1 ?nC2 ?nC3 ?nC4 ?nC5 ?nC6 ?cCW ?nCW0 ?nCW1 ?nCW2 ?nCW3 ?nCW4 ?nCW5 ?cCP ?nCP0 ?nCP1 ?cCI ?nCI0 ?nCI1 ?nCI2 ?nCI3 ?cCD ?nCD0 ?z0 ?z1 ?z2 ?z3 ?z4 ?z5 ?z6 ?z7 ?z8 ?z9 ?z10 ?z11 ?z12 ?z13)
  case aC|aCW|aCP|aCI|aCD|aHE|aNH|aNHd|aNNr|aMI|aNW|aNL|aNI|aNR|aFA=>k_is
  case hF=>exact FX.forms_mk (by k_is) (by repeat (first|exact FX.FmL.nil|refine FX.FmL.cons (by k_is) (FX.fm_vals (by decide +kernel)) ?_)) rfl
  case q3|q4|sNH|qaNH|qbNH|qcNH|qdNH|qeNH|sNHd|qaNHd|qbNHd|qcNHd|qdNHd|qeNHd|sNNr|qaNNr|qbNNr|qcNNr|qdNNr|qeNNr|sMI|qaMI|qbMI|qcMI|qdMI|qeMI|sNW|qaNW|qbNW|qcNW|qdNW|qeNW|sNL|qaNL|qbNL|qcNL|qdNL|qeNL|nC0|nC1|nC2|nC3|nC4|nC5|nC6|nCW0|nCW1|nCW2|nCW3|nCW4|nCW5|nCP0|nCP1|nCI0|nCI1|nCI2|nCI3|nCD0|z0|z1|z2|z3|z4|z5|z6|z7|z8|z9|z10|z11|z12|z13=>k_is
  case xNH|xNHd|xNNr|xMI|xNW|xNL|xNI|xNR|xHE=>k_exc
  case tNHNHd|tNHNNr|tNHMI|tNHNW|tNHNL|tNHNI|tNHNR|tNHV|tNHdNH|tNHdNNr|tNHdMI|tNHdNW|tNHdNL|tNHdNI|tNHdNR|tNHdV|tNNrNH|tNNrNHd|tNNrMI|tNNrNW|tNNrNL|tNNrNI|tNNrNR|tNNrV|tMINH|tMINHd|tMINNr|tMINW|tMINL|tMINI|tMINR|tMIV|tNWNH|tNWNHd|tNWNNr|tNWMI|tNWNL|tNWNI|tNWNR|tNWV|tNLNH|tNLNHd|tNLNNr|tNLMI|tNLNW|tNLNI|tNLNR|tNLV=>kit_is
  case hI|hPI|hWI|hII|hDI=>exact⟨by k_is,by k_is,⟨⟨_,_,_,_,_,_,_,_,_,rfl,by k_is,by k_is⟩,by k_is⟩⟩
  case mM|mFr|mPa|mCa|mAd|mGi|mPs|mCl|mSt|mTo|mNe|mSp|mQH|mPR|mAR|mLo|mGb|mHo|mDr|mTa|mQN|mQG|mTi|mPP|mPL|mPT|mWM|mWFr|mWSe|mWCl|mWDe|mWSt|mWLe|mWH|mWWe|mWPa|mWGb|mWHo|mWDr|mWTa|mIF|mIS|mIL|mIR|mLH|mWAs|mWAc|mWAn|mWLc|mWAa|mWLa|mSy|mMo|mAt|mLk|mDh=>exact K51.MeI.mth ⟨by k_is,by k_is,⟨⟨_,_,_,_,_,_,_,_,_,rfl,by k_is,by k_is⟩,by k_is⟩⟩
  case mP1|mR1|mC1|mUn|mRc|mRw|mRd|mRn|mWt|mWl|mLi|mLg|mSm|mCs|mPk|mHb|mCo|mDe|mDn|mLt|mLl|mLs|mRo|mTo2|mOt|mSa=>exact K51.GI.gdi ⟨by k_is,⟨⟨_,_,_,_,_,_,_,_,_,rfl,by k_is,by k_is⟩,by k_is⟩⟩
  case hW=>exact⟨by k_is,⟨⟨_,_,_,_,_,_,_,_,_,rfl,by k_is,by k_is⟩,by k_is⟩⟩
  case cC|cCW|cCP|cCI|cCD=>constructor<;>k_is
