import PyProof.Rows.All
import Wide.All
import OpenK.AllK
import Wide.FinOn
import Lean
import PyProof.EqAt
import PyProof.EqKinds
import PyProof.TupleCall
import PySem.Challenge.RW_farhold_k61_whole_weights_add_up
set_option linter.all false
def AB:=@if_neg
def AD:=@List.mem_filter
def AE:=@if_pos
def AG:=@decide_eq_false
def AH:=@List.append_nil
def AI:=@List.mem_map
def AJ:=@decide_eq_true
def AK:=@List.map_cons
def AL:=@Bool.false_ne_true
def AO:=@List.nodup_append
def AR:=@List.map_map
def AS:=@List.length_filter_le
def AU:=@PySem.Heap.lt_size
def AV:=@List.nodup_cons
def AW:=@List.append_assoc
def AX:=@List.mem_of_find?_eq_some
def A_:=@List.size_toArray
def A':=@Int.le_refl
def BA:=@List.find?_eq_none
def BD:=@List.mem_map_of_mem
def BE:=@Nat.le_trans
def BF:=@Nat.zero_le
def BH:=@Int.toNat_of_nonneg
def BJ:=@List.length_cons
def BK:=@Nat.ne_of_lt
def BL:=@of_decide_eq_true
def BM:=@List.take_length
def BN:=@List.length_nil
def BO:=@Nat.lt_of_lt_of_le
def BQ:=@List.mem_range
def BR:=@List.find?_cons
def BV:=@List.length_range
def BW:=@List.length_eq_zero_iff
def BX:=@PySem.wpAny_dictEntries
def BY:=@List.map_congr_left
def BZ:=@List.mem_cons
def B_:=@List.length_take
def B':=@PySem.boot_len
def CA:=@List.flatMap_cons
def CB:=@Bool.false_eq_true
def CC:=@List.getElem?_eq_none
def CD:=@List.flatMap_append
def CF:=@Array.length_toList
def CJ:=@PySem.F.plainAttrs_list
def CK:=@PySem.F.plainAttrs_dict
def CM:=@Int.emod_lt_of_pos
def CN:=@List.nodup_nil
def CS:=@PySem.Heap.get?_update_other
def CY:=@PySem.wpAny_call_entry
def C_:=@Nat.lt_irrefl
def DA:=@Int.emod_nonneg
def DC:=@List.filter_cons
def DD:=@beq_eq_false_iff_ne
def DE:=@List.take_add_one
def DF:=@Int.toNat_natCast
def DG:=@List.length_singleton
def DH:=@List.sum_cons
def DI:=@PyProof.Rows.boot_sorted
def DK:=@List.find?_some
def DL:=@PySem.sizeLine_eq
def DM:=@List.mem_singleton
def DN:=@List.not_mem_nil
def DT:=@List.range_succ
def DV:=@if_false
def DW:=@PySem.wpAny_mono
def DX:=@PySem.wpAny_newObj_type
def DY:=@List.take_append_drop
def D_:=@List.mem_flatMap
def EA:=@List.pairwise_cons
def EB:=@PySem.wpAny_dictEpoch
def EF:=@PySem.tupleKind_room_in1
def EG:=@List.pairwise_map
def EH:=@PyProof.Rows.boot_tuple
def EI:=@PySem.wpAny_holding
def EL:=@List.filter_sublist
def EM:=@List.filter_eq_self
def EN:=@Nat.ne_of_gt
def EO:=@Nat.le_of_lt
def ER:=@Nat.le_succ
def EX:=@PySem.F.slot_dict_get
def EY:=@PySem.Calls.callWith_builtin
def EZ:=@PySem.F.plain_extend_loop
def E_:=@List.filterMap_eq_nil_iff
def E':=@List.map_nil
def FA:=@PySem.wpAny_setField_rec
def FC:=@Nat.mul_le_mul_right
def FD:=@PySem.Heap.get?_update_self
def FK:=@List.filterMap_cons
def FO:=@PySem.W.mg_none_of
def FQ:=@PySem.Obj.data_mapDictKeys
def FR:=@PySem.Calls.evalArgs_plain
def GA:=@PySem.wpAny_typeNameOfWhole_itemiter
def GF:=@List.perm_append_comm
def GJ:=@if_true
def GK:=@PySem.wpAny_typeNameOfWhole_keyiter
def GN:=@PySem.F.slot_dict_itemiterator_next
def GX:=@PySem.codeAny_mono
def GY:=@PySem.wpAny_Call_Name_kw
def GZ:=@PySem.Calls.spliced_cons
def G_:=@PySem.wpAny_passesOwn
def HC:=@List.take_zero
def HD:=@List.getD_eq_getElem?_getD
def HE:=@PySem.F.slot_dict_keyiterator_next
def HI:=@List.flatMap_nil
def HJ:=@PySem.wpAny_notOrdered_dict
def HK:=@PySem.mem_of_lookup
def HQ:=@PySem.F.type_list_append
def HR:=@PySem.F.slot_list_append
def HU:=@PySem.F.slot_dict_values
def H_:=@PySem.W.kia_one
def IB:=@Nat.lt_of_le_of_lt
def IC:=@List.mem_filterMap
def ID:=@List.filter_append
def IK:=@List.map_id'
def IL:=@List.filter_congr
def IM:=@PySem.wpAny_typeNameOf_keyiter
def IP:=@PySem.F.entry_dict_get
def IU:=@PySem.size_of_entries
def IX:=@PySem.wpAny_callSpecial?_slot
def IY:=@PySem.F.slot_dict_pop
def JD:=@Nat.lt_succ_self
def JE:=@List.getElem_inj
def JF:=@List.any_eq_true
def JG:=@Bool.and_eq_true
def JH:=@Array.isEmpty_iff_size_eq_zero
def JK:=@List.any_cons
def JQ:=@PySem.W.hideAll_none
def JR:=@PySem.Calls.spliced_nil
def JU:=@PyProof.Rows.get?_update_seq
def JW:=@List.length_pos_iff
def KN:=@PySem.W.mg_of
def KW:=@or_false
def KY:=@beq_iff_eq
def KZ:=@List.contains_cons
def K_:=@List.append_of_mem
def K':=@PySem.Around.under_plainId
def LA:=@Array.getElem?_eq_some_iff
def LJ:=@PySem.wpAny_execs_nil
def LN:=@List.mem_or_eq_of_mem_set
def LO:=@List.getElem?_append_left
def LQ:=@PySem.Obj.isFreed_of_dict
def LR:=@Nat.le_succ_of_le
def LU:=@List.foldl_append
def LV:=@List.ext_getElem?
def MF:=@PySem.W.KasT.kasWp_bind
def MJ:=@PySem.F.type_list_extend
def MK:=@PySem.F.type_dict_values
def MM:=@PySem.F.slot_list_extend
def M_:=@PySem.Obj.data_mapFields
def M':=@List.range'_succ
def NA:=@List.lookup_cons
def NR:=@Nat.lt_trans
def NS:=@List.pairwise_lt_range
def NT:=@List.Perm.append_right
def NU:=@PySem.Calls.call_function_entry
def OB:=@PySem.wpAny_truthy_bool
def OC:=@PySem.wpAny_Call_method
def OD:=@List.sum_append
def OE:=@List.mem_append
def OF:=@List.filter_map
def OG:=@Bool.eq_iff_iff
def OT:=@List.mem_iff_getElem?
def OU:=@List.filterMap_append
def PM:=@PySem.wpAny_forIn_list
def PN:=@Std.Legacy.Range.forIn_eq_forIn_range'
def QG:=@PySem.call_meetsIn
def QM:=@PySem.wpAny_isOneOf_itemiter
def QV:=@PySem.codeAny_builtin
theorem ZV{p:Prop}(h:p:=by decide +kernel):p:=h
open PySem PySem.Spec PyProof.Rows in def ZR:=@wpAny_bind
open PySem PySem.Spec PyProof.Rows in def ZS:=@wpAny_pure
open PySem PySem.Spec PyProof.Rows in def ZT:=@Heap.get?_push_of_some
open PySem PySem.Spec PyProof.Rows in def ZU:=@Heap.get?_push_size
namespace PySem.W.Fast
def tw2587783948861235946:=()
def tw14783562841586360012:=()
def tw17229886655534506432:=()
def tw16248157526329401568:=()
def tw11723732610907293232:=()
def tw8416734645699468237:=()
def tw3007956663434758929:=()
def tw4143895066191320241:=()
def tw597789161816026557:=()
def tw9326939931108949208:=()
def tw10330100763947990103:=()
def tw8064711826289915342:=()
def tw18296809462940705027:=()
def tw9036039817745224729:=()
def tw6144228255498945739:=()
def tw4260083186337716587:=()
def tw9661880357951909758:=()
def tw12641912977016085483:=()
def tw12257082614864813985:=()
def tw6408008627382700476:=()
def tw13240285155332214625:=()
def tw11609785278709668799:=()
def tw7167149555294281338:=()
def tw9899912718398460117:=()
def tw1129519094973526571:=()
def tw18321009423959456046:=()
def tw9630383428996888346:=()
def tw2827648928422625841:=()
def tw9752854389749634551:=()
def tw2736370820625805212:=()
def tw14711613067008289599:=()
def tw5062074326030823617:=()
def tw16358341132320959038:=()
def tw805107600797057711:=()
def tw11776650558251726397:=()
def tw9536946495075629590:=()
def tw5319319001949205240:=()
def tw2032367063174556320:=()
def tw7377561068588270248:=()
def tw12651844163237059558:=()
def tw7597497372654836161:=()
def tw9695994480206107396:=()
def tw16931722754732597109:=()
def tw447788176691292897:=()
def tw4938199200320788891:=()
def tw8252756989760060627:=()
def tw8354568493170016008:=()
def tw3970973807876359423:=()
def tw2935205371248617840:=()
def tw5567199233299693908:=()
def tw13174648896947894223:=()
def tw14403885575646003240:=()
def tw10582880201332054522:=()
def tw16030157244662281984:=()
def tw14462431070093061973:=()
def tw8895501203147163414:=()
def tw15070767512767194686:=()
def tw16457565486920420134:=()
def tw1453038342399778385:=()
def tw13939878848753477761:=()
def tw10963090641998815442:=()
def tw15965927057224844931:=()
def tw9676027458075355085:=()
def tw5931775447151819662:=()
def tw1839922824817908507:=()
def tw16775418456085628488:=()
def tw2161080465350920864:=()
def tw12560895132032076142:=()
def tw10592009989357976383:=()
def tw3921700836398444870:=()
def tw6017388103774450768:=()
def tw3911766431371382980:=()
def tw2155638943790036470:=()
def tw14131487038793089648:=()
def tw15938231327444891911:=()
def tw10261390596648019505:=()
def tw18356341845595867279:=()
def tw10846465793050616850:=()
def tw5361765356705382989:=()
def tw5780858605281561934:=()
def tw4256669888468168131:=()
def tw10245678811287636320:=()
def tw10675965910511265283:=()
def tw8357247807223211369:=()
def tw7526758490523170204:=()
def tw13351458909419203149:=()
def tw9282350344334691827:=()
def tw15445672680570242788:=()
def tw10087889722732904375:=()
def tw1751659133888139786:=()
def tw9768683128539533281:=()
def tw1539306014190253757:=()
def tw1468623012817594075:=()
def tw194881561244414931:=()
def tw9929389106691661370:=()
def tw12123131224828894055:=()
def tw11954447839279031504:=()
def tw17675622080648699739:=()
def tw2352251138940814848:=()
def tw5261284075625141679:=()
def tw7902833748099737642:=()
def tw2553813381499222967:=()
def tw5818155184831924833:=()
def tw12991871233987787230:=()
def tw11048820772097124664:=()
def tw5629594920697109869:=()
def tw14013116489005775389:=()
def tw14122824679313848017:=()
def tw13297742187711051168:=()
def tw14078852078833112176:=()
def tw540280286766873328:=()
def tw9687014248864558747:=()
def tw3894561785631896748:=()
def tw2984231562412944335:=()
def tw1130854059399626739:=()
def tw1453603792237294375:=()
def tw10597927987681768306:=()
def tw5691308987452796997:=()
def tw12545108220316778311:=()
def tw2465723010458496527:=()
def tw16371545037425161774:=()
def tw15202581470979223905:=()
def tw987547769306003011:=()
def tw15236817441709709885:=()
def tw17631422005179633158:=()
def tw14308124450524352168:=()
def tw9119200022140537552:=()
def tw9073044079505856595:=()
def tw8427375803965404565:=()
def tw8209506130296630452:=()
def tw9734390319551220845:=()
def tw16788067468331914218:=()
def tw7418465013602625580:=()
def tw15432004405722270559:=()
def tw1950161606781288886:=()
def tw15064577460284601644:=()
def tw12514685936562828140:=()
def tw17880689155037784896:=()
def tw3355891122161569192:=()
end PySem.W.Fast
theorem ZA {α β : Type _} {as : List α} (f : α -> β) : (as.map f).length = as.length := List.length_map f
theorem ZB {α : Type _} {a : α} {as : List α} (bs : List α) (h : a ∈ as) : a ∈ as ++ bs := List.mem_append_left bs h
theorem ZC {α : Type _} {b : α} {bs : List α} (as : List α) (h : b ∈ bs) : b ∈ as ++ bs := List.mem_append_right as h
theorem ZD {α : Type _} (y : α) {a : α} {l : List α} (h : a ∈ l) : a ∈ y :: l := List.mem_cons_of_mem y h
theorem ZE {α : Type _} {as bs : List α} : (as ++ bs).length = as.length + bs.length := List.length_append
theorem ZF {α β : Type _} {f : α -> β} {as bs : List α} : (as ++ bs).map f = as.map f ++ bs.map f := List.map_append
theorem ZG (n : Nat) : n <= n := Nat.le_refl n
theorem ZH {α β : Type _} {f : α -> β} {as : List α} {i : Nat} : (as.map f)[i]? = as[i]?.map f := List.getElem?_map
theorem ZI {α : Type _} {a : α} {s t : List α} : a ∈ s ++ t -> a ∈ s \/ a ∈ t := OE.mp
theorem ZJ {α : Type _} {l : List α} {i : Nat} {a : α} : l[i]? = some a -> ∃ h : i < l.length, l[i] = a := List.getElem?_eq_some_iff.mp
theorem ZK {α : Type _} {a b : α} : a ∈ [b] -> a = b := DM.mp
theorem ZL {α : Type _} {a : α} {l : List α} : a ∈ a :: l := List.mem_cons_self
theorem ZM {α : Type _} {a b : α} {l : List α} : a ∈ b :: l -> a = b \/ a ∈ l := BZ.mp
theorem ZN {α β : Type _} {b : β} {f : α -> β} {l : List α} : b ∈ l.map f -> ∃ a, a ∈ l /\ f a = b := AI.mp
theorem ZO {α : Type _} {a b : α} : some a = some b -> a = b := Option.some.inj
theorem ZP {α : Type _} {l : List α} {i : Nat} {a : α} : l[i]? = some a -> a ∈ l := List.mem_of_getElem?
set_option autoImplicit true
set_option Elab.async false
set_option maxRecDepth 100000
set_option maxHeartbeats 4000000
set_option linter.all false
namespace L2
open PySem PySem.Spec PyProof.Rows
abbrev Key:=Sum Int Str
def P6:Key->Value->Bool
 | .inl k,v=>Value.isInt k v
 | .inr x,v=>Value.isStrOf x v
def ue(w:World):Key->Int
 | .inl k=>hashInt k
 | .inr x=>hashStr w x
theorem Cj:∀{k:Key} {v:Value},P6 k v=true->(∃i t,k=Sum.inl i/\v=Value.int i t)\/(∃x t,k=Sum.inr x/\v=Value.str x t)
 | .inl i,v,h=>by obtain⟨t,e⟩:=Value.isInt_shape (k:=i) (v:=v) h;exact .inl ⟨i,t,rfl,e⟩
 | .inr x,v,h=>by obtain⟨t,e⟩:=Value.isStrOf_shape (x:=x) (v:=v) h;exact .inr ⟨x,t,rfl,e⟩
theorem Jab(i:Int)(t:Tok):P6 (.inl i) (.int i t)=true:=by simp[P6,Value.isInt]
theorem Jaa(x:Str)(t:Tok):P6 (.inr x) (.str x t)=true:=by simp[P6,Value.isStrOf]
theorem Jg6(a b:Int):decide ((Sum.inl a:Key)=Sum.inl b)=(a==b):=by grind
theorem Jg3(a b:Str):decide ((Sum.inr a:Key)=Sum.inr b)=decide (a=b):=by grind
theorem Jg5(a:Int)(b:Str):decide ((Sum.inl a:Key)=Sum.inr b)=false:=AG (λq=>nomatch q)
theorem Jg4(a:Str)(b:Int):decide ((Sum.inr a:Key)=Sum.inl b)=false:=AG (λq=>nomatch q)
def Bp(prog:Program)(w:World):PySem.KeyKind prog w Key where
 is:=P6
 hash:=ue w
 inj:=λv a b ha hb=>by
  rcases Cj ha with⟨i,t,rfl,rfl⟩|⟨x,t,rfl,rfl⟩
  .rcases Cj hb with⟨j,u,rfl,e⟩|⟨y,u,rfl,e⟩
   .injection e with e1 _;rw[e1]
   .exact nomatch e
  .rcases Cj hb with⟨j,u,rfl,e⟩|⟨y,u,rfl,e⟩
   .exact nomatch e
   .injection e with e1 _;rw[e1]
 byValue:=λk v h=>by
  rcases Cj h with⟨i,t,rfl,rfl⟩|⟨x,t,rfl,rfl⟩<;>rfl
 pyHash:=λhv h=>by
  rcases Cj hv with⟨i,t,rfl,rfl⟩|⟨x,t,rfl,rfl⟩
  .exact wpAny_pyHash_int h
  .exact wpAny_pyHash_str h
 eqBool:=λhu hv h=>by
  rcases Cj hu with⟨i,t,rfl,rfl⟩|⟨x,t,rfl,rfl⟩
  .rcases Cj hv with⟨j,u,rfl,rfl⟩|⟨y,u,rfl,rfl⟩
   .rw[Jg6] at h;exact wpAny_eqBool_int h
   .rw[Jg5] at h;exact SeqAt.EqAt.int_str i t y u _ _ _ _ h
  .rcases Cj hv with⟨j,u,rfl,rfl⟩|⟨y,u,rfl,rfl⟩
   .rw[Jg4] at h;exact SeqAt.EqAt.str_int x t j u _ _ _ _ h
   .rw[Jg3] at h;exact wpAny_eqBool_str h
 «strs»:=λk x t v h=>by
  rcases Cj h with⟨i,u,rfl,e⟩|⟨y,u,rfl,e⟩
  .exact nomatch e
  .injection e with e1 _
   subst e1
   cases v<;>rfl
theorem Vd(prog:Program)(w:World)(i:Int)(t:Tok):(Bp prog w).is (.inl i) (.int i t)=true:=Jab i t
theorem Vc(prog:Program)(w:World)(x:Str)(t:Tok):(Bp prog w).is (.inr x) (.str x t)=true:=Jaa x t
inductive V where
 | EE|bl (b:Bool)|int (i:Int)|str (x:Str)|TB (b:Array UInt8)|bD (b:UInt64)|ref (a:Addr)|ty (n:String)
 deriving DecidableEq
def RelV:V->Value->Prop
 | .EE,u=>u=Value.none
 | .bl b,u=>u=Value.bool b
 | .int i,u=>∃t,u=Value.int i t
 | .str x,u=>∃t,u=Value.str x t
 | .TB b,u=>∃t,u=Value.bytes b t
 | .bD b,u=>∃t,u=Value.float b t
 | .ref a,u=>u=Value.ref a
 | .ty n,u=>u=Value.type n
abbrev Vals:List V->List Value->Prop:=Paired RelV
theorem Vals.length(r:Vals xs us):xs.length=us.length:=Paired.length r
theorem Vals.get:∀{xs:List V} {us:List Value} {i:Nat} {x:V},Vals xs us->xs[i]?=some x->∃u,us[i]?=some u/\RelV x u
 | _,_,_,_,.nil,e=>by simp at e
 | _,_,0,_,.cons r _,e=>by simp at e;subst e;exact⟨_,rfl,r⟩
 | _,_,i+1,x,.cons _ t,e=>by obtain⟨u,h1,h2⟩:=Vals.get (i:=i) (x:=x) t (by simpa using e);exact⟨u,by simpa using h1,h2⟩
theorem Vals.append:∀{xs ys:List V} {us ws:List Value},Vals xs us->Vals ys ws->Vals (xs++ys) (us++ws)
 | _,_,_,_,.nil,s=>s
 | _,_,_,_,.cons r t,s=>.cons r (Vals.append t s)
theorem Vals.take:∀{xs:List V} {us:List Value} (n:Nat),Vals xs us->Vals (xs.take n) (us.take n)
 | _,_,0,_=>.nil
 | _,_,_+1,.nil=>.nil
 | _,_,n+1,.cons r t=>.cons r (Vals.take n t)
theorem Vals.drop:∀{xs:List V} {us:List Value} (n:Nat),Vals xs us->Vals (xs.drop n) (us.drop n)
 | _,_,0,r=>r
 | _,_,_+1,.nil=>.nil
 | _,_,n+1,.cons _ t=>Vals.drop n t
def NQ:Option V->Option Value->Prop
 | some v,some u=>RelV v u
 | none,none=>True
 | _,_=>False
def KV{κ:Type}:List (κ×V)->List (κ×Value)->Prop:=Paired λ(p:κ×V)(q:κ×Value)=>p.1=q.1/\RelV p.2 q.2
def kV:Key->V
 | .inl i=>.int i
 | .inr x=>.str x
inductive HO where
 | BI (xs:List V)
 | BC (xs:List V)
 | dK (kvs:List (Key×V))|dT (kvs:List (List Key×V))
 | set (S:Int->Bool) (n:Nat)
 | ins (C dx:Addr) (fs:List (Str×V))
 | own (x:Addr)
 | xd (fs:List (Str×V))
 | met (f x:Addr)
 | jE (lo hi:Int)
 | FJ (o:Obj) (u:HO)
 | XE (ps:Array Value)
 | ext (φ:Heap->Prop)
abbrev Hp:=Addr->Option HO
def upd(H:Hp)(a:Addr)(o:HO):Hp:=λb=>if b=a then some o else H b
theorem Ac:upd H a o a=some o:=by unfold upd;rw[AE rfl]
theorem Ab(h:b≠a):upd H a o b=H b:=by unfold upd;rw[AB h]
theorem Qw:upd (upd H a o) a u=upd H a u:=by funext b;unfold upd;split<;>rfl
theorem Np{H:Hp}{a b:Addr}{o u:HO}(h:H a=some o)(h':H b=some u)(d:o≠u):a≠b:=by intro e;subst e;rw[h] at h';exact d (ZO h')
theorem Ak{H:Hp}{a b:Addr}{o:HO}(h:H a=some o)(h':H b=none):a≠b:=by intro e;subst e;rw[h] at h';cases h'
section
variable (P:Program)(w:World)
def CZ(H:Hp)(h:Heap)(a:Addr):HO->Prop
 | .BI xs=>xs.length<=sizeLine/\∃(its:List Value)(n:Nat),Vals xs its/\h.get? a=some { cls:=.type "list",data:=.seq its.toArray n }
 | .BC xs=>xs.length<=sizeLine/\∃its:List Value,Vals xs its/\IsTup h a its.toArray
 | .dK kvs=>kvs.length<=sizeLine/\(a==sysModules)=false/\∃vs,KV kvs vs/\h.DictOf (Bp P w) a vs
 | .dT kvs=>kvs.length<=sizeLine/\(a==sysModules)=false/\∃xs:List (List Key×Addr×Value),
  Paired (λ(p:List Key×V)(q:List Key×Addr×Value)=>p.1=q.1/\H q.2.1=some (.BC (p.1.map kV))/\RelV p.2 q.2.2) kvs xs /\
  ∃o es ep,h.get? a=some o/\o.ExactDict/\o.data=.dict es ep/\es.toList=xs.map (entryOfKey (tupleKind (Bp P w)))/\(xs.map (·.1)).Nodup
 | .set S n=>h.SetOf (intKind P w) a S n
 | .ins C dx fs=>H dx=some (.own a)/\fs.length<=1000/\dx≠a/\h.get? a=some (W.instObj C dx) /\
  ∃mA,h.Ns1 dx mA/\(∀f,NQ (fs.lookup f) (mA f))/\PySem.Within mA (fs.map (·.1))
 | .own _=>∃o,h.get? a=some o
 | .xd fs=>∃mA,h.Ns1 a mA/\∀f,NQ (fs.lookup f) (mA f)
 | .jE lo hi=>∃t u v,h.get? a=some { cls:=.type "range",data:=.fields #[.int lo t,.int hi u,.int 1 v] }
 | .FJ o u=>h.get? a=some o/\CZ H h a u
 | .XE ps=>h.get? a=some { cls:=.none,data:=.fields ps }
 | .met f x=>h.get? a=some (W.methodObj (.ref f) (.ref x))
 | .ext φ=>φ h/\(∃o,h.get? a=some o)/\∀h1 h2:Heap,φ h1->(∀o,h1.get? a=some o->h2.get? a=some o)->φ h2
def KL(H:Hp)(h:Heap):Prop:=∀a o,H a=some o->CZ P w H h a o
end
section
variable {P:Program}{w:World}{H H':Hp}{h h':Heap}{a:Addr}{o:HO}
theorem CZ.lt(x:CZ P w H h a o):a<h.objs.size:=by cases o with | BI xs=>obtain⟨_,_,_,_,e⟩:=x;exact AU e | BC xs=>obtain⟨_,_,_,p⟩:=x;exact p.lt | dK kvs=>obtain⟨_,_,_,_,o,_,_,e,_⟩:=x;exact AU e | dT kvs=>obtain⟨_,_,_,_,o,_,_,e,_⟩:=x;exact AU e | set S n=>obtain⟨o,_,_,_,e,_⟩:=x;exact AU e | ins C dx fs=>obtain⟨_,_,_,e,_⟩:=x;exact AU e | own y=>obtain⟨_,e⟩:=x;exact AU e | xd fs=>obtain⟨_,⟨_,_,_,e,_⟩,_⟩:=x;exact AU e | jE lo hi=>obtain⟨_,_,_,e⟩:=x;exact AU e | FJ ob u=>obtain⟨e,_⟩:=x;exact AU e | XE ps=>exact AU (show h.get? a=some _ from x) | met f y=>exact AU (show h.get? a=some _ from x) | ext φ=>obtain⟨_,⟨_,e⟩,_⟩:=x;exact AU e
theorem nC:∀{PZ:List α} {l₂:List β},Paired F PZ l₂->(∀a b,F a b->G a b)->Paired G PZ l₂
 | _,_,.nil,_=>.nil
 | _,_,.cons r t,f=>.cons (f _ _ r) (nC t f)
theorem CZ.OJ(x:CZ P w H h a o)(k:∀b u,(b=a\/H b=some (.own a))->h.get? b=some u->h'.get? b=some u)(ho:∀b,H b=some (.own a)->H' b=some (.own a))(ht:∀b xs,H b=some (.BC xs)->H' b=some (.BC xs)):CZ P w H' h' a o:=by induction o with | BI xs=>obtain⟨z,its,n,r,e⟩:=x;exact⟨z,its,n,r,k _ _ (.inl rfl) e⟩ | BC xs=>obtain⟨z,its,r,ob,e,c⟩:=x;exact⟨z,its,r,ob,k _ _ (.inl rfl) e,c⟩ | dK kvs=>obtain⟨z,y,vs,r,ob,es,ep,e,c⟩:=x;exact⟨z,y,vs,r,ob,es,ep,k _ _ (.inl rfl) e,c⟩ | dT kvs =>obtain⟨z,y,xs,r,ob,es,ep,e,c⟩:=x;exact⟨z,y,xs,nC r λp q z=>⟨z.1,ht _ _ z.2.1,z.2.2⟩,ob,es,ep,k _ _ (.inl rfl) e,c⟩ | set S n=>obtain⟨ob,es,ep,t,e,c⟩:=x;exact⟨ob,es,ep,t,k _ _ (.inl rfl) e,c⟩ | ins C dx fs =>obtain⟨d,z,ne,e,mA,⟨od,es,ep,e2,c⟩,r⟩:=x;exact⟨ho _ d,z,ne,k _ _ (.inl rfl) e,mA,⟨od,es,ep,k _ _ (.inr d) e2,c⟩,r⟩ | own y=>obtain⟨ob,e⟩:=x;exact⟨ob,k _ _ (.inl rfl) e⟩ | xd fs=>obtain⟨mA,⟨od,es,ep,e,c⟩,r⟩:=x;exact⟨mA,⟨od,es,ep,k _ _ (.inl rfl) e,c⟩,r⟩ | jE lo hi=>obtain⟨t,u,v,e⟩:=x;exact⟨t,u,v,k _ _ (.inl rfl) e⟩ | FJ ob u ih=>obtain⟨e,q⟩:=x;exact⟨k _ _ (.inl rfl) e,ih q⟩ | XE ps =>have e:h.get? a=some { cls:=.none,data:=.fields ps }:=x;show h'.get? a=some { cls:=.none,data:=.fields ps };exact k a _ (.inl rfl) e | met f y =>have e:h.get? a=some (W.methodObj (.ref f) (.ref y)):=x;show h'.get? a=some (W.methodObj (.ref f) (.ref y));exact k a _ (.inl rfl) e | ext φ=>obtain⟨p,⟨o,e⟩,st⟩:=x;exact⟨st _ _ p λo q=>k _ _ (.inl rfl) q,⟨o,k _ _ (.inl rfl) e⟩,st⟩
theorem KL.lt(x:KL P w H h)(e:H a=some o):a<h.objs.size:=(x a o e).lt
theorem KL.fresh(x:KL P w H h)(e:h.objs.size<=a):H a=none:=by cases q:H a with | none=>rfl | some u=>exact absurd (BO (x.lt q) e) (C_ _)
theorem KL.kept(x:KL P w H h)(k:∀b u,h.get? b=some u->h'.get? b=some u):KL P w H h':=λa o e =>(x a o e).OJ (λb u _ q=>k b u q) (λ_ q=>q) λ_ _ q=>q
theorem KL.laid(x:KL P w H h)(k:∀b u,h.get? b=some u->h'.get? b=some u)(hp:h.objs.size<=a)(new:CZ P w (upd H a o) h' a o):KL P w (upd H a o) h':=λb u e=>by have hn:=x.fresh hp;by_cases hb:b=a;(.subst hb;rw[Ac] at e;cases e;exact new);.rw[Ab hb] at e;exact(x b u e).OJ (λc v _ q=>k c v q) (λc q=>by rw[Ab (Ak q hn)];exact q) λc xs q=>by rw[Ab (Ak q hn)];exact q
end
def Rd(H:Hp)(a:Addr)(u:HO):Prop:=H a=some u\/∃o,H a=some (.FJ o u)
theorem Rd.ok(r:Rd H a u)(x:KL P w H h):CZ P w H h a u:=by
 rcases r with r|⟨o,r⟩;.exact x a u r
 .obtain⟨_,q⟩:=x a _ r;exact q
def fm:Option HO->Prop
 | some (.BI _)=>True
 | some (.dK _)=>True
 | some (.dT _)=>True
 | some (.set _ _)=>True
 | some (.ins _ _ _)=>True
 | some (.ext _)=>True
 | _=>False
section
variable {P:Program}{w:World}{H:Hp}{h h':Heap}{x e:Addr}{o':HO}
theorem KL.write(ok:KL P w H h)(mu:fm (H x))(he:e=x\/H e=some (.own x))(k:∀b u,b≠e->h.get? b=some u->h'.get? b=some u)(cx:∃u,h'.get? e=some u)(new:CZ P w (upd H x o') h' x o'):KL P w (upd H x o') h':=λb u q=>by (have gM:∀c y,H c=some (.own y)->c≠x:=λc y r z=>by subst z;rw[r] at mu;exact mu);(have oW:∀c xs,H c=some (.BC xs)->c≠x:=λc xs r z=>by subst z;rw[r] at mu;exact mu);by_cases hb:b=x;(.subst hb;rw[Ac] at q;cases q;exact new);.rw[Ab hb] at q;by_cases bB:b=e;(·(have q':H b=some (.own x):=by rcases he with z|z;(.exact absurd (bB.trans z) hb);.rw[bB];exact z);rw[q] at q';cases q';obtain⟨v,hv⟩:=cx;exact⟨v,by rw[bB];exact hv⟩);·(refine(ok b u q).OJ (λc v hc r=>k c v ?_ r) (λc r=>by rw[Ab (gM c b r)];exact r) λc xs r=>by rw[Ab (oW c xs r)];exact r);rcases hc with rfl|hc;(.exact bB);.rintro rfl;rcases he with z|z;(.exact gM c b hc z);.rw[hc] at z;cases z;exact hb rfl
end
structure Un(fs ex:List Addr)(H H':Hp)(h h':Heap):Prop where
 keep:∀b o,h.get? b=some o->H b=none->b∉fs->b∉ex->h'.get? b=some o
 slot:∀b o,h.get? b=some o->H b=none->b∈fs->b∉ex->∃sl,h'.get? b=some { o with slots:=sl }
 free:∀b o,h.get? b=some o->H b=none->b∉ex->H' b=none
 there:∀b o,h.get? b=some o->b∉ex->∃o',h'.get? b=some o'
 NM:∀b xs,H b=some (.BC xs)->H' b=some (.BC xs)
 LF:∀b o u,H b=some (.FJ o u)->H' b=some (.FJ o u)
 NN:∀b ps,H b=some (.XE ps)->∃more,H' b=some (.XE (ps++more))
section
variable {fs XC ex ex':List Addr}{H H1 H2:Hp}{h h1 h2 h':Heap}{a x e:Addr}{o:HO}
theorem Un.any(u:Un fs ex H H1 h h1)(q:h.get? b=some ob)(n:H b=none)(hx:b∉ex):∃sl,h1.get? b=some { ob with slots:=sl }:=by
 by_cases hb:b∈fs;.exact u.slot b ob q n hb hx
 .exact⟨ob.slots,u.keep b ob q n hb hx⟩
theorem Un.kept(k:∀b u,h.get? b=some u->h'.get? b=some u):Un fs ex H H h h' :=⟨λb ob q _ _ _=>k b ob q,λb ob q _ _ _=>⟨ob.slots,k b ob q⟩,λ_ _ _ n _=>n,λb ob q _=>⟨ob,k b ob q⟩,λ_ _ q=>q,λ_ _ _ q=>q,λ_ ps q=>⟨#[],by rw[q];simp⟩⟩
theorem Un.refl:Un fs ex H H h h:=Un.kept λ_ _ q=>q
theorem Un.laid(k:∀b u,h.get? b=some u->h'.get? b=some u)(hp:h.objs.size<=a)(hn:H a=none):Un fs ex H (upd H a o) h h' where
 keep:=λb u q _ _ _=>k b u q
 slot:=λb u q _ _ _=>⟨u.slots,k b u q⟩
 free:=λb u q n _=>by rw[Ab (BK (BO (AU q) hp))];exact n
 there:=λb u q _=>⟨u,k b u q⟩
 NM:=λb xs q=>by rw[Ab (Ak q hn)];exact q
 LF:=λb u xs q=>by rw[Ab (Ak q hn)];exact q
 NN:=λb ps q=>⟨#[],by rw[Ab (Ak q hn),q];simp⟩
theorem Un.write(mu:fm (H x))(he:e=x\/H e=some (.own x))(k:∀b u,b≠e->h.get? b=some u->h'.get? b=some u)(cx:∃u,h'.get? e=some u):Un fs ex H (upd H x o) h h':=by
 have hx:∀b,H b=none->b≠x:=λb n z=>by subst z;rw[n] at mu;exact mu
 have hb:∀b,H b=none->b≠e:=λb n z=>by subst z;rcases he with r|r;(.exact hx b n r);.rw[n] at r;cases r
 have hm:∀b u,H b=some u->¬fm (some u)->b≠x:=λb u q nm z=>by subst z;rw[q] at mu;exact nm mu
 refine⟨λb u q n _ _=>k b u (hb b n) q,λb u q n _ _=>⟨u.slots,k b u (hb b n) q⟩,λb u q n _=>by rw[Ab (hx b n)];exact n,λb u q _=>?_,λb xs q=>by rw[Ab (hm b _ q λz=>z)];exact q,λb u xs q=>by rw[Ab (hm b _ q λz=>z)];exact q,λb ps q=>⟨#[],by rw[Ab (hm b _ q λz=>z),q];simp⟩⟩;by_cases bB:b=e;.subst bB;exact cx
 .exact⟨u,k b u bB q⟩
end
def i9(h:Heap)(H:Hp):List Addr:=(List.range h.objs.size).filter λa=>(H a).isSome
def To(h:Heap)(H:Hp):Heap:=W.hideAll h (i9 h H)
theorem Jah(h:Heap)(H:Hp):(To h H).objs.size=h.objs.size:=W.hideAll_size _ _
theorem Jcw(e:h.get? b=some o)(n:H b=none):(To h H).get? b=some o :=W.hideAll_get _ e λhm=>by have q:(H b).isSome=true:=(AD.mp hm).2;rw[n] at q;simp at q
theorem Jeu(e:(To h H).get? b=some o):h.get? b=some o/\H b=none:=by have e':h.get? b=some o:=W.of_hideAll (i9 h H) e;refine⟨e',?_⟩;cases q:H b with | none=>rfl | some x =>have hm:b∈i9 h H:=AD.mpr ⟨BQ.mpr (AU e'),by simp[q]⟩;have z:(To h H).get? b=none:=JQ (i9 h H) hm;rw[z] at e;cases e
def Jfk(g h:Heap)(L:Addr):List (Addr×Obj):=(List.range h.objs.size).filterMap λa=>if a=L\/(g.get? a).isSome=true then none else(h.get? a).map λo=>(a,o)
def rest(g h:Heap)(L d:Addr):List (Addr×Obj):=(Jfk g h L).filter λp=>decide (p.1≠d)
structure Mod(K:W.Frag)(mg:Str->Option Value)(base:Heap):Prop where
 US:K.In base
 glob:base.Ns mainGlobals mg
 blt:∃mb,base.Ns builtinsNs mb/\∀x:Str,x≠"__name__"->mb x=bootBuiltins x
 nolimit:base.NoLimit
structure Cx where
 prog:Program
 w:World
 K:W.Frag
 mg:Str->Option Value
 base:Heap
 A:Around
 N:List Str
 GQ:Shared
 ON:Hp
 env:Env
 outer:List Env
 stack:List Env
 ex:List Addr
 fn:Str->Bool
 calm:Bool
 pn:List (Addr×Obj)
 xe:Value->Shared->Prop
def KI(l:List Env):List Addr:=l.filterMap (·.frame)
abbrev Cx.fs(X:Cx):List Addr:=KI X.outer
def m8(sc:Scope)(x:Str):Prop:=sc.names.lookup x=some .local\/sc.names.lookup x=some .cell\/sc.names.lookup x=some .free
def Loc(sc:Scope)(x:Str):Prop:=sc.names.lookup x=some .local\/sc.names.lookup x=some .cell
def Look(env:Env)(h:Heap)(m:Str->Option Value)(x:Str)(u:Value):Prop :=
 (env.kindOf x=some .local/\m x=some u)\/((env.kindOf x=some .cell\/env.kindOf x=some .free)/\∃c,env.cells.lookup x=some c/\h.IsCell c (some u))
structure Cx.Ok(X:Cx):Prop where
 mod:Mod X.K X.mg X.base
 kind:X.env.scope.kind=.function
 glob:X.env.globals=mainGlobals
 blt:X.env.builtins=builtinsNs
 above:X.GQ.heap.objs.size<=X.env.locals
 inj:∀x y c,X.env.cells.lookup x=some c->X.env.cells.lookup y=some c->x=y
 has:∀x,(X.env.kindOf x=some .cell\/X.env.kindOf x=some .free)->∃c,X.env.cells.lookup x=some c
 YJ:∀x c,X.fn x=true->X.env.cells.lookup x=some c->X.GQ.heap.objs.size<=c
 hd:X.calm=true->X.A.handled=none
 frames:X.A.frames=some X.stack
 Y':X.stack=X.outer\/(X.stack=X.env::X.outer/\X.env.frame=some X.env.locals)
 U':∀b∈X.ex,b≠X.env.locals/\∀x c,X.env.cells.lookup x=some c->c≠b
 bs:∀b o,X.base.get? b=some o->X.GQ.heap.get? b=some o/\X.ON b=none
 UE:X.base.objs.size<=X.GQ.heap.objs.size
 PY:∀b o,X.base.get? b=some o->b∉X.ex
 P_:∀b∈X.ex,b∉X.fs
 KR:X.GQ.heap.FunFrames X.base X.outer
 VL:∀b∈X.fs,X.ON b=none
structure Inv(X:Cx)(AA:List (Addr×Obj))(σ:List (Option V))(H:Hp)(s:Shared):Prop where
 ok:X.Ok
 os:s.os=X.GQ.os
 bare:AllBare s.gens
 base:Un X.fs X.ex X.ON H X.GQ.heap s.heap
 loc:∃m,s.heap.Ns X.env.locals m/\∀(i:Nat)(x:Str)(v:V),X.N[i]?=some x->σ[i]?=some (some v)->m8 X.env.scope x->∃u,RelV v u/\Look X.env s.heap m x u
 cell:∀x c,X.env.cells.lookup x=some c->∃v,s.heap.IsCell c v
 free:H X.env.locals=none
 HX:∀x c,X.env.cells.lookup x=some c->H c=none
 pin:∀p∈X.pn++AA,s.heap.get? p.1=some p.2/\H p.1=none/\p.1≠X.env.locals/\p.1∉X.fs/\∀v,p.2.data≠.cell v
 CT:KL X.prog X.w H s.heap
 len:σ.length=X.N.length
section
variable {X:Cx}{AA:List (Addr×Obj)}{σ:List (Option V)}{H H':Hp}{s:Shared}{h':Heap}
theorem Cx.Ok.oY(ok:X.Ok){b:Addr}{o:Obj}(e:X.base.get? b=some o):b∉X.fs:=λhb=>by have:=(ok.KR.mem hb).1;rw[e] at this;cases this
theorem Inv.bs(I:Inv X AA σ H s):∀b o,X.base.get? b=some o->s.heap.get? b=some o/\H b=none:=λb o e =>⟨I.base.keep b o (I.ok.bs b o e).1 (I.ok.bs b o e).2 (I.ok.oY e) (I.ok.PY b o e),I.base.free b o (I.ok.bs b o e).1 (I.ok.bs b o e).2 (I.ok.PY b o e)⟩
theorem Inv.bk(I:Inv X AA σ H s):∀b o,X.base.get? b=some o->s.heap.get? b=some o:=λb o e=>(I.bs b o e).1
theorem Inv.mod(I:Inv X AA σ H s):Mod X.K X.mg X.base:=I.ok.mod
theorem Inv.LX(I:Inv X AA σ H s):X.K.In s.heap:=I.ok.mod.US.keeps I.bk
theorem Inv.lt(I:Inv X AA σ H s):X.env.locals<s.heap.objs.size:=let⟨_,hn,_⟩:=I.loc;hn.lt
theorem Inv.sz(I:Inv X AA σ H s):X.GQ.heap.objs.size<=s.heap.objs.size:=BE I.ok.above (EO I.lt)
theorem Inv.oX(I:Inv X AA σ H s)(h:s.heap.objs.size<=a):a∉X.fs:=λhb=>by obtain⟨_,o,ho,_⟩:=I.ok.KR.mem hb;exact absurd (BO (AU ho) (BE I.sz h)) (C_ _)
theorem Inv.bH(I:Inv X AA σ H s):∀x c,X.env.cells.lookup x=some c->c≠X.env.locals:=λx c e z=>by obtain⟨v,o,ho,hd⟩:=I.cell x c e;obtain⟨m,⟨o',es,ep,XT,QR,_⟩,_⟩:=I.loc;rw[z,XT] at ho;cases ho;rw[QR] at hd;cases hd
theorem Inv.KR(I:Inv X AA σ H s):s.heap.FunFrames X.base X.outer:=by
 have all:∀(l:List Env),(∀b∈KI l,b∈X.fs)->X.GQ.heap.FunFrames X.base l->s.heap.FunFrames X.base l:=by intro l;induction l with | nil=>intro _ _;trivial | cons env r ih =>intro hs hl;obtain⟨hk,⟨L,o,hf,hn,ho,hd⟩,hr⟩:=hl;have hL:L∈X.fs:=hs L (by unfold KI;rw[FK,hf];exact ZL);obtain⟨sl,e⟩:=I.base.slot L o ho (I.ok.VL L hL) hL λz=>I.ok.P_ L z hL;exact⟨hk,⟨L,_,hf,hn,e,hd⟩,ih (λb hb=>hs b (by unfold KI;rw[FK,hf];exact ZD _ hb)) hr⟩
 exact all X.outer (λ_ hb=>hb) I.ok.KR
theorem Inv.stack(I:Inv X AA σ H s):s.heap.FunFrames X.base X.stack:=by
 rcases I.ok.Y' with e|⟨e,hf⟩;.rw[e];exact I.KR
 .rw[e];obtain⟨m,hn,_⟩:=I.loc;refine .cons (by rw[I.ok.kind];decide) hf hn ?_ I.KR;exact Heap.get?_none_of_le (BE I.ok.UE I.ok.above)
theorem Inv.QD(I:Inv X AA σ H s):∀b∈KI X.stack,b∈X.env.locals::X.fs:=λb hb=>by rcases I.ok.Y' with e|⟨e,hf⟩;(.rw[e] at hb;exact ZD _ hb);.rw[e] at hb;unfold KI at hb;rw[FK,hf] at hb;exact hb
theorem Inv.OA(I:Inv X AA σ H s):∀b∈KI X.stack,H b=none:=λb hb=>by rcases ZM (I.QD b hb) with e|hb;(.rw[e];exact I.free);.obtain⟨_,o,ho,_⟩:=I.ok.KR.mem hb;exact I.base.free b o ho (I.ok.VL b hb) λz=>I.ok.P_ b z hb
theorem Inv.step{g':Array GenState}{t':Nat}{d':Drawn}{ch:List Addr}(I:Inv X AA σ H s)(XB:∀b∈ch,(b∈X.ex\/X.GQ.heap.objs.size<=b)/\b≠X.env.locals/\(∀x c,X.env.cells.lookup x=some c->c≠b)/\∀p∈X.pn++AA,p.1≠b)(keep:∀b o,b≠X.env.locals->b∉X.fs->b∉ch->s.heap.get? b=some o->H b=none->h'.get? b=some o)(slot:∀b o,b≠X.env.locals->b∈X.fs->b∉ch->s.heap.get? b=some o->H b=none->∃sl,h'.get? b=some { o with slots:=sl })(free:∀b o,b∉ch->s.heap.get? b=some o->H b=none->H' b=none)(there:∀b o,b∉ch->s.heap.get? b=some o->∃o',h'.get? b=some o')(NM:∀b xs,H b=some (.BC xs)->H' b=some (.BC xs))(LF:∀b o u,H b=some (.FJ o u)->H' b=some (.FJ o u))(NN:∀b ps,H b=some (.XE ps)->∃more,H' b=some (.XE (ps++more)))(ns:∀m,s.heap.Ns X.env.locals m->h'.Ns X.env.locals m)(CT:KL X.prog X.w H' h')(hg:AllBare g') : Inv X AA σ H' { s with heap:=h',gens:=g',drawn:=d',toks:=t' }:=by
 have qk:∀b o,X.GQ.heap.get? b=some o->b≠X.env.locals:=λb o e=>BK (BO (AU e) I.ok.above);have jL:∀b o,X.GQ.heap.get? b=some o->b∉X.ex->b∉ch:=λb o e hx hb=>by rcases(XB b hb).1 with z|z;(.exact hx z);.exact absurd (BO (AU e) z) (C_ _)
 have cellK:∀x c,X.env.cells.lookup x=some c->∀v,s.heap.IsCell c v->h'.IsCell c v:=λx c e v ⟨o,ho,hd⟩=>by have eC:c∉ch:=λz=>(XB c z).2.2.1 x c e rfl;by_cases hc:c∈X.fs;(.obtain⟨sl,q⟩:=slot c o (I.bH x c e) hc eC ho (I.HX x c e);exact⟨_,q,hd⟩);.exact⟨o,keep c o (I.bH x c e) hc eC ho (I.HX x c e),hd⟩
 refine⟨I.ok,I.os,hg,⟨λb o e n hb hx=>?_,λb o e n hb hx=>?_,λb o e n hx=>?_,λb o e hx=>?_,λb xs e=>NM b xs (I.base.NM b xs e),λb o xs e=>LF b o xs (I.base.LF b o xs e),λb ps e=>?_⟩,?_,λx c e=>?_,?_,λx c e=>?_,λp hp=>?_,CT,I.len⟩;.exact keep b o (qk b o e) hb (jL b o e hx) (I.base.keep b o e n hb hx) (I.base.free b o e n hx)
 .obtain⟨sl,e1⟩:=I.base.slot b o e n hb hx;obtain⟨wB,e2⟩:=slot b _ (qk b o e) hb (jL b o e hx) e1 (I.base.free b o e n hx);exact⟨wB,e2⟩
 .obtain⟨o',e1⟩:=I.base.there b o e hx;exact free b o' (jL b o e hx) e1 (I.base.free b o e n hx)
 .obtain⟨o',e1⟩:=I.base.there b o e hx;exact there b o' (jL b o e hx) e1
 .obtain⟨m1,e1⟩:=I.base.NN b ps e;obtain⟨m2,e2⟩:=NN b _ e1;exact⟨m1++m2,by rw[e2,Array.append_assoc]⟩
 .obtain⟨m,hn,hl⟩:=I.loc;refine⟨m,ns m hn,λi x v e1 e2 e3=>?_⟩;obtain⟨u,r,l⟩:=hl i x v e1 e2 e3;refine⟨u,r,?_⟩;rcases l with l|⟨k,c,e,z⟩;(.exact .inl l);.exact .inr ⟨k,c,e,cellK x c e _ z⟩
 .obtain⟨v,z⟩:=I.cell x c e;exact⟨v,cellK x c e v z⟩
 .obtain⟨m,⟨o,_,_,ho,_⟩,_⟩:=I.loc;exact free _ o (λz=>(XB _ z).2.1 rfl) ho I.free
 .obtain⟨v,o,ho,hd⟩:=I.cell x c e;exact free c o (λz=>(XB c z).2.2.1 x c e rfl) ho (I.HX x c e)
 .obtain⟨e,n,ne,nf,d⟩:=I.pin p hp;have eC:p.1∉ch:=λz=>(XB p.1 z).2.2.2 p hp rfl;exact⟨keep p.1 p.2 ne nf eC e n,free p.1 p.2 eC e n,ne,nf,d⟩
theorem Inv.un(I:Inv X AA σ H s)(u:Un X.fs [] H H' s.heap h')(CT:KL X.prog X.w H' h'):Inv X AA σ H' { s with heap:=h',toks:=t' }:=by obtain⟨m,⟨o,es,ep,ho,r⟩,_⟩:=id I.loc;obtain⟨sl,hL⟩:=u.any ho I.free (by simp);exact I.step (g':=s.gens) (d':=s.drawn) (ch:=[]) (λ_ z=>nomatch z) (λb o _ hb _ e n=>u.keep b o e n hb (by simp)) (λb o _ hb _ e n=>u.slot b o e n hb (by simp)) (λb o _ e n=>u.free b o e n (by simp)) (λb o _ e=>u.there b o e (by simp)) u.NM u.LF u.NN (λm' hm=>by obtain⟨o',bE,bF,XT,r'⟩:=hm;rw[ho] at XT;cases XT;exact⟨_,bE,bF,hL,r'⟩) CT I.bare
theorem Inv.call(I:Inv X AA σ H s)(u:Un (KI X.stack) ch H H' s.heap h')(CT:KL X.prog X.w H' h')(hg:AllBare g')(XB:∀b∈ch,(b∈X.ex\/X.GQ.heap.objs.size<=b)/\b≠X.env.locals/\(∀x c,X.env.cells.lookup x=some c->c≠b)/\∀p∈X.pn++AA,p.1≠b) : Inv X AA σ H' { s with heap:=h',gens:=g',drawn:=d',toks:=t' }:=by obtain⟨m,⟨o,es,ep,ho,r⟩,_⟩:=id I.loc;obtain⟨sl,hL⟩:=u.any ho I.free λz=>(XB _ z).2.1 rfl;exact I.step (ch:=ch) XB (λb o hL hb hc e n=>u.keep b o e n (λz=>(ZM (I.QD b z)).elim hL hb) hc) (λb o _ _ hc e n=>u.any e n hc) (λb o hc e n=>u.free b o e n hc) (λb o hc e=>u.there b o e hc) u.NM u.LF u.NN (λm' hm=>by obtain⟨o',bE,bF,XT,r'⟩:=hm;rw[ho] at XT;cases XT;exact⟨_,bE,bF,hL,r'⟩) CT hg
theorem Inv.turned(I:Inv X AA σ H s)(k:∀b o,b≠it->s.heap.get? b=some o->h'.get? b=some o)(hn:H it=none)(hL:it≠X.env.locals)(h1:it∈X.ex\/X.GQ.heap.objs.size<=it)(h2:∀x c,X.env.cells.lookup x=some c->c≠it)(h3:∀p∈X.pn++AA,p.1≠it):Inv X AA σ H { s with heap:=h',toks:=t' }:=by
 have qj:∀b u,H b=some u->b≠it:=λb u e z=>by rw[z,hn] at e;cases e
 refine I.step (g':=s.gens) (d':=s.drawn) (ch:=[it]) (λb hb=>?_) (λb o _ _ hc e _=>k b o (λz=>hc (by simp[z])) e) (λb o _ _ hc e _=>⟨o.slots,k b o (λz=>hc (by simp[z])) e⟩) (λ_ _ _ _ n=>n) (λb o hc e=>⟨o,k b o (λz=>hc (by simp[z])) e⟩) (λ_ _ e=>e) (λ_ _ _ e=>e) (λb ps e=>⟨#[],by rw[e];simp⟩) (λm hm=>?_) (λb u e=>?_) I.bare;·(have e:b=it:=by simpa using hb);subst e;exact⟨h1,hL,h2,h3⟩
 .obtain⟨o,es,ep,ho,r⟩:=hm;exact⟨o,es,ep,k _ o (Ne.symm hL) ho,r⟩
 .refine(I.CT b u e).OJ (λc v hc q=>k c v ?_ q) (λ_ q=>q) λ_ _ q=>q;rcases hc with z|z;(.rw[z];exact qj b u e);.exact qj c _ z
theorem Inv.tok(I:Inv X AA σ H s)(t:Nat):Inv X AA σ H { s with toks:=t }:=I.un (h':=s.heap) (t':=t) Un.refl I.CT
theorem Inv.kept(I:Inv X AA σ H s)(k:∀b u,s.heap.get? b=some u->h'.get? b=some u):Inv X AA σ H { s with heap:=h',toks:=t' }:=I.un (Un.kept k) (I.CT.kept k)
theorem Inv.laid(I:Inv X AA σ H s)(k:∀b u,s.heap.get? b=some u->h'.get? b=some u)(hp:s.heap.objs.size<=a)(new:CZ X.prog X.w (upd H a o) h' a o) : Inv X AA σ (upd H a o) { s with heap:=h',toks:=t' }:=I.un (Un.laid k hp (I.CT.fresh hp)) (I.CT.laid k hp new)
theorem Inv.write(I:Inv X AA σ H s)(mu:fm (H x))(he:e=x\/H e=some (.own x))(k:∀b u,b≠e->s.heap.get? b=some u->h'.get? b=some u)(cx:∃u,h'.get? e=some u)(new:CZ X.prog X.w (upd H x o) h' x o):Inv X AA σ (upd H x o) { s with heap:=h',toks:=t' }:=I.un (Un.write mu he k cx) (I.CT.write mu he k cx new)
theorem Inv.TU(I:Inv X AA σ H s)(h:∀p∈RE,s.heap.get? p.1=some p.2/\H p.1=none/\p.1≠X.env.locals/\p.1∉X.fs/\∀v,p.2.data≠.cell v):Inv X RE σ H s :=⟨I.ok,I.os,I.bare,I.base,I.loc,I.cell,I.free,I.HX,λp hp=>(ZI hp).elim (λz=>I.pin p (ZB _ z)) (h p),I.CT,I.len⟩
theorem U4{N:List Str}(hN:N.Nodup){i j:Nat}{x:Str}(a:N[i]?=some x)(b:N[j]?=some x):i=j:=by obtain⟨h1,e1⟩:=ZJ a;obtain⟨h2,e2⟩:=ZJ b;exact(JE hN).mp (e1.trans e2.symm)
theorem Pl{M:Model}{A:Around}{E:Value->Shared->Prop}{i:Nat}{x:Str}{v:V}{u:Value}{Q:Unit->Shared->Prop}(I:Inv X AA σ H s)(hN:X.N.Nodup)(hi:X.N[i]?=some x)(hx:Loc X.env.scope x)(r:RelV v u)(h:∀s',Inv X AA (σ.set i (some v)) H s'->(∃a,Heap.SameBut a s.heap s'.heap/\(a=X.env.locals\/X.env.cells.lookup x=some a))->Q () s')(hf:X.fn x=true\/X.env.scope.names.lookup x=some .local:=by first|exact .inl rfl|exact .inr rfl|assumption):wpAny M A (storeName X.env x u) Q E s:=by
 obtain⟨m,hn,hl⟩:=id I.loc;have VY:(X.env.scope.kind == .class || (X.env.scope.kind == .module&&X.env.locals != X.env.globals))=false:=by rw[I.ok.kind];rfl
 have gT:i<σ.length:=by rw[I.len];exact(ZJ hi).1
 have bH:=I.bH;have tracked:∀{a:Addr} {h':Heap},(∃o,s.heap.get? a=some o/\H a=none)->Heap.SameBut a s.heap h'->KL X.prog X.w H h':=λ{a h'} ha hs b ob e=>by obtain⟨_,_,NF⟩:=ha;refine(I.CT b ob e).OJ (λc w' hc q=>(hs.2 c ?_).trans q) (λ_ q=>q) λ_ _ q=>q;rintro rfl;rcases hc with rfl|hc;(.rw[NF] at e;cases e);.rw[NF] at hc;cases hc
 rcases hx with hk|hk;.refine wpAny_storeName_local hk hn (λh' yW hs=>?_) VY;obtain⟨oL,_,_,yT,_⟩:=id hn;refine h _ ⟨I.ok,I.os,I.bare,⟨λb o e n hb hx=>?_,λb o e n hb hx=>?_,I.base.free,λb o e hx=>?_,I.base.NM,I.base.LF,I.base.NN⟩,⟨_,yW,λj y v' e1 e2 e3=>?_⟩,λy c e=>?_,I.free,I.HX,λp hp=>?_,tracked ⟨oL,yT,I.free⟩ hs,by simpa using I.len⟩ ⟨_,hs,.inl rfl⟩;(.exact(hs.2 b (BK (BO (AU e) I.ok.above))).trans (I.base.keep b o e n hb hx));(.obtain⟨sl,e1⟩:=I.base.slot b o e n hb hx;exact⟨sl,(hs.2 b (BK (BO (AU e) I.ok.above))).trans e1⟩);(.obtain⟨o',e1⟩:=I.base.there b o e hx;exact⟨o',(hs.2 b (BK (BO (AU e) I.ok.above))).trans e1⟩);(.by_cases hj:j=i;(.subst hj;rw[hi] at e1;cases e1;rw[List.getElem?_set_self gT] at e2;cases e2;exact⟨u,r,.inl ⟨hk,by simp⟩⟩);.rw[List.getElem?_set_ne (Ne.symm hj)] at e2;obtain⟨u',r',q⟩:=hl j y v' e1 e2 e3;refine⟨u',r',?_⟩;rcases q with⟨k,e⟩|⟨k,c,e,z⟩;(.refine .inl ⟨k,?_⟩;have:y≠x:=λe=>hj (U4 hN e1 (e▸hi));simp[this,e]);.exact .inr ⟨k,c,e,z.sameBut hs (bH y c e)⟩);(.obtain⟨w',z⟩:=I.cell y c e;exact⟨w',z.sameBut hs (bH y c e)⟩);.obtain⟨e,n,ne,nf,d⟩:=I.pin p hp;exact⟨(hs.2 p.1 ne).trans e,n,ne,nf,d⟩
 ·(have lZ:X.fn x=true:=by rcases hf with z|z;(.exact z);.rw[z] at hk;cases hk);obtain⟨c,hc⟩:=I.ok.has x (.inl hk);obtain⟨w',z⟩:=I.cell x c hc;refine wpAny_storeName_cell I.ok.kind hk hc z (λh' lu hs=>?_);obtain⟨oc,cq,pB⟩:=id z;refine h { s with heap:=h' } ⟨I.ok,I.os,I.bare,⟨λb o e n hb hx=>?_,λb o e n hb hx=>?_,I.base.free,λb o e hx=>?_,I.base.NM,I.base.LF,I.base.NN⟩,⟨m,hn.sameBut hs (Ne.symm (bH x c hc)),λj y v' e1 e2 e3=>?_⟩,λy c' e=>?_,I.free,I.HX,λp hp=>?_,tracked ⟨oc,cq,I.HX x c hc⟩ hs,by simpa using I.len⟩ ⟨c,hs,.inr hc⟩;(.exact(hs.2 b (BK (BO (AU e) (I.ok.YJ x c lZ hc)))).trans (I.base.keep b o e n hb hx));(.obtain⟨sl,e1⟩:=I.base.slot b o e n hb hx;exact⟨sl,(hs.2 b (BK (BO (AU e) (I.ok.YJ x c lZ hc)))).trans e1⟩);(.obtain⟨o',e1⟩:=I.base.there b o e hx;exact⟨o',(hs.2 b (BK (BO (AU e) (I.ok.YJ x c lZ hc)))).trans e1⟩);(.by_cases hj:j=i;(.subst hj;rw[hi] at e1;cases e1;rw[List.getElem?_set_self gT] at e2;cases e2;exact⟨u,r,.inr ⟨.inl hk,c,hc,lu⟩⟩);.rw[List.getElem?_set_ne (Ne.symm hj)] at e2;obtain⟨u',r',q⟩:=hl j y v' e1 e2 e3;refine⟨u',r',?_⟩;rcases q with q|⟨k,c',e,z'⟩;(.exact .inl q);.refine .inr ⟨k,c',e,z'.sameBut hs ?_⟩;rintro rfl;exact hj (U4 hN e1 (I.ok.inj _ _ _ e hc▸hi)));(.by_cases sC:c'=c;(.subst sC;exact⟨_,lu⟩);.obtain⟨w2,z2⟩:=I.cell y c' e;exact⟨w2,z2.sameBut hs sC⟩);.obtain⟨e,n,ne,nf,d⟩:=I.pin p hp;refine⟨(hs.2 p.1 ?_).trans e,n,ne,nf,d⟩;intro q;rw[q,cq] at e;have q':oc=p.2:=ZO e;exact d w' (by rw[<-q'];exact pB)
theorem Ub(I:Inv X AA σ H s)(hN:X.N.Nodup)(hi:X.N[i]?=some x)(hx:Loc X.env.scope x)(r:RelV v u)(h:∀s',Inv X AA (σ.set i (some v)) H s'->Q () s')(hf:X.fn x=true\/X.env.scope.names.lookup x=some .local:=by first|exact .inl rfl|exact .inr rfl|assumption):wpAny M A (storeName X.env x u) Q E s :=Pl I hN hi hx r (λs' I' _=>h s' I') hf
theorem Inv.TM(I:Inv X AA σ H s)(ho:s'.os=s.os)(u:Un (KI X.stack) ch H H' s.heap s'.heap)(CT:KL X.prog X.w H' s'.heap)(hg:AllBare s'.gens)(XB:∀b∈ch,(b∈X.ex\/X.GQ.heap.objs.size<=b)/\b≠X.env.locals/\(∀x c,X.env.cells.lookup x=some c->c≠b)/\∀p∈X.pn++AA,p.1≠b):Inv X AA σ H' s':=by obtain⟨h',g',d',t',o'⟩:=s';have e:o'=s.os:=ho;subst e;exact I.call (g':=g') (t':=t') (d':=d') u CT hg XB
end
abbrev XK:=Value->Option Addr->Hp->Prop
abbrev St:=List (Option V)
abbrev VK:=V->Hp->Prop
abbrev TE:=St->Hp->VK->Prop
abbrev TT:=St->Hp->(Bool->Hp->Prop)->Prop
abbrev TA:=St->Hp->(List V->Hp->Prop)->Prop
structure Ends where
 nx:St->Hp->Prop
 rt:VK
 bk:St->Hp->Prop:=λ_ _=>False
 ct:St->Hp->Prop:=λ_ _=>False
abbrev TS:=Ends->St->Hp->Prop
def EP(X:Cx)(AA:List (Addr×Obj))(σ:St)(Q:VK)(u:Value)(s':Shared):Prop:=∃v H',Inv X AA σ H' s'/\RelV v u/\Q v H'
def TP(X:Cx)(AA:List (Addr×Obj))(σ:St)(Q:Bool->Hp->Prop)(b:Bool)(s':Shared):Prop:=∃H',Inv X AA σ H' s'/\Q b H'
def AP(X:Cx)(AA:List (Addr×Obj))(σ:St)(Q:List V->Hp->Prop)(us:List Value)(s':Shared):Prop:=∃vs H',Inv X AA σ H' s'/\Vals vs us/\Q vs H'
def SP(X:Cx)(AA:List (Addr×Obj))(D:Ends)(f:Flow)(s':Shared):Prop :=
 match f with
 | .next=>∃EV H',Inv X AA EV H' s'/\D.nx EV H'
 | .brk=>∃EV H',Inv X AA EV H' s'/\D.bk EV H'
 | .cont=>∃EV H',Inv X AA EV H' s'/\D.ct EV H'
 | .ret u=>∃v EV H',Inv X AA EV H' s'/\RelV v u/\D.rt v H'
def PE(X:Cx)(e:Expr)(t:TE):Prop :=
 ∀(AA:List (Addr×Obj))(s:Shared)(σ:St)(H:Hp)(Q:VK),Inv X AA σ H s->t σ H Q->wpAny (model X.prog X.w) X.A (eval e X.env) (EP X AA σ Q) X.xe s
def PT(X:Cx)(e:Expr)(t:TT):Prop :=
 ∀(AA:List (Addr×Obj))(s:Shared)(σ:St)(H:Hp)(Q:Bool->Hp->Prop),Inv X AA σ H s->t σ H Q->wpAny (model X.prog X.w) X.A (isTrue e X.env (eval e X.env)) (TP X AA σ Q) X.xe s
def PW(X:Cx)(e:Expr)(t:TT):Prop :=
 ∀(whole:Sem Value)(AA:List (Addr×Obj))(s:Shared)(σ:St)(H:Hp)(Q:Bool->Hp->Prop),Inv X AA σ H s->t σ H Q->wpAny (model X.prog X.w) X.A (isTrue e X.env whole) (TP X AA σ Q) X.xe s
theorem bM(h:PW X e t):PT X e t:=h _
def PA(X:Cx)(es:List Expr)(t:TA):Prop :=
 ∀(pos:Pos)(AA:List (Addr×Obj))(s:Shared)(σ:St)(H:Hp)(Q:List V->Hp->Prop),Inv X AA σ H s->t σ H Q->wpAny (model X.prog X.w) X.A (spliced (backTo pos (starEach es X.env))) (AP X AA σ Q) X.xe s
def PS(X:Cx)(st:Stmt)(t:TS):Prop :=
 ∀(AA:List (Addr×Obj))(s:Shared)(σ:St)(H:Hp)(D:Ends),Inv X AA σ H s->t D σ H->wpAny (model X.prog X.w) X.A (exec st X.env) (SP X AA D) X.xe s
def N'(X:Cx)(st:List Stmt)(t:TS):Prop :=
 ∀(AA:List (Addr×Obj))(s:Shared)(σ:St)(H:Hp)(D:Ends),Inv X AA σ H s->t D σ H->wpAny (model X.prog X.w) X.A (execs st X.env) (SP X AA D) X.xe s
theorem DU(h:wpAny M A t Q E s)(hQ:∀a s,Q a s->Q' a s):wpAny M A t Q' E s:=DW h hQ λ_ _ x=>x
section
variable {X:Cx}
theorem bin{a b:Expr}{ta tb:TE}(ha:PE X a ta)(hb:PE X b tb){AA:List (Addr×Obj)}{s:Shared}{σ:St}{H:Hp}{R:V->V->Hp->Prop}(I:Inv X AA σ H s)(h:ta σ H λx H1=>tb σ H1 λy H2=>R x y H2){α:Type}{Q:α->Shared->Prop}{f:Value->Value->Sem α}(hf:∀v u s2 x y H2,Inv X AA σ H2 s2->RelV x v->RelV y u->R x y H2->wpAny (model X.prog X.w) X.A (f v u) Q X.xe s2) : wpAny (model X.prog X.w) X.A (eval a X.env) (λv DQ=>wpAny (model X.prog X.w) X.A (eval b X.env) (λu PK=>wpAny (model X.prog X.w) X.A (f v u) Q X.xe PK) X.xe DQ) X.xe s:=by refine DU (ha AA s σ H _ I h) ?_;rintro v s1 ⟨x,H1,I1,r1,q1⟩;refine DU (hb AA s1 σ H1 _ I1 q1) ?_;rintro u s2 ⟨y,H2,I2,r2,q2⟩;exact hf v u s2 x y H2 I2 r1 r2 q2
inductive Jiy(i:Nat)(σ:St)(H:Hp)(Q:VK):Prop
 | mk (v) (e0:σ[i]?=some (some v)) (e1:Q v H)
def B6(i:Nat):TE:=λσ H Q=>Jiy i σ H Q
def tC(v:V):TE:=λ_ H Q=>Q v H
theorem Jgk(hN:X.N[i]?=some x)(hv:m8 X.env.scope x)(hd:(x==("__debug__":Str))=false:=by decide)(T_:(x==("__classdict__":Str))=false:=by decide):PE X (.Name x pos) (B6 i):=by
 intro AA s σ H Q I h;obtain⟨v,e,h⟩:=h;obtain⟨m,hn,hl⟩:=I.loc;obtain⟨u,r,l⟩:=hl i x v hN e hv;have fin:EP X AA σ Q u s:=⟨v,H,I,r,h⟩;rcases l with⟨hk,hm⟩|⟨hk,c,hc,NG⟩;.exact wpAny_Name (wpAny_loadName_local I.ok.kind hk hn hm fin) hd
 .rcases hk with hk|hk;(.exact wpAny_Name (wpAny_loadName_cell I.ok.kind hk hc NG fin) hd);.exact wpAny_Name (wpAny_loadName_free I.ok.kind hk hc NG fin T_) hd
theorem Ah:PE X (.Constant (.int i) j pos) (tC (.int i)):=λ_ _ _ H _ I h=>wpAny_Constant_int ⟨.int i,H,I.tok _,⟨_,rfl⟩,h⟩
theorem Fg:PE X (.Constant (.bool b) j pos) (tC (.bl b)):=λ_ _ _ H _ I h=>Constant_bool ⟨.bl b,H,I,rfl,h⟩
theorem vO:PE X (.Constant .none j pos) (tC .EE):=λ_ _ _ H _ I h=>Constant_none ⟨.EE,H,I,rfl,h⟩
theorem Bk:PE X (.Constant (.str x) j pos) (tC (.str x)):=λ_ _ _ H _ I h=>Calls.Constant_str ⟨.str x,H,I.tok _,⟨_,rfl⟩,h⟩
def Gl(X:Cx)(x:Str):Prop:=X.env.kindOf x=some .globalImplicit
theorem Hu(I:Inv X AA σ H s)(hg:Gl X x)(hm:X.mg x=some u)(h:Q u s)(hd:(x==("__debug__":Str))=false:=by decide):wpAny (model X.prog X.w) X.A (eval (.Name x pos) X.env) Q E s :=Calls.Name_function_global I.ok.kind hg (Calls.loadGlobal_global (by rw[I.ok.glob];exact I.mod.glob.keeps I.bk) hm h) hd
theorem Sy(I:Inv X AA σ H s)(hg:Gl X x)(hm:X.mg x=none)(hv:bootBuiltins x=some u)(h:Q u s)(hn:x≠"__name__":=by decide)(hd:(x==("__debug__":Str))=false:=by decide):wpAny (model X.prog X.w) X.A (eval (.Name x pos) X.env) Q E s:=by obtain⟨mb,h1,h2⟩:=I.mod.blt;exact Calls.Name_function_global I.ok.kind hg (Calls.loadGlobal_builtin (by rw[I.ok.glob];exact I.mod.glob.keeps I.bk) hm (by rw[I.ok.blt];exact h1.keeps I.bk) ((h2 x hn).trans hv) h) hd
theorem Yo(hg:Gl X x)(hm:X.mg x=none)(hv:bootBuiltins x=some u)(r:RelV v u)(hn:x≠"__name__":=by decide)(hd:(x==("__debug__":Str))=false:=by decide):PE X (.Name x pos) (tC v) :=λ_ _ _ H _ I h=>Sy I hg hm hv ⟨v,H,I,r,h⟩ hn hd
def v_(ta tb:TE)(k:Int->Int->Hp->Prop):St->Hp->Prop:=λσ H=>ta σ H λx H1=>tb σ H1 λy H2=>∃i j,x=.int i/\y=.int j/\k i j H2
variable {a b:Expr}{ta tb:TE}{pos:Pos}
def PC(X:Cx)(op:CmpOp)(a b:Expr)(t:TE):Prop :=
 ∀(AA:List (Addr×Obj))(s:Shared)(σ:St)(H:Hp)(Q:VK),Inv X AA σ H s->t σ H Q ->
  wpAny (model X.prog X.w) X.A (eval a X.env) (λv DQ=>wpAny (model X.prog X.w) X.A (eval b X.env) (λu PK=>wpAny (model X.prog X.w) X.A (compareOp op v u) (EP X AA σ Q) X.xe PK) X.xe DQ) X.xe s
theorem U5(b:Expr)(h:op≠.In)(h2:op≠.NotIn):behindInMarks op b=false:=by
 have e1:(op==CmpOp.In)=false:=by cases op<;>first|rfl|exact absurd rfl h
 have e2:(op==CmpOp.NotIn)=false:=by cases op<;>first|rfl|exact absurd rfl h2
 cases b<;>simp[behindInMarks,e1,e2]
def V9(p:Int->Int->Bool)(ta tb:TE):TE:=λσ H Q=>v_ ta tb (λi j H2=>Q (.bl (p i j)) H2) σ H
abbrev tLt:TE->TE->TE:=V9 λi j=>decide (i<j)
abbrev tLe:TE->TE->TE:=V9 λi j=>decide (i<=j)
abbrev tGt:TE->TE->TE:=V9 λi j=>decide (j<i)
abbrev tGe:TE->TE->TE:=V9 λi j=>decide (j<=i)
abbrev Jjj:TE->TE->TE:=V9 λi j=>decide (i=j)
abbrev Jkz:TE->TE->TE:=V9 λi j=>!decide (i=j)
theorem Jgn{op:CmpOp}{p:Int->Int->Bool}(ha:PE X a ta)(hb:PE X b tb)(rule:∀(i j:Int) (t u:Tok) (Q:Value->Shared->Prop) (s:Shared),Q (.bool (p i j)) s->wpAny (model X.prog X.w) X.A (compareOp op (.int i t) (.int j u)) Q X.xe s):PC X op a b (V9 p ta tb):=by intro AA s σ H Q I h;refine bin ha hb I h λv u s2 x y H2 I2 rx ry q=>?_;obtain⟨i,j,rfl,rfl,q⟩:=q;obtain⟨t,rfl⟩:=rx;obtain⟨t',rfl⟩:=ry;exact rule i j t t' _ s2 ⟨.bl _,H2,I2,rfl,q⟩
theorem Jgo(ha:PE X a ta)(hb:PE X b tb):PC X .Eq a b (Jjj ta tb):=Jgn ha hb λ_ _ _ _ _ _ h=>eq_int (by rw[Bool.beq_eq_decide_eq];exact h)
def Jjh(ta:TE):TE:=λσ H Q=>ta σ H λx H1=>Q (.bl (decide (x=.EE))) H1
theorem RelV.WQ(r:RelV x v):(v==Value.none)=decide (x=.EE):=by grind [V,RelV]
theorem Jgm(ha:PE X a ta):PC X .Is a (.Constant .none j pos') (Jjh ta):=by intro AA s σ H Q I h;refine DU (ha AA s σ H _ I h) ?_;rintro v s1 ⟨x,H1,I1,r1,q1⟩;exact Constant_none (is_none_gen ⟨.bl _,H1,I1,by rw[r1.WQ];rfl,q1⟩)
inductive ItB  (x:V) (H1:Hp) (Q:Bool->Hp->Prop):Prop
 | mk (c) (e0:x=.bl c) (e1:Q c H1)
def tB(t:TE):TT:=λσ H Q=>t σ H λx H1=>ItB  x H1 Q
theorem Jgl(h:PC X op a b t)(h1:behindInMarks op b=false:=by first|exact U5 _ (by decide) (by decide)|rfl):PE X (.Compare a [op] [b] pos) t:=λAA s σ H Q I hw=>wpAny_Compare1 (h AA s σ H Q I hw) h1
theorem Dq(h:PC X op a b t)(h1:behindInMarks op b=false:=by first|exact U5 _ (by decide) (by decide)|rfl):PT X (.Compare a [op] [b] pos) (tB t):=by intro AA s σ H Q I hw;refine wpAny_isTrue_Compare1 (DU (h AA s σ H _ I hw) λv s1 h1=>DU h1 λu s2 h2=>DU h2 λc s3 ⟨x,H1,I1,r1,q1⟩=>?_) h1;obtain⟨d,rfl,q⟩:=q1;cases r1;exact OB ⟨H1,I1,q⟩
theorem Eu(h:PE X e t)(he:∀whole,isTrue e X.env whole=(do let v <-whole;standAt e.pos;holding [v] (truthy v)):=by intro _;rfl):PT X e (tB t):=by
 intro AA s σ H Q I hw
 refine isTrue_plain (DU (h AA s σ H _ I hw) λv s1 ⟨x,H1,I1,r1,q1⟩=>?_) (he _)
 obtain⟨d,rfl,q⟩:=q1
 cases r1
 exact OB ⟨H1,I1,q⟩
variable {tA i_:TT}{rest:List Expr}
def Jjm(t u:TT):TT:=λσ H Q=>t σ H λc H1=>if c=true then u σ H1 Q else Q false H1
def v7(t u:TT):TT:=λσ H Q=>t σ H λc H1=>if c=true then Q true H1 else u σ H1 Q
def Jjf(t:TT):TT:=λσ H Q=>t σ H λc H1=>Q (!c) H1
theorem Yl(ha:PT X a tA):PW X (.BoolOp .And [a] pos) tA:=by intro wh AA s σ H Q I h;refine isTrue_and (DU (ha AA s σ H Q I h) λc s1 e=>?_);cases c with | true=>exact isTrue_and_nil e | false=>exact e
theorem Ni(ha:PT X a tA):PW X (.BoolOp .Or [a] pos) tA:=by intro wh AA s σ H Q I h;refine isTrue_or (DU (ha AA s σ H Q I h) λc s1 e=>?_);cases c with | false=>exact isTrue_or_nil e | true=>exact e
theorem Wq(ha:PT X a tA)(hb:PW X (.BoolOp .And (b::rest) pos) i_):PW X (.BoolOp .And (a::b::rest) pos) (Jjm tA i_):=by intro wh AA s σ H Q I h;refine isTrue_and (DU (ha AA s σ H _ I h) ?_);rintro c s1 ⟨H1,I1,q1⟩;cases c with | true=>exact hb wh AA s1 σ H1 Q I1 q1 | false=>exact⟨H1,I1,q1⟩
theorem Ps(ha:PT X a tA)(hb:PW X (.BoolOp .Or (b::rest) pos) i_):PW X (.BoolOp .Or (a::b::rest) pos) (v7 tA i_):=by intro wh AA s σ H Q I h;refine isTrue_or (DU (ha AA s σ H _ I h) ?_);rintro c s1 ⟨H1,I1,q1⟩;cases c with | true=>exact⟨H1,I1,q1⟩ | false=>exact hb wh AA s1 σ H1 Q I1 q1
theorem Wr(ha:PT X a tA):PT X (.UnaryOp .Not a pos) (Jjf tA):=by intro AA s σ H Q I h;exact isTrue_not (ha AA s σ H (λc H1=>Q (!c) H1) I h)
def v8(t:TT)(ta tb:TE):TE:=λσ H Q=>t σ H λc H1=>if c=true then ta σ H1 Q else tb σ H1 Q
theorem Uv(hc:PT X c tA)(ha:PE X a ta)(hb:PE X b tb):PE X (.IfExp c a b pos) (v8 tA ta tb):=by intro AA s σ H Q I h;refine wpAny_IfExp (DU (hc AA s σ H _ I h) ?_);rintro d s1 ⟨H1,I1,q1⟩;cases d with | true=>exact ha AA s1 σ H1 Q I1 q1 | false=>exact hb AA s1 σ H1 Q I1 q1
end
def EC(K:W.Frag)(H:Hp)(a:Addr)(xs:List V):Prop :=
 Rd H a (.BI xs) \/
  ∃(o:Obj)(its:Array Value)(n:Nat),K.lookup a=some o/\o.cls=.type "list"/\o.dict=none/\o.data=.seq its n/\its.size<=sizeLine/\Vals xs its.toList
def CL(K:W.Frag)(H:Hp)(a:Addr)(xs:List V):Prop :=
 Rd H a (.BC xs) \/
  ∃(o:Obj)(its:Array Value)(n:Nat),K.lookup a=some o/\o.cls=.type "tuple"/\o.data=.seq its n/\its.size<=sizeLine/\Vals xs its.toList
def Jko:Value->Option V
 | .none=>some .EE
 | .bool b=>some (.bl b)
 | .int i _=>some (.int i)
 | .str x _=>some (.str x)
 | .bytes b _=>some (.TB b)
 | .float b _=>some (.bD b)
 | .ref a=>some (.ref a)
 | .type n=>some (.ty n)
 | _=>none
theorem RelV.abs(r:RelV x u):Jko u=some x:=by cases x with | EE=>cases r;rfl | bl _=>cases r;rfl | int _=>obtain⟨t,rfl⟩:=r;rfl | str _=>obtain⟨t,rfl⟩:=r;rfl | TB _=>obtain⟨t,rfl⟩:=r;rfl | bD _=>obtain⟨t,rfl⟩:=r;rfl | ref _=>cases r;rfl | ty _=>cases r;rfl
theorem RelV.inj(r:RelV x u)(q:RelV y u):x=y:=ZO (r.abs.symm.trans q.abs)
theorem Vals.inj:∀{xs ys:List V} {us:List Value},Vals xs us->Vals ys us->xs=ys
 | _,_,_,.nil,.nil=>rfl
 | _,_,_,.cons r t,.cons r' t'=>by rw[r.inj r',Vals.inj t t']
section
variable {X:Cx}{AA:List (Addr×Obj)}{σ:St}{H:Hp}{s:Shared}{a:Addr}{xs ys:List V}
theorem EC.of{K:W.Frag}(h:H a=some (.BI xs)):EC K H a xs:=.inl (.inl h)
theorem CL.of{K:W.Frag}(h:H a=some (.BC xs)):CL K H a xs:=.inl (.inl h)
theorem Inv.list(I:Inv X AA σ H s)(h:EC X.K H a xs):∃its:List Value,Vals xs its/\PlainL s.heap a its.toArray/\xs.length<=sizeLine:=by
 rcases h with h|⟨o,its,n,hk,hc,hd,hs,hz,r⟩;.obtain⟨z,its,n,r,e⟩:=h.ok I.CT;exact⟨its,r,⟨_,n,e,rfl,rfl,rfl⟩,z⟩
 .refine⟨its.toList,r,⟨o,n,I.LX a o hk,hc,hd,by simpa using hs⟩,?_⟩;have e:=r.length;simp only[CF] at e;lia
theorem Inv.tuple(I:Inv X AA σ H s)(h:CL X.K H a xs):∃its:List Value,Vals xs its/\IsTup s.heap a its.toArray/\xs.length<=sizeLine:=by
 rcases h with h|⟨o,its,n,hk,hc,hs,hz,r⟩;.obtain⟨z,its,r,p⟩:=h.ok I.CT;exact⟨its,r,p,z⟩
 .refine⟨its.toList,r,⟨o,I.LX a o hk,hc,n,by simpa using hs⟩,?_⟩;have e:=r.length;simp only[CF] at e;lia
theorem Inv.WR(I:Inv X AA σ H s)(h:EC X.K H a xs)(h':EC X.K H a ys):xs=ys:=by
 obtain⟨its,r,⟨o,n,e,_,_,d⟩,_⟩:=I.list h;obtain⟨its',r',⟨o',n',e',_,_,d'⟩,_⟩:=I.list h';rw[e] at e';cases e';rw[d] at d';injection d' with d1 _;have:its=its':=by simpa using congrArg Array.toList d1
 subst this;exact r.inj r'
theorem Inv.UN(I:Inv X AA σ H s)(h:CL X.K H a xs)(h':CL X.K H a ys):xs=ys:=by
 obtain⟨its,r,⟨o,e,_,n,d⟩,_⟩:=I.tuple h;obtain⟨its',r',⟨o',e',_,n',d'⟩,_⟩:=I.tuple h';rw[e] at e';cases e';rw[d] at d';injection d' with d1 _;have:its=its':=by simpa using congrArg Array.toList d1
 subst this;exact r.inj r'
end
abbrev Cx.PJ(X:Cx)(E:Value->Shared->Prop):Cx:={ X with xe:=E }
abbrev Cx.d0(X:Cx):Cx:=X.PJ λ_ _=>False
theorem Cx.Ok.PJ{X:Cx}(ok:X.Ok)(E:Value->Shared->Prop):(X.PJ E).Ok :=⟨ok.mod,ok.kind,ok.glob,ok.blt,ok.above,ok.inj,ok.has,ok.YJ,ok.hd,ok.frames,ok.Y',ok.U',ok.bs,ok.UE,ok.PY,ok.P_,ok.KR,ok.VL⟩
theorem Cx.Ok.J_{X:Cx}{E:Value->Shared->Prop}(ok:(X.PJ E).Ok):X.Ok :=⟨ok.mod,ok.kind,ok.glob,ok.blt,ok.above,ok.inj,ok.has,ok.YJ,ok.hd,ok.frames,ok.Y',ok.U',ok.bs,ok.UE,ok.PY,ok.P_,ok.KR,ok.VL⟩
section
variable {X:Cx}{AA:List (Addr×Obj)}{σ:St}{H:Hp}{s:Shared}{E:Value->Shared->Prop}
theorem Inv.PJ(I:Inv X AA σ H s)(E:Value->Shared->Prop):Inv (X.PJ E) AA σ H s:=⟨I.ok.PJ E,I.os,I.bare,I.base,I.loc,I.cell,I.free,I.HX,I.pin,I.CT,I.len⟩
theorem Inv.J_(I:Inv (X.PJ E) AA σ H s):Inv X AA σ H s:=⟨I.ok.J_,I.os,I.bare,I.base,I.loc,I.cell,I.free,I.HX,I.pin,I.CT,I.len⟩
theorem SP.J_(h:SP (X.PJ E) AA D f s'):SP X AA D f s':=by cases f with | next=>obtain⟨EV,H',I,q⟩:=h;exact⟨EV,H',I.J_,q⟩ | brk=>obtain⟨EV,H',I,q⟩:=h;exact⟨EV,H',I.J_,q⟩ | cont=>obtain⟨EV,H',I,q⟩:=h;exact⟨EV,H',I.J_,q⟩ | ret u=>obtain⟨v,EV,H',I,r,q⟩:=h;exact⟨v,EV,H',I.J_,r,q⟩
theorem N'.d0{st:List Stmt}{t:TS}(h:N' X.d0 st t):N' X st t:=λAA s σ H D I hw =>DW (h AA s σ H D (I.PJ _) hw) (λ_ _ q=>q.J_) λ_ _ z=>False.elim z
end
section
variable {X:Cx}{st:Stmt}{rest:List Stmt}{t u:TS}{e:Expr}{te:TE}{pos:Pos}
def Jhx:TS:=λD σ H=>D.nx σ H
def Jjd(t u:TS):TS:=λD σ H=>t { D with nx:=u D } σ H
theorem A4:N' X [] Jhx:=λ_ _ σ H _ I h=>LJ ⟨σ,H,I,h⟩
theorem Ad(h1:PS X st t)(h2:N' X rest u):N' X (st::rest) (Jjd t u):=by intro AA s σ H D I h;refine wpAny_execs_cons (DU (h1 AA s σ H { D with nx:=u D } I h) λf s1 q=>?_);cases f with | next =>obtain⟨EV,H',I',q⟩:=q;exact h2 AA s1 EV H' D I' q | ret v=>exact q | brk=>exact q | cont=>exact q
theorem Ae(h1:PS X st t):N' X [st] t:=by intro AA s σ H D I h;refine wpAny_execs_cons (DU (h1 AA s σ H D I h) λf s1 q=>?_);cases f with | next=>exact LJ q | ret v=>exact q | brk=>exact q | cont=>exact q
theorem Inv.quiet(I:Inv X AA σ H s):interactive X.env=false:=by simp[interactive,I.ok.kind]
def Jhy(te:TE):TS:=λD σ H=>te σ H λ_ H1=>D.nx σ H1
theorem A5(he:PE X e te)(hs:swapsWith e none pos.line X.env=pure false:=by rfl):PS X (.Expr e pos) (Jhy te):=by intro AA s σ H D I h;exact wpAny_Expr_any (DU (he AA s σ H _ I h) λv s1 ⟨x,H1,I1,r1,q1⟩=>⟨σ,H1,I1,q1⟩) I.quiet hs
def Jje(te:TE):TS:=λD σ H=>te σ H D.rt
theorem Ar(he:PE X e te):PS X (.Return (some e) pos) (Jje te):=by intro AA s σ H D I h;exact wpAny_Return_some (DU (he AA s σ H _ I h) λv s1 ⟨x,H1,I1,r1,q1⟩=>⟨x,σ,H1,I1,r1,q1⟩)
def nQ(c:TT)(t u:TS):TS:=λD σ H=>c σ H λb H1=>if b=true then t D σ H1 else u D σ H1
theorem Bf(hc:PT X c tc)(ha:N' X a t)(hb:N' X b u):PS X (.If c a b pos) (nQ tc t u):=by intro AA s σ H D I h;refine wpAny_If (DU (hc AA s σ H _ I h) ?_);rintro d s1 ⟨H1,I1,q1⟩;cases d with | true=>exact ha AA s1 σ H1 D I1 q1 | false=>exact hb AA s1 σ H1 D I1 q1
end
abbrev TG:=V->St->Hp->(St->Hp->Prop)->Prop
abbrev bL:=List V->St->Hp->(St->Hp->Prop)->Prop
def PG(X:Cx)(target:Expr)(t:TG):Prop :=
 ∀(AA:List (Addr×Obj))(s:Shared)(σ:St)(H:Hp)(v:V)(u:Value)(Q:St->Hp->Prop),Inv X AA σ H s->RelV v u->t v σ H Q ->
  wpAny (model X.prog X.w) X.A (assign target X.env u) (λ_ s'=>∃EV H',Inv X AA EV H' s'/\Q EV H') X.xe s
def jl(X:Cx)(ts:List Expr)(t:bL):Prop :=
 ∀(AA:List (Addr×Obj))(s:Shared)(σ:St)(H:Hp)(vs:List V)(us:List Value)(Q:St->Hp->Prop),Inv X AA σ H s->Vals vs us->t vs σ H Q ->
  wpAny (model X.prog X.w) X.A (assignInOrder ((assignEach ts X.env).map (·.2)) us) (λ_ s'=>∃EV H',Inv X AA EV H' s'/\Q EV H') X.xe s
abbrev Jk2:=V->V->V->Hp->(Hp->Prop)->Prop
abbrev TIp:=V->V->Hp->VK->Prop
section
variable {X:Cx}{pos:Pos}
def uw(i:Nat):TG:=λv σ H Q=>Q (σ.set i (some v)) H
theorem Bl(hN:X.N.Nodup)(hi:X.N[i]?=some x)(hx:Loc X.env.scope x)(hf:X.fn x=true\/X.env.scope.names.lookup x=some .local:=by first|exact .inl rfl|exact .inr rfl|assumption):PG X (.Name x pos) (uw i):=by intro AA s σ H v u Q I r h;exact wpAny_assign_Name (Ub I hN hi hx r (λs' I'=>⟨_,H,I',h⟩) hf)
def Jkl:bL:=λvs σ H Q=>vs=[]/\Q σ H
inductive Jho(t:TG)(u:bL)(vs:List V)(σ:St)(H:Hp)(Q:St->Hp->Prop):Prop
 | mk (v r) (e0:vs=v::r) (e1:t v σ H λEV H'=>u r EV H' Q)
def Jio(t:TG)(u:bL):bL:=λvs σ H Q=>Jho t u vs σ H Q
theorem Ho:jl X [] Jkl:=by intro AA s σ H vs us Q I r h;obtain⟨e,h⟩:=h;subst e;cases r;exact assignInOrder_nil ⟨σ,H,I,h⟩
theorem Cc(h1:PG X e t)(h2:jl X es u)(hs:(assignEach (e::es) X.env).map (·.2)=assign e X.env::(assignEach es X.env).map (·.2):=by rfl):jl X (e::es) (Jio t u):=by intro AA s σ H vs us Q I r h;obtain⟨v,vr,e1,h⟩:=h;subst e1;cases r with | cons r rr =>rw[hs];refine assignInOrder_cons (DU (h1 AA s σ H _ _ _ I r h) ?_);rintro _ s1 ⟨SS,H1,I1,q1⟩;exact h2 AA s1 SS H1 _ _ Q I1 rr q1
inductive Ji8(K:W.Frag)(n:Nat)(t:bL)(v:V)(σ:St)(H:Hp)(Q:St->Hp->Prop):Prop
 | mk (a xs) (e0:v=.ref a) (e1:CL K H a xs) (e2:xs.length=n) (e3:t xs σ H Q)
def Jkk(K:W.Frag)(n:Nat)(t:bL):TG:=λv σ H Q=>Ji8 K n t v σ H Q
theorem Kz(hc:X.calm=true)(h:jl X es t)(hn:(assignEach es X.env).length=n:=by rfl)(lJ:(assignEach es X.env).findIdx? (·.1)=none:=by rfl):PG X (.Tuple es k pos) (Jkk X.K n t):=by intro AA s σ H v u Q I r hw;obtain⟨a,xs,e1,hq,hl,hw⟩:=hw;subst e1;cases r;obtain⟨its,rv,ht,hz⟩:=I.tuple hq;refine assign_Tuple_tuple (I.ok.hd hc) ht (by simp[hn,<-hl,rv.length]) lJ λh' hx=>?_;have I1:Inv X AA σ H { s with heap:=h' }:=I.kept (t':=s.toks) λb o e=>hx b o (BK (AU e)) e;exact h AA _ σ H xs _ Q I1 (by simpa using rv) hw
def uq(te:TE)(g:TG):TS:=λD σ H=>te σ H λx H1=>g x σ H1 D.nx
theorem Jgj(he:PE X e te)(hg:PG X tg g)(hs:swapsWithSole [tg] e pos.line X.env=pure false:=by rfl)(hw:swappedStores [tg] e X.env=pure none:=by rfl)(h1:(assignEach [tg] X.env).map (·.2)=[assign tg X.env]:=by rfl):PS X (.Assign [tg] e pos) (uq te g):=by intro AA s σ H D I h;refine wpAny_Assign_stores (DU (he AA s σ H _ I h) ?_) hs hw;rintro v s1 ⟨x,H1,I1,r1,q1⟩;rw[h1];exact DU (hg AA s1 σ H1 x v _ I1 r1 q1) λ_ s2 q=>q
theorem Aw(hN:X.N.Nodup)(hi:X.N[i]?=some x)(hx:Loc X.env.scope x)(he:PE X e te)(hs:swapsWith e (some (.Name x pos')) pos.line X.env=pure false:=by rfl)(hf:X.fn x=true\/X.env.scope.names.lookup x=some .local:=by first|exact .inl rfl|exact .inr rfl|assumption) : PS X (.Assign [.Name x pos'] e pos) (uq te (uw i)):=by intro AA s σ H D I h;refine wpAny_Assign_Name (DU (he AA s σ H _ I h) ?_) hs;rintro v s1 ⟨y,H1,I1,r1,q1⟩;exact Ub I1 hN hi hx r1 (λs2 I2=>⟨_,H1,I2,q1⟩) hf
def Jf6(c:TT)(tb:TS):TS:=λD σ H=>∃W:Nat->St->Hp->Prop,(∃m,W m σ H)/\∀m σ H,W m σ H ->
 c σ H λb H1=>if b=true then ∃N:St->Hp->Prop,(∀EV H',N EV H'->∃m',m'<m/\W m' EV H')/\tb { D with nx:=N,ct:=N,bk:=D.nx } σ H1 else D.nx σ H1
theorem Ut(hp:PassesOwn (model X.prog X.w) X.A X.env X.xe)(hc:PT X c tc)(hb:N' X body tb):PS X (.While c body [] pos) (Jf6 tc tb):=by intro AA s σ H D I h;obtain⟨W,⟨m0,w0⟩,turn⟩:=h;refine wpAny_While (codeAny_whileLoop (λn s'=>∃EV H',Inv X AA EV H' s'/\W n EV H') ?_ m0 ⟨σ,H,I,w0⟩);rintro n s1 ⟨SS,H1,I1,w1⟩;refine G_ hp (DU (hc AA s1 SS H1 _ I1 (turn n SS H1 w1)) ?_);rintro b s2 ⟨H2,I2,q2⟩;cases b with | true =>obtain⟨N,hN,q2⟩:=q2;rw[AE rfl];refine G_ hp (DU (hb AA s2 SS H2 _ I2 q2) λf s3 q3=>?_);(cases f with | next =>obtain⟨VC,H3,I3,n3⟩:=q3;obtain⟨m',hm,w3⟩:=hN VC H3 n3;exact⟨m',hm,VC,H3,I3,w3⟩ | cont =>obtain⟨VC,H3,I3,n3⟩:=q3;obtain⟨m',hm,w3⟩:=hN VC H3 n3;exact⟨m',hm,VC,H3,I3,w3⟩ | brk=>exact q3 | ret v=>exact q3) | false =>rw[AB AL];exact LJ ⟨SS,H2,I2,q2⟩
end
structure It where
 go:Nat->Hp->Prop
 SU:Nat->Hp->V->Hp->Prop
 stop:Nat->Hp->Prop
def Pg(X:Cx)(AA:List (Addr×Obj))(H:Hp)(b:Addr):Prop :=
 H b=none/\b≠X.env.locals/\b∉X.fs/\(b∈X.ex\/X.GQ.heap.objs.size<=b)/\(∀x c,X.env.cells.lookup x=some c->c≠b)/\∀p∈X.pn++AA,p.1≠b
theorem Inv.UM(I:Inv X AA σ H s)(hb:s.heap.objs.size<=b)(hn:H' b=none):Pg X AA H' b:=by
 refine⟨hn,EN (BO I.lt hb),I.oX hb,.inr (BE I.sz hb),λx c e z=>?_,λp hp z=>?_⟩;.obtain⟨v,q⟩:=I.cell x c e;exact absurd (BO q.lt (by rw[z];exact hb)) (C_ _)
 .exact absurd (BO (AU (I.pin p hp).1) (by rw[z];exact hb)) (C_ _)
structure Turn(P:Program)(w:World)(K:W.Frag)(tg:Expr)(J:It)(fp:List Addr)(it:Addr)(tn:Nat->Heap->Prop):Prop where
 mem:it∈fp
 obj:∀i h,tn i h->∀b∈fp,∃o,h.get? b=some o/\∀v,o.data≠.cell v
 keep:∀i h h',tn i h->(∀b∈fp,∀o,h.get? b=some o->h'.get? b=some o)->tn i h'
 item:∀(X:Cx),X.prog=P->X.w=w->X.K=K->X.calm=true->∀(i:Nat)(AA:List (Addr×Obj))(s:Shared)(σ:St)(H:Hp)(E:Value->Shared->Prop),Inv X AA σ H s->(∀b∈fp,Pg X AA H b)->tn i s.heap->J.go i H ->
  wpAny (model P w) X.A (pyNext (.ref it)) (λr s1=>∃u,r=some u /\
   wpAny (model P w) X.A (letOwnedTupleGo tg (.ref it) u) (λ_ s2=>∃x H',Inv X AA σ H' s2/\RelV x u/\J.SU i H x H'/\tn (i+1) s2.heap/\∀b∈fp,H' b=none) E s1) E s
 done:∀(X:Cx),X.prog=P->X.w=w->X.K=K->X.calm=true->∀(i:Nat)(AA:List (Addr×Obj))(s:Shared)(σ:St)(H:Hp)(E:Value->Shared->Prop),Inv X AA σ H s->(∀b∈fp,Pg X AA H b)->tn i s.heap->J.stop i H ->
  wpAny (model P w) X.A (pyNext (.ref it)) (λr s1=>r=none/\Inv X AA σ H s1) E s
 self:∀(A:Around)(i:Nat)(s:Shared)(Q:Value->Shared->Prop)(E:Value->Shared->Prop),tn i s.heap->Q (.ref it) s->wpAny (model P w) A (pyIter (.ref it)) Q E s
abbrev TI:=St->Hp->(It->Hp->Prop)->Prop
def uV(X:Cx)(AA:List (Addr×Obj))(σ:St)(tg:Expr)(R:It->Hp->Prop)(kl:Value)(s2:Shared):Prop :=
 ∃(it:Addr)(fp:List Addr)(tn:Nat->Heap->Prop)(J:It)(H':Hp),kl=.ref it/\Inv X AA σ H' s2/\Turn X.prog X.w X.K tg J fp it tn/\tn 0 s2.heap/\(∀b∈fp,Pg X AA H' b)/\R J H'
def PI(X:Cx)(tg iter:Expr)(wi:TI):Prop :=
 ∀(AA:List (Addr×Obj))(s:Shared)(σ:St)(H:Hp)(R:It->Hp->Prop),Inv X AA σ H s->wi σ H R ->
  wpAny (model X.prog X.w) X.A (eval iter X.env) (λv s1=>wpAny (model X.prog X.w) X.A (pyIter v) (uV X AA σ tg R) X.xe s1) X.xe s
theorem Vo(ho:s.heap.get? it=some o)(hc:o.cls=.type n)(hd:o.data=.fields vs)(hn:["enumerate","zip","dict_itemiterator","dict_reverseitemiterator","odict_iterator","itertools.zip_longest","itertools.pairwise"].contains n=false)(hQ:Q () s):wpAny M A (letOwnedTupleGo tg (.ref it) u) Q E s:=by unfold letOwnedTupleGo;cases tg<;>first | exact ZS hQ | (cases u<;>first | exact ZS hQ | (refine ZR (wpAny_load ho ?_);rw[hc,hd];show wpAny M A (if(["enumerate","zip","dict_itemiterator","dict_reverseitemiterator","odict_iterator","itertools.zip_longest","itertools.pairwise"].contains n&&vs[0]?==some (rawInt _))=true then _ else _) Q E s;rw[AB (by intro h;rw[hn,Bool.false_and] at h;cases h)];exact ZS hQ))
def VR(K:W.Frag)(a:Addr):It :=
 ⟨λi H=>∃xs x,EC K H a xs/\xs[i]?=some x,λi H x H'=>H'=H/\∀xs,EC K H a xs->xs[i]?=some x,λi H=>∃xs,EC K H a xs/\xs.length<=i⟩
def VQ(K:W.Frag)(a:Addr):It :=
 ⟨λi H=>∃xs x,CL K H a xs/\xs[i]?=some x,λi H x H'=>H'=H/\∀xs,CL K H a xs->xs[i]?=some x,λi H=>∃xs,CL K H a xs/\xs.length<=i⟩
def YM(lo:Int)(n:Nat):It:=⟨λi _=>i<n,λi H x H'=>H'=H/\x=.int (lo+i),λi _=>n<=i⟩
theorem Zn{P:Program}{w:World}{K:W.Frag}{tg:Expr}(a it:Addr):Turn P w K tg (VR K a) [it] it (λi h=>h.IsListIter it a i) where
 mem:=by simp
 obj:=λi h st b hb=>by
  have e:b=it:=by simpa using hb
  subst e
  obtain⟨o,e,c,d⟩:=st
  exact⟨o,e,λv z=>by rw[d] at z;cases z⟩
 keep:=λi h h' st k=>st.at λo e=>k it (by simp) o e
 item:=by
  intro X hP hw hK hc i AA s σ H E I hf st hg
  subst hP hw hK
  obtain⟨xs,x,hq,hx⟩:=hg
  obtain⟨its,rv,p,hz⟩:=I.list hq
  obtain⟨u,hu,ru⟩:=rv.get hx
  obtain⟨f0,f1,f2,f3,f4,f5⟩:=hf it (by simp)
  refine wpAny_pyNext_list_item st p.isList (x:=u) (by simpa using hu) λh' OY sb=>?_
  have I1:Inv X AA σ H { s with heap:=h' }:=I.turned (t':=s.toks) (λb o hb e=>(sb.2 b hb).trans e) f0 f1 f3 f4 f5
  obtain⟨o,e,c,d⟩:=id OY
  exact⟨u,rfl,Vo (s:={ s with heap:=h' }) e c d (by decide) ⟨x,H,I1,ru,⟨rfl,λys hy=>by rw[I.WR hy hq];exact hx⟩,OY,λb hb=>(hf b hb).1⟩⟩
 done:=by
  intro X hP hw hK hc i AA s σ H E I hf st hg
  subst hP hw hK
  obtain⟨xs,hq,hx⟩:=hg
  obtain⟨its,rv,p,hz⟩:=I.list hq
  obtain⟨f0,f1,f2,f3,f4,f5⟩:=hf it (by simp)
  have hl:=rv.length
  exact wpAny_pyNext_list_end (I.ok.hd hc) st p.isList (by simp;lia) λh' eb=>⟨rfl,I.turned (t':=s.toks) (λb o hb e=>eb b o hb e) f0 f1 f3 f4 f5⟩
 self:=λ_ _ _ _ _ st h=>wpAny_pyIter_listiter st h
theorem V5{P:Program}{w:World}{K:W.Frag}{tg:Expr}(a it:Addr):Turn P w K tg (VQ K a) [it] it (λi h=>h.IsTupleIter it a i) where
 mem:=by simp
 obj:=λi h st b hb=>by
  have e:b=it:=by simpa using hb
  subst e
  obtain⟨o,e,c,d⟩:=st
  exact⟨o,e,λv z=>by rw[d] at z;cases z⟩
 keep:=λi h h' st k=>st.at λo e=>k it (by simp) o e
 item:=by
  intro X hP hw hK hc i AA s σ H E I hf st hg
  subst hP hw hK
  obtain⟨xs,x,hq,hx⟩:=hg
  obtain⟨its,rv,p,hz⟩:=I.tuple hq
  obtain⟨u,hu,ru⟩:=rv.get hx
  obtain⟨f0,f1,f2,f3,f4,f5⟩:=hf it (by simp)
  refine wpAny_pyNext_tuple_item st (show s.heap.IsTuple a its.toArray from p) (x:=u) (by simpa using hu) λh' OY sb=>?_
  have I1:Inv X AA σ H { s with heap:=h' }:=I.turned (t':=s.toks) (λb o hb e=>(sb.2 b hb).trans e) f0 f1 f3 f4 f5
  obtain⟨o,e,c,d⟩:=id OY
  exact⟨u,rfl,Vo (s:={ s with heap:=h' }) e c d (by decide) ⟨x,H,I1,ru,⟨rfl,λys hy=>by rw[I.UN hy hq];exact hx⟩,OY,λb hb=>(hf b hb).1⟩⟩
 done:=by
  intro X hP hw hK hc i AA s σ H E I hf st hg
  subst hP hw hK
  obtain⟨xs,hq,hx⟩:=hg
  obtain⟨its,rv,p,hz⟩:=I.tuple hq
  obtain⟨f0,f1,f2,f3,f4,f5⟩:=hf it (by simp)
  have hl:=rv.length
  exact wpAny_pyNext_tuple_end (I.ok.hd hc) st (show s.heap.IsTuple a its.toArray from p) (by simp;lia) λh' eb=>⟨rfl,I.turned (t':=s.toks) (λb o hb e=>eb b o hb e) f0 f1 f3 f4 f5⟩
 self:=λ_ _ _ _ _ st h=>wpAny_pyIter_tupleiter st h
theorem V6{P:Program}{w:World}{K:W.Frag}{tg:Expr}(it:Addr)(lo:Int)(n:Nat):Turn P w K tg (YM lo n) [it] it (λi h=>IsRangeIter h it (lo+(i:Nat)*1) ((n:Int)-(i:Nat)) 1) where
 mem:=by simp
 obj:=λi h st b hb=>by
  have e:b=it:=by simpa using hb
  subst e
  exact⟨_,st,λv z=>by
   have z':Data.fields _=Data.cell v:=z
   cases z'⟩
 keep:=λi h h' st k=>k it (by simp) _ st
 item:=by
  intro X hP hw hK hc i AA s σ H E I hf st hg
  subst hP hw hK
  obtain⟨f0,f1,f2,f3,f4,f5⟩:=hf it (by simp)
  have W:=Walks.range (prog:=X.prog) (w:=X.w) (I.ok.hd hc) it lo 1 n
  refine W.item i s _ _ hg st λv h' tk hv OY kk=>?_
  obtain⟨t,rfl⟩:=hv
  have I1:Inv X AA σ H { s with heap:=h',toks:=tk }:=I.turned (λb o hb e=>kk b o (by simpa using hb) e) f0 f1 f3 f4 f5
  refine⟨_,rfl,Vo (s:={ s with heap:=h',toks:=tk }) (n:="range_iterator") OY rfl rfl (by decide) ⟨.int (lo+i),H,I1,⟨t,?_⟩,⟨rfl,rfl⟩,OY,λb hb=>(hf b hb).1⟩⟩
  rw[Int.mul_one]
 done:=by
  intro X hP hw hK hc i AA s σ H E I hf st hg
  subst hP hw hK
  obtain⟨f0,f1,f2,f3,f4,f5⟩:=hf it (by simp)
  exact wpAny_pyNext_range_end (I.ok.hd hc) st (by have:n<=i:=hg;lia) λh' eb=>⟨rfl,I.turned (t':=s.toks) (λb o hb e=>eb b o hb e) f0 f1 f3 f4 f5⟩
 self:=λ_ _ _ _ _ st h=>wpAny_pyIter_rangeiter st h
section
variable {X:Cx}{tg:Expr}
def Jim(K:W.Frag)(tl:TE):TI:=λσ H R=>tl σ H λx H1=>∃a,x=.ref a/\(∃xs,EC K H1 a xs)/\R (VR K a) H1
def Jkg(K:W.Frag)(tl:TE):TI:=λσ H R=>tl σ H λx H1=>∃a,x=.ref a/\(∃xs,CL K H1 a xs)/\R (VQ K a) H1
theorem Dl{l:Expr}{tl:TE}(hl:PE X l tl):PI X tg l (Jim X.K tl):=by
 intro AA s σ H R I h;refine DU (hl AA s σ H _ I h) ?_;rintro v s1 ⟨x,H1,I1,r1,q1⟩;obtain⟨a,e,⟨xs,hq⟩,q⟩:=q1;subst e;cases r1;obtain⟨its,rv,p,hz⟩:=I1.list hq;refine wpAny_pyIter_list p.isList ?_;refine⟨s1.heap.objs.size,[s1.heap.objs.size],_,_,H1,rfl,I1.kept (t':=s1.toks) λb o e=>ZT _ e,Zn a _,⟨_,ZU _ rfl,rfl,rfl⟩,λb hb=>?_,q⟩;have e:b=s1.heap.objs.size:=by simpa using hb
 subst e;exact I1.UM (ZG _) (I1.CT.fresh (ZG _))
theorem Gk{l:Expr}{tl:TE}(hl:PE X l tl):PI X tg l (Jkg X.K tl):=by
 intro AA s σ H R I h;refine DU (hl AA s σ H _ I h) ?_;rintro v s1 ⟨x,H1,I1,r1,q1⟩;obtain⟨a,e,⟨xs,hq⟩,q⟩:=q1;subst e;cases r1;obtain⟨its,rv,p,hz⟩:=I1.tuple hq;refine wpAny_pyIter_tuple (show s1.heap.IsTuple a its.toArray from p) ?_;refine⟨s1.heap.objs.size,[s1.heap.objs.size],_,_,H1,rfl,I1.kept (t':=s1.toks) λb o e=>ZT _ e,V5 a _,⟨_,ZU _ rfl,rfl,rfl⟩,λb hb=>?_,q⟩;have e:b=s1.heap.objs.size:=by simpa using hb
 subst e;exact I1.UM (ZG _) (I1.CT.fresh (ZG _))
theorem Jbm{AA:List (Addr×Obj)}{σ:St}{H:Hp}{s:Shared}{R:It->Hp->Prop}{E:Value->Shared->Prop}{lo hi:Int}{t u v:Tok}{tk:Nat}(I:Inv X AA σ H s)(h1:-(2 ^ 62)<=lo)(h2:lo<2 ^ 62)(h3:-(2 ^ 62)<=hi)(h4:hi<2 ^ 62)(q:R (YM lo (hi-lo).toNat) H):wpAny (model X.prog X.w) X.A (pyIter (.ref s.heap.objs.size)) (uV X AA σ tg R) E { s with heap:=s.heap.push { cls:=.type "range",data:=.fields #[.int lo t,.int hi u,.int 1 v] },toks:=tk }:=by
 refine wpAny_pyIter_range (IsRange.new ..) (small_one h1 h2 h3 h4) ?_;have I1:Inv X AA σ H { s with heap:=s.heap.push { cls:=.type "range",data:=.fields #[.int lo t,.int hi u,.int 1 v] },toks:=tk }:=I.kept λb o e=>ZT _ e;refine⟨(s.heap.push { cls:=.type "range",data:=.fields #[.int lo t,.int hi u,.int 1 v] }).objs.size,[(s.heap.push { cls:=.type "range",data:=.fields #[.int lo t,.int hi u,.int 1 v] }).objs.size],_,_,H,rfl,I1.kept (t':=tk) λb o e=>ZT _ e,V6 _ lo (hi-lo).toNat,?_,λb hb=>?_,q⟩;·(have e1:lo+((0:Nat):Int)*1=lo:=by simp);(have e2:(((hi-lo).toNat:Nat):Int)-((0:Nat):Int)=Builtin.Range.rangeSize lo hi 1:=by rw[rangeSize_one];split<;>lia);show IsRangeIter _ _ (lo+((0:Nat):Int)*1) ((((hi-lo).toNat:Nat):Int)-((0:Nat):Int)) 1;rw[e1,e2];exact ZU _ rfl
 ·(have e:b=(s.heap.push { cls:=.type "range",data:=.fields #[.int lo t,.int hi u,.int 1 v] }).objs.size:=by simpa using hb);subst e;exact I1.UM (ZG _) (I1.CT.fresh (ZG _))
def Jil(ta:TA):TI:=λσ H R=>ta σ H λvs H1=>∃j:Int,vs=[.int j]/\-(2 ^ 62)<=j/\j<2 ^ 62/\R (YM 0 j.toNat) H1
theorem F2{a:Expr}{ta:TA}{p pos:Pos}(hg:Gl X "range")(hm:X.mg "range"=none)(ha:PA X [a] ta)(hs:starEach [a] X.env=[(false,eval a X.env)]:=by rfl):PI X tg (.Call (.Name "range" p) [a] [] pos) (Jil ta):=by intro AA s σ H R I h;refine Call_ (Sy I hg hm boot_range (PyProof.Rows.callWith_type1 (DU (ha pos AA s σ H _ I h) λus s1 ⟨vs,H1,I1,r1,q1⟩=>?_) hs rfl));obtain⟨j,e,q1,q2,q⟩:=q1;subst e;cases r1 with | cons r rr =>cases rr;obtain⟨t,rfl⟩:=r;exact call_range_1 (Jbm I1 (by lia) (by lia) q1 q2 (by simpa using q))
def Jji(wi:TI)(g:TG)(tb:TS):TS:=λD σ H=>wi σ H λJ H1=>∃W:Nat->Nat->St->Hp->Prop,(∃m,W 0 m σ H1)/\∀i m σ H,W i m σ H ->
 (J.stop i H/\D.nx σ H)\/(J.go i H/\∃N:St->Hp->Prop,(∀EV H',N EV H'->∃m',m'<m/\W (i+1) m' EV H')/\∀x H',J.SU i H x H'->g x σ H' λNV H2=>tb { D with nx:=N,ct:=N,bk:=D.nx } NV H2)
def Nk(fp:List Addr)(h:Heap):List (Addr×Obj):=fp.filterMap λb=>(h.get? b).map λo=>(b,o)
theorem Gm(hb:b∈fp)(e:h.get? b=some o):(b,o)∈Nk fp h:=IC.mpr ⟨b,hb,by rw[e];rfl⟩
theorem Z5(hp:p∈Nk fp h):p.1∈fp/\h.get? p.1=some p.2:=by obtain⟨b,hb,e⟩:=IC.mp hp;cases q:h.get? b with | none=>rw[q] at e;cases e | some o =>rw[q] at e;have e':(b,o)=p:=ZO e;subst e';exact⟨hb,q⟩
theorem Inv.pinned(I:Inv X AA σ H s)(hf:∀b∈fp,Pg X AA H b)(ho:∀b∈fp,∃o,s.heap.get? b=some o/\∀v,o.data≠.cell v):Inv X (AA++Nk fp s.heap) σ H s :=I.TU λp hp=>(ZI hp).elim (λz=>I.pin p (ZC _ z)) λz=>by obtain⟨hb,e⟩:=Z5 z;obtain⟨f0,f1,f2,_⟩:=hf p.1 hb;obtain⟨o,e',d⟩:=ho p.1 hb;rw[e] at e';cases e';exact⟨e,f0,f1,f2,d⟩
theorem Inv.KA(I:Inv X (AA++pl) σ H s):Inv X AA σ H s:=I.TU λp hp=>I.pin p (ZC _ (ZB _ hp))
theorem Dg(hp:PassesOwn (model X.prog X.w) X.A X.env X.xe)(hc:X.calm=true)(hi:PI X tg iter wi)(hg:PG X tg g)(hb:N' X body tb)(hs:∀x,foldedSetIterable iter X.env x=pure x:=by intro _;rfl):PS X (.For tg iter body [] pos) (Jji wi g tb):=by
 intro AA s σ H D I h;refine wpAny_For (DU (hi AA s σ H _ I h) λv s1 h1=>DU h1 λkl s2 h2=>?_) hs;obtain⟨it,fp,tn,J,H2,e,I2,T,ak,f2,W,⟨m0,w0⟩,turn⟩:=h2;subst e;have R_:∀{H':Hp},(∀b∈fp,H' b=none)->∀b∈fp,Pg X AA H' b:=λhn b hb=>⟨hn b hb,(f2 b hb).2⟩;refine codeAny_forLoop_any (λn s'=>∃i EV H',Inv X AA EV H' s'/\tn i s'.heap/\(∀b∈fp,H' b=none)/\W i n EV H') ?_ m0 ⟨0,σ,H2,I2,ak,λb hb=>(f2 b hb).1,w0⟩;rintro n s3 ⟨i,VC,H3,I3,cP,NY,w3⟩;rcases turn i n VC H3 w3 with⟨stop,qn⟩|⟨go,N,hN,step⟩;.refine G_ hp (DU (T.done X rfl rfl rfl hc i AA s3 VC H3 X.xe I3 (R_ NY) cP stop) ?_);rintro r s4 ⟨hr,I4⟩;subst hr;exact LJ ⟨VC,H3,I4,qn⟩
 .refine G_ hp (DU (T.item X rfl rfl rfl hc i AA s3 VC H3 X.xe I3 (R_ NY) cP go) ?_);rintro r s4 ⟨u,hr,h4⟩;subst hr;refine G_ hp (DU h4 ?_);rintro _ s5 ⟨x,H5,I5,r5,y5,ZQ,U_⟩;have I5':=I5.pinned (R_ U_) (T.obj _ _ ZQ);refine G_ hp (DU (hg _ s5 VC H5 x u _ I5' r5 (step x H5 y5)) ?_);rintro _ s6 ⟨vm,H6,I6,q6⟩;refine G_ hp (DU (hb _ s6 vm H6 _ I6 q6) λf s7 q7=>?_);(have again:∀{VB:St} {H7:Hp},Inv X (AA++Nk fp s5.heap) VB H7 s7->N VB H7->∃m,m<n/\∃i EV H',Inv X AA EV H' s7/\tn i s7.heap/\(∀b∈fp,H' b=none)/\W i m EV H':=λ{VB H7} I7 n7=>by obtain⟨m',hm,w7⟩:=hN VB H7 n7;refine⟨m',hm,i+1,VB,H7,I7.KA,T.keep _ _ _ ZQ λb hb o e=>(I7.pin (b,o) (ZC _ (ZC _ (Gm hb e)))).1,λb hb=>?_,w7⟩;obtain⟨o,e,d⟩:=T.obj _ _ ZQ b hb;exact(I7.pin (b,o) (ZC _ (ZC _ (Gm hb e)))).2.1);cases f with | next=>obtain⟨VB,H7,I7,n7⟩:=q7;exact again I7 n7 | cont=>obtain⟨VB,H7,I7,n7⟩:=q7;exact again I7 n7 | brk=>obtain⟨VB,H7,I7,q7⟩:=q7;exact⟨VB,H7,I7.KA,q7⟩ | ret v=>obtain⟨x7,VB,H7,I7,r7,q7⟩:=q7;exact⟨x7,VB,H7,I7.KA,r7,q7⟩
end
theorem Hf{K:W.Frag}{a:Addr}{xs:List V}{g:TG}{tb:TS}{D:Ends}{σ:St}{H:Hp}(Pv:Nat->St->Hp->Prop)(h0:Pv 0 σ H)(hl:∀i σ H,i<=xs.length->Pv i σ H->EC K H a xs)(hs:∀i x σ H,xs[i]?=some x->Pv i σ H->g x σ H λNV H2=>tb { D with nx:=Pv (i+1),ct:=Pv (i+1),bk:=D.nx } NV H2)(hd:∀σ H,Pv xs.length σ H->D.nx σ H) : ∃W:Nat->Nat->St->Hp->Prop,(∃m,W 0 m σ H)/\∀i m σ H,W i m σ H -> ((VR K a).stop i H/\D.nx σ H)\/((VR K a).go i H/\∃N:St->Hp->Prop,(∀EV H',N EV H'->∃m',m'<m/\W (i+1) m' EV H')/\∀x H',(VR K a).SU i H x H'->g x σ H' λNV H2=>tb { D with nx:=N,ct:=N,bk:=D.nx } NV H2):=by
 refine⟨λi m σ H=>m=xs.length-i/\i<=xs.length/\Pv i σ H,⟨xs.length,by simp,BF _,h0⟩,?_⟩;rintro i m σ H ⟨rfl,hi,p⟩;have q:=hl i σ H hi p;by_cases JL:i<xs.length;.refine .inr ⟨⟨xs,xs[i],q,by simp[JL]⟩,Pv (i+1),λEV H' p'=>⟨xs.length-(i+1),by lia,rfl,JL,p'⟩,λx H' y=>?_⟩;obtain⟨e,y⟩:=y;subst e;exact hs i x σ _ (y xs q) p
 ·(have e:i=xs.length:=by lia);subst e;exact .inl ⟨⟨xs,q,ZG _⟩,hd σ H p⟩
theorem Hv{K:W.Frag}{a:Addr}{xs:List V}{g:TG}{tb:TS}{D:Ends}{σ:St}{H:Hp}(Pv:Nat->St->Hp->Prop)(h0:Pv 0 σ H)(hl:∀i σ H,i<=xs.length->Pv i σ H->CL K H a xs)(hs:∀i x σ H,xs[i]?=some x->Pv i σ H->g x σ H λNV H2=>tb { D with nx:=Pv (i+1),ct:=Pv (i+1),bk:=D.nx } NV H2)(hd:∀σ H,Pv xs.length σ H->D.nx σ H) : ∃W:Nat->Nat->St->Hp->Prop,(∃m,W 0 m σ H)/\∀i m σ H,W i m σ H -> ((VQ K a).stop i H/\D.nx σ H)\/((VQ K a).go i H/\∃N:St->Hp->Prop,(∀EV H',N EV H'->∃m',m'<m/\W (i+1) m' EV H')/\∀x H',(VQ K a).SU i H x H'->g x σ H' λNV H2=>tb { D with nx:=N,ct:=N,bk:=D.nx } NV H2):=by
 refine⟨λi m σ H=>m=xs.length-i/\i<=xs.length/\Pv i σ H,⟨xs.length,by simp,BF _,h0⟩,?_⟩;rintro i m σ H ⟨rfl,hi,p⟩;have q:=hl i σ H hi p;by_cases JL:i<xs.length;.refine .inr ⟨⟨xs,xs[i],q,by simp[JL]⟩,Pv (i+1),λEV H' p'=>⟨xs.length-(i+1),by lia,rfl,JL,p'⟩,λx H' y=>?_⟩;obtain⟨e,y⟩:=y;subst e;exact hs i x σ _ (y xs q) p
 ·(have e:i=xs.length:=by lia);subst e;exact .inl ⟨⟨xs,q,ZG _⟩,hd σ H p⟩
theorem Lf{lo:Int}{n:Nat}{g:TG}{tb:TS}{D:Ends}{σ:St}{H:Hp}(Pv:Nat->St->Hp->Prop)(h0:Pv 0 σ H)(hs:∀i σ H,i<n->Pv i σ H->g (.int (lo+i)) σ H λNV H2=>tb { D with nx:=Pv (i+1),ct:=Pv (i+1),bk:=D.nx } NV H2)(hd:∀σ H,Pv n σ H->D.nx σ H) : ∃W:Nat->Nat->St->Hp->Prop,(∃m,W 0 m σ H)/\∀i m σ H,W i m σ H -> ((YM lo n).stop i H/\D.nx σ H)\/((YM lo n).go i H/\∃N:St->Hp->Prop,(∀EV H',N EV H'->∃m',m'<m/\W (i+1) m' EV H')/\∀x H',(YM lo n).SU i H x H'->g x σ H' λNV H2=>tb { D with nx:=N,ct:=N,bk:=D.nx } NV H2):=by
 refine⟨λi m σ H=>m=n-i/\i<=n/\Pv i σ H,⟨n,by simp,BF _,h0⟩,?_⟩;rintro i m σ H ⟨rfl,hi,p⟩;by_cases JL:i<n;.refine .inr ⟨JL,Pv (i+1),λEV H' p'=>⟨n-(i+1),by lia,rfl,JL,p'⟩,λx H' y=>?_⟩;obtain⟨e,y⟩:=y;subst e y;exact hs i σ _ JL p
 ·(have e:i=n:=by lia);subst e;exact .inl ⟨ZG _,hd σ H p⟩
abbrev R2:=V->V->Hp->VK->Prop
def PF(X:Cx)(f:Value->Value->Sem Value)(r:R2):Prop :=
 ∀(AA:List (Addr×Obj))(s:Shared)(σ:St)(H:Hp)(x y:V)(v u:Value)(Q:VK),Inv X AA σ H s->RelV x v->RelV y u->r x y H Q ->
  wpAny (model X.prog X.w) X.A (f v u) (EP X AA σ Q) X.xe s
def Fm(X:Cx)(f:Value)(r:List V->Hp->VK->Prop):Prop :=
 ∀(AA:List (Addr×Obj))(s:Shared)(σ:St)(H:Hp)(xs:List V)(us:List Value)(Q:VK),Inv X AA σ H s->Vals xs us->r xs H Q ->
  wpAny (model X.prog X.w) X.A (call f us) (EP X AA σ Q) X.xe s
def Jkp(X:Cx)(r:V->Hp->(Bool->Hp->Prop)->Prop):Prop :=
 ∀(AA:List (Addr×Obj))(s:Shared)(σ:St)(H:Hp)(x:V)(v:Value)(Q:Bool->Hp->Prop),Inv X AA σ H s->RelV x v->r x H Q ->
  wpAny (model X.prog X.w) X.A (truthy v) (TP X AA σ Q) X.xe s
def RR(r:R2)(ta tb:TE):TE:=λσ H Q=>ta σ H λx H1=>tb σ H1 λy H2=>r x y H2 Q
inductive IrI(C:Int->Int->Prop)(g:Int->Int->V)(x:V)(y:V)(H:Hp)(Q:VK):Prop
 | mk (i j) (e0:x=.int i) (e1:y=.int j) (e2:C i j) (e3:Q (g i j) H)
def rI(C:Int->Int->Prop)(g:Int->Int->V):R2:=λx y H Q=>IrI C g x y H Q
inductive Jks(g:Int->Int->V)(x:V)(y:V)(H:Hp)(Q:VK):Prop
 | mk (i j) (e0:x=.int i) (e1:y=.int j) (e2:Q (g i j) H)
def XG(g:Int->Int->V):R2:=λx y H Q=>Jks g x y H Q
section
variable {X:Cx}{a b c:Expr}{ta tb tc:TE}{pos:Pos}
theorem nD(ha:PE X a ta)(hb:PE X b tb){AA:List (Addr×Obj)}{s:Shared}{σ:St}{H:Hp}{R:V->V->Hp->Prop}(I:Inv X AA σ H s)(h:ta σ H λx H1=>tb σ H1 λy H2=>R x y H2){Q:Value->Shared->Prop}{f:Value->Value->Sem Value}(hf:∀v u s2 x y H2,Inv X AA σ H2 s2->RelV x v->RelV y u->R x y H2->wpAny (model X.prog X.w) X.A (f v u) Q X.xe s2) : wpAny (model X.prog X.w) X.A (eval a X.env) (λv DQ=>wpAny (model X.prog X.w) X.A (eval b X.env) (λu PK=>wpAny (model X.prog X.w) X.A (f v u) Q X.xe PK) X.xe DQ) X.xe s:=by refine DU (ha AA s σ H _ I h) ?_;rintro v s1 ⟨x,H1,I1,r1,q1⟩;refine DU (hb AA s1 σ H1 _ I1 q1) ?_;rintro u s2 ⟨y,H2,I2,r2,q2⟩;exact hf v u s2 x y H2 I2 r1 r2 q2
theorem Be{op:Operator}{r:R2}(ho:PF X (binaryOp op) r)(ha:PE X a ta)(hb:PE X b tb):PE X (.BinOp a op b pos) (RR r ta tb):=by intro AA s σ H Q I h;exact wpAny_BinOp (nD ha hb I h λv u s2 x y H2 I2 rx ry q=>ho AA s2 σ H2 x y v u Q I2 rx ry q)
theorem jF{f:Value->Value->Sem Value}{C:Int->Int->Prop}{g:Int->Int->Int}(rule:∀(i j:Int) (t u:Tok) (s:Shared) (Q:Value->Shared->Prop) (E:Value->Shared->Prop),C i j->Q (.int (g i j) s.toks) { s with toks:=s.toks+1 }->wpAny (model X.prog X.w) X.A (f (.int i t) (.int j u)) Q E s) : PF X f (rI C λi j=>.int (g i j)):=by intro AA s σ H x y v u Q I rx ry h;obtain⟨i,j,rfl,rfl,hc,q⟩:=h;obtain⟨t,rfl⟩:=rx;obtain⟨t',rfl⟩:=ry;exact rule i j t t' s _ _ hc ⟨.int (g i j),H,I.tok _,⟨_,rfl⟩,q⟩
theorem uf{f:Value->Value->Sem Value}{g:Int->Int->Int}(rule:∀(i j:Int) (t u:Tok) (s:Shared) (Q:Value->Shared->Prop) (E:Value->Shared->Prop),Q (.int (g i j) s.toks) { s with toks:=s.toks+1 }->wpAny (model X.prog X.w) X.A (f (.int i t) (.int j u)) Q E s) : PF X f (XG λi j=>.int (g i j)):=by intro AA s σ H x y v u Q I rx ry h;obtain⟨i,j,rfl,rfl,q⟩:=h;obtain⟨t,rfl⟩:=rx;obtain⟨t',rfl⟩:=ry;exact rule i j t t' s _ _ ⟨.int (g i j),H,I.tok _,⟨_,rfl⟩,q⟩
theorem nG{f:Value->Value->Sem Value}{g:Int->Int->Bool}(rule:∀(i j:Int) (t u:Tok) (s:Shared) (Q:Value->Shared->Prop) (E:Value->Shared->Prop),Q (.bool (g i j)) s->wpAny (model X.prog X.w) X.A (f (.int i t) (.int j u)) Q E s) : PF X f (XG λi j=>.bl (g i j)):=by intro AA s σ H x y v u Q I rx ry h;obtain⟨i,j,rfl,rfl,q⟩:=h;obtain⟨t,rfl⟩:=rx;obtain⟨t',rfl⟩:=ry;exact rule i j t t' s _ _ ⟨.bl (g i j),H,I,rfl,q⟩
def Jkv(i j:Int):Prop:=0<j/\j<1073741824
def Jku(i j:Int):Prop:=0<=j/\j<=1000000/\i.natAbs<2 ^ 64
def cE(i j:Int):Prop:=(-(2 ^ 64)<i/\i<2 ^ 64)\/(-(2 ^ 64)<j/\j<2 ^ 64)
theorem cE.ok(h:cE i j):IntMulOk i j:=by
 rcases h with⟨h1,h2⟩|⟨h1,h2⟩;.exact .of_left (intBits_le_64 h1 h2)
 .exact .of_right (intBits_le_64 h1 h2)
theorem Fc:PF X (binaryOp .Add) (XG λi j=>.int (i+j)):=uf λ_ _ _ _ _ _ _ q=>add_int q
theorem R7:PF X (binaryOp .Sub) (XG λi j=>.int (i-j)):=uf λ_ _ _ _ _ _ _ q=>sub_int q
theorem Fo:PF X (binaryOp .Mult) (rI cE λi j=>.int (i*j)):=jF λ_ _ _ _ _ _ _ hc q=>mul_int q hc.ok
theorem Fh:PF X (binaryOp .FloorDiv) (rI Jkv λi j=>.int (i / j)):=jF λi j _ _ _ _ _ hc q=>by have h1:(0:Int)<j:=hc.1;have h2:j<1073741824:=hc.2;exact floordiv_int (by lia) (by rw[Int.fdiv_eq_ediv_of_nonneg i (by lia)];exact q) (.inl (PyProof.noPylong_small (by lia)))
theorem C1:PF X (binaryOp .Mod) (rI (λ_ j=>0<j) λi j=>.int (i % j)):=jF λi j _ _ _ _ _ hc q=>by have h1:(0:Int)<j:=hc;exact mod_int' (by lia) (by rw[Int.fmod_eq_emod_of_nonneg i (by lia)];exact q)
theorem Jgp:PF X (binaryOp .Pow) (rI Jku λi j=>.int (i ^ j.toNat)):=jF λ_ _ _ _ _ _ _ hc q=>pow_int_small hc.1 hc.2.1 hc.2.2 q
end
def uo:V->V->Bool
 | .EE,.EE=>true|.EE,.int _=>true|.int _,.EE=>true|.EE,.bl _=>true|.bl _,.EE=>true|.EE,.str _=>true|.str _,.EE=>true
 | .int _,.int _=>true|.bl _,.bl _=>true|.str _,.str _=>true|.TB _,.TB _=>true
 | .int _,.str _=>true|.str _,.int _=>true|.bl _,.str _=>true|.str _,.bl _=>true
 | _,_=>false
def cV:R2:=λx y H Q=>uo x y=true/\Q (.bl (decide (x=y))) H
def wM:R2:=λx y H Q=>uo x y=true/\Q (.bl (!decide (x=y))) H
theorem Zc:decide (V.int i=V.int j)=(i==j):=by rw[OG];simp
theorem vD:decide (V.bl i=V.bl j)=(i==j):=by rw[OG];simp
theorem Zb:decide (V.str i=V.str j)=(i==j):=by rw[OG];simp
theorem Zd:decide (V.TB i=V.TB j)=(i.toList==j.toList):=by rw[OG];cases i;cases j;simp
section
variable {X:Cx}{a b c:Expr}{ta tb tc:TE}{pos:Pos}
theorem Bu(I:Inv X AA σ H s)(q:Q (.bl k) H)(e:k=k'):EP X AA σ Q (.bool k') s:=by subst e;exact⟨.bl k,H,I,rfl,q⟩
theorem Cy:PF X (compareOp .Eq) cV:=by intro AA s σ H x y v u Q I rx ry h;obtain⟨hs,q⟩:=h;cases x with | EE =>cases rx;(cases y with | EE=>cases ry;exact PySem.EqNone.eq_none_none (Bu I q (by simp)) | bl j=>cases ry;exact PySem.EqNone.eq_none_bool (Bu I q (by simp)) | int j=>obtain⟨t',rfl⟩:=ry;exact PySem.EqNone.eq_none_int (Bu I q (by simp)) | str j=>obtain⟨t',rfl⟩:=ry;exact PySem.EqNone.eq_none_str (Bu I q (by simp)) | _=>exact absurd (show false=true from hs) AL) | bl i =>cases rx;(cases y with | EE=>cases ry;exact PySem.EqNone.eq_bool_none (Bu I q (by simp)) | bl j=>cases ry;exact eq_bool (Bu I q vD) | str j=>obtain⟨t',rfl⟩:=ry;exact PySem.EqMixed.eq_bool_str (Bu I q (by simp)) | _=>exact absurd (show false=true from hs) AL) | int i =>obtain⟨t,rfl⟩:=rx;(cases y with | EE=>cases ry;exact PySem.EqNone.eq_int_none (Bu I q (by simp)) | int j=>obtain⟨t',rfl⟩:=ry;exact eq_int (Bu I q Zc) | str j=>obtain⟨t',rfl⟩:=ry;exact PySem.EqMixed.eq_int_str (Bu I q (by simp)) | _=>exact absurd (show false=true from hs) AL) | str i =>obtain⟨t,rfl⟩:=rx;(cases y with | EE=>cases ry;exact PySem.EqNone.eq_str_none (Bu I q (by simp)) | bl j=>cases ry;exact PySem.EqMixed.eq_str_bool (Bu I q (by simp)) | int j=>obtain⟨t',rfl⟩:=ry;exact PySem.EqMixed.eq_str_int (Bu I q (by simp)) | str j=>obtain⟨t',rfl⟩:=ry;exact eq_str (Bu I q Zb) | _=>exact absurd (show false=true from hs) AL) | TB i =>obtain⟨t,rfl⟩:=rx;(cases y with | TB j=>obtain⟨t',rfl⟩:=ry;exact W.eq_bytes (Bu I q Zd) | _=>exact absurd (show false=true from hs) AL) | _=>cases y<;>exact absurd (show false=true from hs) AL
theorem nY:PF X (compareOp .NotEq) wM:=by intro AA s σ H x y v u Q I rx ry h;obtain⟨hs,q⟩:=h;cases x with | EE =>cases rx;(cases y with | EE=>cases ry;exact PySem.EqNone.ne_none_none (Bu I q (by simp)) | bl j=>cases ry;exact PySem.EqNone.ne_none_bool (Bu I q (by simp)) | int j=>obtain⟨t',rfl⟩:=ry;exact PySem.EqNone.ne_none_int (Bu I q (by simp)) | str j=>obtain⟨t',rfl⟩:=ry;exact PySem.EqNone.ne_none_str (Bu I q (by simp)) | _=>exact absurd (show false=true from hs) AL) | bl i =>cases rx;(cases y with | EE=>cases ry;exact PySem.EqNone.ne_bool_none (Bu I q (by simp)) | bl j=>cases ry;exact ne_bool (Bu I q (congrArg not vD)) | str j=>obtain⟨t',rfl⟩:=ry;exact PySem.EqMixed.ne_bool_str (Bu I q (by simp)) | _=>exact absurd (show false=true from hs) AL) | int i =>obtain⟨t,rfl⟩:=rx;(cases y with | EE=>cases ry;exact PySem.EqNone.ne_int_none (Bu I q (by simp)) | int j=>obtain⟨t',rfl⟩:=ry;exact ne_int (Bu I q (congrArg not Zc)) | str j=>obtain⟨t',rfl⟩:=ry;exact PySem.EqMixed.ne_int_str (Bu I q (by simp)) | _=>exact absurd (show false=true from hs) AL) | str i =>obtain⟨t,rfl⟩:=rx;(cases y with | EE=>cases ry;exact PySem.EqNone.ne_str_none (Bu I q (by simp)) | bl j=>cases ry;exact PySem.EqMixed.ne_str_bool (Bu I q (by simp)) | int j=>obtain⟨t',rfl⟩:=ry;exact PySem.EqMixed.ne_str_int (Bu I q (by simp)) | str j=>obtain⟨t',rfl⟩:=ry;exact ne_str (Bu I q (congrArg not Zb)) | _=>exact absurd (show false=true from hs) AL) | TB i =>obtain⟨t,rfl⟩:=rx;(cases y with | TB j=>obtain⟨t',rfl⟩:=ry;exact W.ne_bytes (Bu I q (congrArg not Zd)) | _=>exact absurd (show false=true from hs) AL) | _=>cases y<;>exact absurd (show false=true from hs) AL
theorem Nn:PF X (compareOp .Lt) (XG λi j=>.bl (decide (i<j))):=nG λ_ _ _ _ _ _ _ q=>lt_int q
theorem Px:PF X (compareOp .Gt) (XG λi j=>.bl (decide (j<i))):=nG λ_ _ _ _ _ _ _ q=>gt_int q
theorem Jib:PF X (compareOp .GtE) (XG λi j=>.bl (decide (j<=i))):=nG λ_ _ _ _ _ _ _ q=>ge_int q
theorem A6(b:Expr)(h:op≠.In:=by decide)(h2:op≠.NotIn:=by decide):behindInMarks op b=false:=by
 have e1:(op==CmpOp.In)=false:=by cases op<;>first|rfl|exact absurd rfl h
 have e2:(op==CmpOp.NotIn)=false:=by cases op<;>first|rfl|exact absurd rfl h2
 cases b<;>simp[behindInMarks,e1,e2]
theorem Jz{op:CmpOp}{r:R2}(ho:PF X (compareOp op) r)(ha:PE X a ta)(hb:PE X b tb)(hm:behindInMarks op b=false):PE X (.Compare a [op] [b] pos) (RR r ta tb):=by intro AA s σ H Q I h;exact wpAny_Compare1 (nD ha hb I h λv u s2 x y H2 I2 rx ry q=>ho AA s2 σ H2 x y v u Q I2 rx ry q) hm
inductive Jhk  (x:V) (H':Hp) (Q:Bool->Hp->Prop):Prop
 | mk (k) (e0:x=.bl k) (e1:Q k H')
def Lr(t:TE):TT:=λσ H Q=>t σ H λx H'=>Jhk  x H' Q
theorem A3(ho:PF X (compareOp op) r)(ha:PE X a ta)(hb:PE X b tb)(hm:behindInMarks op b=false):PT X (.Compare a [op] [b] pos) (Lr (RR r ta tb)):=by intro AA s σ H Q I h;refine wpAny_isTrue_Compare1 (DU (ha AA s σ H _ I h) λv s1 ⟨x,H1,I1,r1,q1⟩=>DU (hb AA s1 σ H1 _ I1 q1) λu s2 ⟨y,H2,I2,r2,q2⟩ =>DU (ho AA s2 σ H2 x y v u _ I2 r1 r2 q2) λc s3 ⟨z,H3,I3,r3,k,e,q3⟩=>?_) hm;subst e;cases r3;exact OB ⟨H3,I3,q3⟩
def uc(K:W.Frag)(x:V)(H:Hp)(k:Bool):Prop :=
 match x with
 | .EE=>k=false
 | .bl b=>k=b
 | .int i=>k=(i != 0)
 | .str y=>y.length<=sizeLine/\k=((y.length:Int) != 0)
 | .TB y=>y.size<=sizeLine/\k=((y.size:Int) != 0)
 | .ref p=>(∃xs,EC K H p xs/\k=!xs.isEmpty)\/(∃xs,CL K H p xs/\k=!xs.isEmpty)\/∃kvs,H p=some (.dK kvs)/\k=!kvs.isEmpty
 | _=>False
theorem Xf(r:KV kvs vs):(!vs.isEmpty)=!kvs.isEmpty:=by cases r<;>rfl
theorem Oe(r:Vals xs its):(!its.toArray.isEmpty)=!xs.isEmpty:=by cases r<;>simp
theorem Sv:(sizeLine:Nat)<2 ^ 63:=by rw[DL];decide
theorem Jf5:Jkp X (λx H Q=>∃k,uc X.K x H k/\Q k H):=by intro AA s σ H x v Q I rx h;obtain⟨k,e,q⟩:=h;have hl:=Sv;have hs:sizeLine=16777216:=DL;cases x with | EE =>cases rx;have e':k=false:=e;subst e';exact truthy_none ⟨H,I,q⟩ | bl b =>cases rx;have e':k=b:=e;subst e';exact OB ⟨H,I,q⟩ | int i =>obtain⟨t,rfl⟩:=rx;have e':k=(i != 0):=e;subst e';exact PySem.P.truthy_int ⟨H,I,q⟩ | str y =>obtain⟨t,rfl⟩:=rx;obtain⟨hy,e'⟩:y.length<=sizeLine/\k=((y.length:Int) != 0):=e;subst e';exact PySem.P.truthy_str (by lia) ⟨H,I.tok _,q⟩ | TB y =>obtain⟨t,rfl⟩:=rx;obtain⟨hy,e'⟩:y.size<=sizeLine/\k=((y.size:Int) != 0):=e;subst e';exact W.truthy_bytes (by lia) ⟨H,I.tok _,q⟩ | ref p =>cases rx;have e':(∃xs,EC X.K H p xs/\k=!xs.isEmpty)\/(∃xs,CL X.K H p xs/\k=!xs.isEmpty)\/∃kvs,H p=some (.dK kvs)/\k=!kvs.isEmpty:=e;rcases e' with⟨xs,hx,e'⟩|⟨xs,hx,e'⟩|⟨kvs,hx,e'⟩;(.subst e';obtain⟨its,r,pl,hz⟩:=I.list hx;have hlen:=r.length;exact wpAny_truthy_list pl.isList (by simp only[A_];lia) ⟨H,I.tok _,by rw[Oe r];exact q⟩);(.subst e';obtain⟨its,r,pl,hz⟩:=I.tuple hx;have hlen:=r.length;exact truthy_tuple pl (by simp only[A_];lia) ⟨H,I.tok _,by rw[Oe r];exact q⟩);.subst e';obtain⟨hz,hS,vs,r,m⟩:kvs.length<=sizeLine/\(p==sysModules)=false/\∃vs,KV kvs vs/\s.heap.DictOf (Bp X.prog X.w) p vs:=I.CT p _ hx;have hlen:kvs.length=vs.length:=Paired.length r;exact wpAny_truthy_dict hS m (by lia) ⟨H,I.tok _,by rw[Xf r];exact q⟩ | _=>exact(show False from e).elim
theorem Us(ha:PE X a ta)(he:∀whole,isTrue a X.env whole=(do let v <-whole;standAt a.pos;holding [v] (truthy v))) :
 PT X a (λσ H Q=>ta σ H λx H'=>∃k,uc X.K x H' k/\Q k H'):=by
 intro AA s σ H Q I h
 exact isTrue_plain (DU (ha AA s σ H _ I h) λv s1 ⟨x,H1,I1,r1,q1⟩=>Jf5 AA s1 σ H1 x v Q I1 r1 q1) (he _)
theorem vals1(r:Vals [x] us):∃u,us=[u]/\RelV x u:=by cases r with | cons r1 r2=>cases r2;exact⟨_,rfl,r1⟩
end
structure SK(h:Heap)(x dx C:Addr)(mA:Str->Option Value):Prop where
 obj:h.get? x=some (W.instObj C dx)
 ns:h.Ns1 dx mA
 ne:dx≠x
theorem Z6{h:Heap}{dx:Addr}{mA:Str->Option Value}(n:h.Ns1 dx mA):∃od,h.get? dx=some od/\∀name,W.lookIn name od=some (mA name):=by
 obtain⟨o,es,ep,ho,hd,hk,_,hm⟩:=n;refine⟨o,ho,λname=>?_⟩;have e:=hm name;unfold nsFind findBy at e;rw[<-Array.find?_toList] at e;unfold W.lookIn;rw[hd];dsimp only;split;.rename_i y q;rw[q] at e;exact congrArg some e
 .rename_i q;rw[q] at e;(have a:es.toList.any (·.refKey)=false:=by rw[List.any_eq_false];intro y hy;obtain⟨z,t,UL⟩:=hk y (Array.mem_toList_iff.mp hy);simp[DictEntry.refKey,UL]);(have a':¬es.toList.any (·.refKey)=true:=by rw[a];exact AL);rw[AB a'];exact congrArg some e
theorem SK.look(I:SK h x dx C mA):∃od,W.InstAt h x (W.instObj C dx) C (some od)/\∀name,W.lookIn name od=some (mA name) :=let⟨od,ho,hl⟩:=Z6 I.ns;⟨od,⟨I.obj,rfl,rfl,ho⟩,hl⟩
section
variable {prog:Program}{w:World}{A:Around}{E:Value->Shared->Prop}{s:Shared}{K:W.Frag}{x dx C f:Addr}{mA:Str->Option Value}{name:Str}{v:Value}
theorem Je4{expr:Bool}{Q:Value->Shared->Prop}(X:K.In s.heap)(I:SK s.heap x dx C mA)(hg:W.plainGet K C name=true)(hh:W.hasDictIn K C=true)(ha:W.findIn K (.ref C) name=some none)(hv:mA name=some v)(yG:W.handedIn v=true)(h:Q v { s with toks:=s.toks+1 }) : wpAny (model prog w) A (getAttr (.ref x) name expr) Q E s:=by obtain⟨od,J,hl⟩:=I.look;exact W.get_value X J (W.plainGet_of hg).1 (W.findObj_own hh ha rfl (by rw[hl,hv])) yG h
theorem Jcx{pl:Sem Bool}{Q:Value×List Value->Shared->Prop}(X:K.In s.heap)(I:SK s.heap x dx C mA)(hg:W.plainGet K C name=true)(hf:W.findIn K (.ref C) name=some (some (.ref f)))(ht:W.isFn K (.ref f)=true)(hv:mA name=none)(h:Q (.ref f,[.ref x]) s) : wpAny (model prog w) A (getMethod (.ref x) name pl) Q E s:=by obtain⟨od,J,hl⟩:=I.look;exact W.method_fn X J (W.plainGet_of hg).1 (W.plainGet_of hg).2 hf (KY.mp ht) (by show(W.lookIn name od).map (·.isSome)=some false;rw[hl,hv];rfl) h
theorem Jdy{ns:List Str}{Q:Unit->Shared->Prop}(X:K.In s.heap)(I:SK s.heap x dx C mA)(hs:W.findIn K (.ref C) "__setattr__"=some (some (.builtin "object.__setattr__")))(hp:W.plainOver K C=true)(ht:W.takerIn K C name=some none)(hh:W.hasDictIn K C=true)(hw:PySem.Within mA ns)(hsz:ns.length<=sizeLine)(h:∀h',SK h' x dx C (λy=>if y=name then some v else mA y)->Heap.SameBut dx s.heap h'->Q () { s with heap:=h',toks:=s.toks+2 }) : wpAny (model prog w) A (setAttr (.ref x) name v) Q E s:=by obtain⟨od,J,hl⟩:=I.look;refine W.set_plain X J hs (W.osa_open (s:={ s with toks:=s.toks+1 }) (r:=none) X J hp ht λb=>?_);obtain⟨cd,hc,QR⟩:=W.any_some hh;have hx:s.heap.get? x=some ⟨.ref C,some dx,.plain,#[]⟩:=I.obj;refine ZR (ZS (ZR (ZR (wpAny_loadPart hx (ZR (W.Looks.here (s:={ s with toks:=s.toks+1 }) (W.looks_clsIn X hc) ?_))))));rw[QR];refine ZS (a:=some dx) (ZR (ZS (ZR ?_)));refine wpAny_nsSet1 (s:={ s with toks:=s.toks+1 }) I.ns λh' aF jV=>?_;obtain⟨oD,esD,epD,yU,yg,yi⟩:=aF.count (PySem.Within.cons name v hw);refine ZR (wpAny_lookBehind yU (by rw[yg];exact pastItsLine_dict (BE yi (by rw[BJ];lia))) ?_);exact ZS (h _ ⟨(jV.2 _ (Ne.symm I.ne)).trans I.obj,aF,I.ne⟩ jV)
theorem Jcp{R:Result->Shared->Prop}{vs:List Value}{kw:List (Str×Value)}(X:K.In s.heap)(hm:W.makesIn K C=true)(hi:W.findIn K (.ref C) "__init__"=some (some (.ref f)))(hf:W.typeIn K (.ref f)=some (.type "function"))(h:codeAny (model prog w) (A.under (.builtin "type.__call__" ⟨.ref C::vs,kw⟩)) (.call (.ref f) ⟨.ref (s.heap.objs.size+1)::vs,kw⟩) (W.InitBack (s.heap.objs.size+1) R) { s with heap:=(s.heap.push W.emptyDict).push (W.instObj C s.heap.objs.size) }) : codeAny (model prog w) A (.call (.ref C) ⟨vs,kw⟩) R s:=by obtain⟨hh,g,d,t,os⟩:=s;exact W.make_core (W.makes_of X hm) (W.looks_findIn X hi) (λself=>W.bind_fn X self hf) (.inl rfl) h
end
def Aq(f:Str)(v:V):List (Str×V)->List (Str×V)
 | []=>[(f,v)]
 | (g,x)::r=>if g=f then(g,v)::r else(g,x)::Aq f v r
theorem A8(f g:Str)(v:V):∀fs:List (Str×V),(Aq f v fs).lookup g=if g=f then some v else fs.lookup g
 | []=>by show List.lookup g [(f,v)]=_;by_cases h:g=f;(.have hb:(g==f)=true:=KY.mpr h;simp only[List.lookup,hb,AE h]);.have hb:(g==f)=false:=DD.mpr h;simp only[List.lookup,hb,AB h]
 | (k,x)::r=>by have ih:=A8 f g v r;rw[show Aq f v ((k,x)::r)=(if k=f then(k,v)::r else(k,x)::Aq f v r) from rfl];by_cases hk:k=f;(.rw[AE hk];by_cases h:g=k;(.have hb:(g==k)=true:=KY.mpr h;simp only[List.lookup,hb,AE (h.trans hk)]);.have hb:(g==k)=false:=DD.mpr h;simp only[List.lookup,hb,AB (λe:g=f=>h (e.trans hk.symm))]);.rw[AB hk];by_cases h:g=k;(.have hb:(g==k)=true:=KY.mpr h;simp only[List.lookup,hb,AB (λe:g=f=>hk (h.symm.trans e))]);.have hb:(g==k)=false:=DD.mpr h;simp only[List.lookup,hb];exact ih
theorem K8(f:Str)(v:V):∀fs:List (Str×V),f∈(Aq f v fs).map (·.1)/\∀g,g∈fs.map (·.1)->g∈(Aq f v fs).map (·.1)
 | []=>⟨by simp[Aq],λg h=>by simp at h⟩
 | (k,x)::r=>by obtain⟨i1,i2⟩:=K8 f v r;rw[show Aq f v ((k,x)::r)=(if k=f then(k,v)::r else(k,x)::Aq f v r) from rfl];by_cases hk:k=f;(.rw[AE hk];subst hk;exact⟨by simp,λg h=>by simpa using h⟩);.rw[AB hk];refine⟨?_,λg h=>?_⟩;(.rw[AK];exact ZD _ i1);.rw[AK] at h ⊢;rcases ZM h with e|e;(.exact BZ.mpr (.inl e));.exact ZD _ (i2 g e)
theorem Ay(f:Str)(v:V):∀fs:List (Str×V),(Aq f v fs).length<=fs.length+1
 | []=>by simp[Aq]
 | (k,x)::r=>by have ih:=Ay f v r;rw[show Aq f v ((k,x)::r)=(if k=f then(k,v)::r else(k,x)::Aq f v r) from rfl];by_cases hk:k=f;(.rw[AE hk,BJ,BJ];lia);.rw[AB hk,BJ,BJ];lia
theorem jo(r:NQ (some v) o):∃u,o=some u/\RelV v u:=by cases o with | none=>exact(show False from r).elim | some u=>exact⟨u,rfl,r⟩
theorem Jl5(r:NQ none o):o=none:=by cases o with | none=>rfl | some u=>exact(show False from r).elim
theorem Jak(r:RelV v u):W.handedIn u=true:=by cases v with | EE=>cases (show u=Value.none from r);rfl | bl b=>cases (show u=Value.bool b from r);rfl | int i=>obtain⟨t,e⟩:=(show ∃t,u=Value.int i t from r);cases e;rfl | str x=>obtain⟨t,e⟩:=(show ∃t,u=Value.str x t from r);cases e;rfl | TB b=>obtain⟨t,e⟩:=(show ∃t,u=Value.bytes b t from r);cases e;rfl | bD b=>obtain⟨t,e⟩:=(show ∃t,u=Value.float b t from r);cases e;rfl | ref a=>cases (show u=Value.ref a from r);rfl | ty n=>cases (show u=Value.type n from r);rfl
section
theorem Mp(CT:KL P w H h)(e:H a=some (.ins C dx fs)):∃mA,SK h a dx C mA/\(∀f,NQ (fs.lookup f) (mA f))/\PySem.Within mA (fs.map (·.1))/\fs.length<=1000/\H dx=some (.own a):=by obtain⟨d,z,ne,ob,mA,n,r,q⟩:=(show CZ P w H h a (.ins C dx fs) from CT a _ e);exact⟨mA,⟨ob,n,ne⟩,r,q,z,d⟩
end
structure RV(K:W.Frag)(C:Addr):Prop where
 pg:W.plainGet K C Str.empty=true
 hd:W.hasDictIn K C=true
 po:W.plainOver K C=true
 sa:W.findIn K (.ref C) "__setattr__"=some (some (.builtin "object.__setattr__"))
theorem RV.get{K:W.Frag}{C:Addr}(c:RV K C)(f:Str):W.plainGet K C f=true:=c.pg
def DR(K:W.Frag)(C:Addr)(f:Str):Prop:=W.findIn K (.ref C) f=some none
theorem DR.iY{K:W.Frag}{C:Addr}{f:Str}(n:DR K C f):W.takerIn K C f=some none:=by unfold W.takerIn;rw[show W.findIn K (.ref C) f=some none from n];rfl
structure f_(K:W.Frag)(C:Addr)(m:Str)(f:Addr):Prop where
 at_:W.findIn K (.ref C) m=some (some (.ref f))
 fn:W.isFn K (.ref f)=true
 kp:W.keepIn K (.ref f)=true
section
theorem Oi(I:Inv X AA σ H s)(e:H a=some (.ins C dx fs))(c:RV X.K C)(n:DR X.K C f)(l:fs.lookup f=some v)(h:∀u s',Inv X AA σ H s'->RelV v u->Q u s'):wpAny (model X.prog X.w) A (getAttr (.ref a) f b) Q E s:=by obtain⟨mA,O,r,_,_,_⟩:=Mp I.CT e;obtain⟨u,hu,ru⟩:=jo (v:=v) (o:=mA f) (by rw[<-l];exact r f);exact Je4 I.LX O (c.get f) c.hd n hu (Jak ru) (h u _ (I.tok _) ru)
theorem Oh(I:Inv X AA σ H s)(e:H a=some (.ins C dx fs))(c:RV X.K C)(k:f_ X.K C m g)(l:fs.lookup m=none)(h:Q (.ref g,[.ref a]) s):wpAny (model X.prog X.w) A (getMethod (.ref a) m pl) Q E s:=by obtain⟨mA,O,r,_,_,_⟩:=Mp I.CT e;have hn:mA m=none:=Jl5 (by rw[<-l];exact r m);exact Jcx I.LX O (c.get m) k.at_ k.fn hn h
theorem Nb(I:Inv X AA σ H s)(e:H a=some (.ins C dx fs))(c:RV X.K C)(n:DR X.K C f)(hl:fs.length<1000)(ry:RelV y u)(h:∀s',Inv X AA σ (upd H a (.ins C dx (Aq f y fs))) s'->Q () s'):wpAny (model X.prog X.w) A (setAttr (.ref a) f u) Q E s:=by
 obtain⟨mA,O,r,wi,_,ho⟩:=Mp I.CT e;have hz:(fs.map (·.1)).length<=sizeLine:=by rw[ZA,DL];lia
 refine Jdy I.LX O c.sa c.po n.iY c.hd wi hz λh' O' sb=>h _ ?_;have hd:∃o,h'.get? dx=some o:=let⟨o,_,_,e',_⟩:=O'.ns;⟨o,e'⟩;refine I.write (x:=a) (e:=dx) (by rw[e];exact True.intro) (.inr ho) (λb q hb z=>(sb.2 b hb).trans z) hd ?_;refine⟨by rw[Ab O.ne];exact ho,?_,O.ne,O'.obj,_,O'.ns,λg=>?_,λg hg=>?_⟩;.have:=Ay f y fs;lia
 .show NQ ((Aq f y fs).lookup g) (if g=f then some u else mA g);rw[A8];by_cases q:g=f;(.rw[AE q,AE q];exact ry);.rw[AB q,AB q];exact r g
 .by_cases q:g=f;(.rw[q];exact(K8 f y fs).1);.refine(K8 f y fs).2 g (wi g λz=>hg ?_);show(if g=f then some u else mA g)=none;rw[AB q];exact z
theorem Inv.AY(I:Inv X AA σ H s):Inv X AA σ (upd (upd H s.heap.objs.size (.own (s.heap.objs.size+1))) (s.heap.objs.size+1) (.ins C s.heap.objs.size [])) { s with heap:=(s.heap.push W.emptyDict).push (W.instObj C s.heap.objs.size) }:=by
 have e1:(s.heap.push W.emptyDict).get? s.heap.objs.size=some W.emptyDict:=ZU s.heap rfl;have e2:((s.heap.push W.emptyDict).push (W.instObj C s.heap.objs.size)).get? (s.heap.objs.size+1)=some (W.instObj C s.heap.objs.size):=by have:=ZU (s.heap.push W.emptyDict) (o:=W.instObj C s.heap.objs.size) rfl;rwa [Heap.size_push] at this
 have e3:(s.heap.push W.emptyDict).Ns s.heap.objs.size (λ_=>none):=⟨W.emptyDict,#[],_,e1,rfl,(λe he=>absurd he (by simp)),λ_=>rfl⟩;have I1:=I.laid (a:=s.heap.objs.size) (o:=.own (s.heap.objs.size+1)) (h':=s.heap.push W.emptyDict) (t':=s.toks) (λb u q=>ZT _ q) (ZG _) ⟨_,e1⟩;refine I1.laid (a:=s.heap.objs.size+1) (o:=.ins C s.heap.objs.size []) (t':=s.toks) (λb u q=>ZT _ q) (Nat.le_of_eq (Heap.size_push _ _)) ?_;have ne:s.heap.objs.size≠s.heap.objs.size+1:=BK (JD _);refine⟨by rw[Ab ne,Ac],BF _,ne,e2,λ_=>none,(Heap.Ns1.of_empty e3).at λo q=>ZT _ q,λ_=>True.intro,λy hy=>absurd rfl hy⟩
theorem Jfh(hb:attributeBase e f env (eval e env)=eval e env)(h:wpAny (model prog w) A (eval e env) (λo DQ=>wpAny (model prog w) A (getAttr o f true) Q E DQ) E s):wpAny (model prog w) A (eval (.Attribute e f pos) env) Q E s :=Attribute_any_ h (by rw[arm_eval_Attribute,hb])
end
inductive Ji1(K:W.Frag)(f:Str)(x:V)(H1:Hp)(Q:VK):Prop
 | mk (a C dx fs v) (e0:x=.ref a) (e1:H1 a=some (.ins C dx fs)) (e2:RV K C) (e3:DR K C f) (e4:fs.lookup f=some v) (e5:Q v H1)
def Q0(K:W.Frag)(ta:TE)(f:Str):TE:=λσ H Q=>ta σ H λx H1=>Ji1 K f x H1 Q
def Jj4(K:W.Frag)(ta tv:TE)(f:Str):TS:=λD σ H=>tv σ H λy H1=>ta σ H1 λx H2=>∃a C dx fs,x=.ref a/\H2 a=some (.ins C dx fs)/\RV K C/\DR K C f/\fs.length<1000 /\
 D.nx σ (upd H2 a (.ins C dx (Aq f y fs)))
def jq(X:Cx)(op:Operator)(rd:V->V->Hp->VK->Prop):Prop :=
 ∀(AA:List (Addr×Obj))(s:Shared)(σ:St)(H:Hp)(x y:V)(u v:Value)(Q:VK),Inv X AA σ H s->RelV x u->RelV y v->rd x y H Q->wpAny (model X.prog X.w) X.A (inplaceOp op u v) (EP X AA σ Q) X.xe s
def Jd7(K:W.Frag)(ta tv:TE)(rd:V->V->Hp->VK->Prop)(f:Str):TS:=λD σ H=>ta σ H λx H1=>∃a C dx fs v,x=.ref a/\H1 a=some (.ins C dx fs)/\RV K C/\DR K C f/\fs.lookup f=some v /\
 tv σ H1 λy H2=>rd v y H2 λz H3=>∃mf XC,H3 a=some (.ins C mf XC)/\XC.length<1000/\D.nx σ (upd H3 a (.ins C mf (Aq f z XC)))
section
theorem An(he:PE X e ta)(hb:attributeBase e f X.env (eval e X.env)=eval e X.env):PE X (.Attribute e f pos) (Q0 X.K ta f):=by intro AA s σ H Q I h;refine Jfh hb (DU (he AA s σ H _ I h) ?_);rintro u s1 ⟨x,H1,I1,rx,a,C,dx,fs,v,ex,ea,c,n,l,q⟩;subst ex;obtain rfl:u=Value.ref a:=rx;exact Oi I1 ea c n l λu' s2 I2 ru=>⟨v,H1,I2,ru,q⟩
theorem C7(ha:PE X o ta)(hv:PE X value tv)(hs:swapsWith value (some (.Attribute o f pos')) pos.line X.env=pure false):PS X (.Assign [.Attribute o f pos'] value pos) (Jj4 X.K ta tv f):=by intro AA s σ H D I h;refine plainObj_wpAny_Assign_Attribute (DU (hv AA s σ H _ I h) ?_) hs;rintro u s1 ⟨y,H1,I1,ry,q⟩;refine DU (ha AA s1 σ H1 _ I1 q) ?_;rintro ov s2 ⟨x,H2,I2,rx,a,C,dx,fs,ex,ea,c,n,l,q2⟩;subst ex;obtain rfl:ov=Value.ref a:=rx;exact Nb I2 ea c n l ry λs3 I3=>⟨σ,_,I3,q2⟩
theorem B8(ha:PE X o ta)(hv:PE X value tv)(lR:jq X op rd):PS X (.AugAssign (.Attribute o f n6) op value pos) (Jd7 X.K ta tv rd f):=by intro AA s σ H D I h;refine wpAny_AugAssign_AttributeAny (DU (ha AA s σ H _ I h) ?_);rintro ov s1 ⟨x,H1,I1,rx,a,C,dx,fs,v,ex,ea,c,n,l,q⟩;subst ex;obtain rfl:ov=Value.ref a:=rx;refine Oi I1 ea c n l λu s2 I2 ru=>DU (hv AA s2 σ H1 _ I2 q) ?_;rintro w3 s3 ⟨y,H2,I3,ry,q3⟩;refine DU (lR AA s3 σ H2 v y u w3 _ I3 ru ry q3) ?_;rintro w4 s4 ⟨z,H3,I4,rz,mf,XC,UC,l',q4⟩;exact Nb I4 UC c n l' rz λs5 I5=>⟨σ,_,I5,q4⟩
def Jkd:V->V->Hp->VK->Prop:=λx y H Q=>∃i j,x=.int i/\y=.int j/\Q (.int (i+j)) H
def Jj5:V->V->Hp->VK->Prop:=λx y H Q=>∃i j,x=.int i/\y=.int j/\Q (.int (i-j)) H
theorem Dh:jq X .Add Jkd:=by rintro AA s σ H x y u v Q I rx ry ⟨i,j,rfl,rfl,q⟩;obtain⟨t,rfl⟩:=(show ∃t,u=Value.int i t from rx);obtain⟨t',rfl⟩:=(show ∃t',v=Value.int j t' from ry);exact PyProof.Rows.iadd_int ⟨.int (i+j),H,I.tok _,⟨_,rfl⟩,q⟩
theorem vF:jq X .Sub Jj5:=by rintro AA s σ H x y u v Q I rx ry ⟨i,j,rfl,rfl,q⟩;obtain⟨t,rfl⟩:=(show ∃t,u=Value.int i t from rx);obtain⟨t',rfl⟩:=(show ∃t',v=Value.int j t' from ry);exact PyProof.Rows.isub_int ⟨.int (i-j),H,I.tok _,⟨_,rfl⟩,q⟩
end
section
inductive LG(K:W.Frag)(H:Hp):V->Value->Prop where
 | EE:LG K H .EE (.type "NoneType")
 | bl (x:Bool):LG K H (.bl x) (.type "bool")
 | int (i:Int):LG K H (.int i) (.type "int")
 | str (x:Str):LG K H (.str x) (.type "str")
 | bD (x:UInt64):LG K H (.bD x) (.type "float")
 | BI {a:Addr} {xs:List V} (e:H a=some (.BI xs)):LG K H (.ref a) (.type "list")
 | FJ {a:Addr} {o:Obj} {xs:List V} (e:H a=some (.FJ o (.BI xs))):LG K H (.ref a) (.type "list")
 | BC {a:Addr} {xs:List V} (e:H a=some (.BC xs)):LG K H (.ref a) (.type "tuple")
 | dK {a:Addr} {kvs:List (Key×V)} (e:H a=some (.dK kvs)):LG K H (.ref a) (.type "dict")
 | dT {a:Addr} {kvs:List (List Key×V)} (e:H a=some (.dT kvs)):LG K H (.ref a) (.type "dict")
 | ins {a C dx:Addr} {fs:List (Str×V)} (e:H a=some (.ins C dx fs)) (cl:RV K C) (ha:W.findIn K (.ref C) "__class__"=some (some (.builtin "object.__class__")))
  (hn:W.specialIn K (.builtin "object.__class__") "__get__"=some (some (.builtin "getset_descriptor.__get__"))) (rP:W.takesIn K (.builtin "object.__class__")=some true)
  (hm:W.mroIn K C (.type "object")=some true):LG K H (.ref a) (.ref C)
theorem Jad(I:Inv X AA σ H s)(rx:RelV x u)(ty:LG X.K H x t)(e:W.kitOne X.K t c=some b)(h:∀tk,Q (.bool b) { s with toks:=tk }) : wpAny (model X.prog X.w) A (call (.builtin "isinstance") [u,c]) Q E s:=by cases ty with | EE=>cases (show u=Value.none from rx);exact H_ W.kitx_none I.LX True.intro e (λz=>nomatch z) h | bl y=>cases (show u=Value.bool y from rx);exact H_ W.kitx_bool I.LX True.intro e (λz=>nomatch z) h | int i=>obtain⟨t,q⟩:=(show ∃t,u=Value.int i t from rx);cases q;exact H_ W.kitx_int I.LX True.intro e (λz=>nomatch z) h | str y=>obtain⟨t,q⟩:=(show ∃t,u=Value.str y t from rx);cases q;exact H_ W.kitx_str I.LX True.intro e (λz=>nomatch z) h | bD y=>obtain⟨t,q⟩:=(show ∃t,u=Value.float y t from rx);cases q;exact H_ W.kitx_float I.LX True.intro e (λz=>nomatch z) h | @BI a xs ea =>cases (show u=Value.ref a from rx);obtain⟨_,_,n,_,h1⟩:=(show CZ X.prog X.w H s.heap a (.BI xs) from I.CT a _ ea);exact H_ W.kitx_list I.LX ⟨_,h1,rfl⟩ e (λz=>nomatch z) h | @FJ a ob xs ea =>cases (show u=Value.ref a from rx);obtain⟨_,_,_,n,_,h1⟩:=(show CZ X.prog X.w H s.heap a (.FJ ob (.BI xs)) from I.CT a _ ea);exact H_ W.kitx_list I.LX ⟨_,h1,rfl⟩ e (λz=>nomatch z) h | @BC a xs ea =>cases (show u=Value.ref a from rx);obtain⟨_,_,_,p⟩:=(show CZ X.prog X.w H s.heap a (.BC xs) from I.CT a _ ea);obtain⟨o,h1,h2,_⟩:=p;exact H_ W.kitx_tuple I.LX ⟨o,h1,h2⟩ e (λz=>nomatch z) h | @dK a kvs ea =>cases (show u=Value.ref a from rx);obtain⟨_,_,vs,_,p⟩:=(show CZ X.prog X.w H s.heap a (.dK kvs) from I.CT a _ ea);obtain⟨o,es,ep,h1,h2,_⟩:=p;exact H_ W.kitx_dict I.LX ⟨o,h1,h2.1⟩ e (λz=>nomatch z) h | @dT a kvs ea =>cases (show u=Value.ref a from rx);obtain⟨_,_,xs,_,o,es,ep,h1,h2,_⟩:=(show CZ X.prog X.w H s.heap a (.dT kvs) from I.CT a _ ea);exact H_ W.kitx_dict I.LX ⟨o,h1,h2.1⟩ e (λz=>nomatch z) h | @ins a C dx fs ea cl ha hn rP hm =>cases (show u=Value.ref a from rx);obtain⟨mA,O,_⟩:=Mp I.CT ea;obtain⟨od,J,_⟩:=O.look;exact H_ (W.kitx_own (cl.get _) cl.hd ha hn rP hm) I.LX J e (λz=>nomatch z) h
end
structure CU(k:Nat)(A:Around):Prop where
 hd:A.handled=none
 dp:A.depth+3*k+5<recursionLimit
 un:A.units+16*k+200<cLine
theorem CU.mono(r:CU k A)(h:j<=k):CU j A:=⟨r.hd,by have:=r.dp;lia,by have:=r.un;lia⟩
theorem CU.deeper(r:CU (k+1) A)(env:Env):CU k (A.deeper env) :=⟨r.hd,by have:=r.dp;show A.depth+1+3*k+5<_;lia,by have:=r.un;show A.units+3+16*k+200<_;lia⟩
theorem Xa{A:Around}{C:Addr}{us:List Value}{kw:List (Str×Value)}:(A.under (.builtin "type.__call__" ⟨.ref C::us,kw⟩)).depth=A.depth+1:=by first|rfl|simp[Around.under,Code.weight,Code.isCreation,Code.isGuard,Code.isCaller,Code.frames,Code.isFrame,guardIds]
theorem W9{A:Around}{C:Addr}{us:List Value}{kw:List (Str×Value)}:(A.under (.builtin "type.__call__" ⟨.ref C::us,kw⟩)).units=A.units+1:=by first|rfl|simp[Around.under,Code.cUnits,Code.frames,Code.isFrame]
theorem CU.make(r:CU (k+1) A)(C:Addr)(us:List Value)(kw:List (Str×Value)):CU k (A.under (.builtin "type.__call__" ⟨.ref C::us,kw⟩)) :=⟨r.hd,by have:=r.dp;rw[Xa];lia,by have:=r.un;rw[W9];lia⟩
theorem CU.depth(r:CU k A):A.depth<recursionLimit:=by have:=r.dp;lia
theorem CU.units(r:CU k A):A.units+64<cLine:=by have:=r.un;lia
def Kv:TA:=λ_ H Q=>Q [] H
def De(ta:TE)(tr:TA):TA:=λσ H Q=>ta σ H λx H1=>tr σ H1 λxs H2=>Q (x::xs) H2
section
theorem Af:PA X [] Kv:=λ_ _ _ _ H Q I h=>JR ⟨[],H,I,.nil,h⟩
theorem Aa(ha:PE X e te)(hr:PA X es t)(hs:starEach (e::es) X.env=(false,eval e X.env)::starEach es X.env:=by rfl):PA X (e::es) (De te t):=by intro pos AA s σ H Q I h;rw[hs];show wpAny _ _ (spliced ((false,eval e X.env)::backTo pos (starEach es X.env))) _ _ s;refine GZ (DU (ha AA s σ H _ I h) ?_);rintro u s1 ⟨x,H1,I1,r1,q1⟩;exact DU (hr pos AA s1 σ H1 _ I1 q1) λus s2 ⟨xs,H2,I2,r2,q2⟩=>⟨x::xs,H2,I2,.cons r1 r2,q2⟩
inductive Jiz  (xs:List V) (H1:Hp) (Q:VK):Prop
 | mk  (e0:xs.length<=sizeLine) (e1:∀p,H1 p=none->Q (.ref p) (upd H1 p (.BC xs)))
def jx(t:TA):TE:=λσ H Q=>t σ H λxs H1=>Jiz  xs H1 Q
inductive Ji0  (xs:List V) (H1:Hp) (Q:VK):Prop
 | mk  (e0:xs.length<=sizeLine) (e1:∀p,H1 p=none->Q (.ref p) (upd H1 p (.BI xs)))
def Jjg(t:TA):TE:=λσ H Q=>t σ H λxs H1=>Ji0  xs H1 Q
theorem Ca(h:PA X es t):PE X (.Tuple es x1 pos) (jx t):=by intro AA s σ H Q I hq;refine wpAny_Tuple_spliced (DU (h pos AA s σ H _ I hq) λus s1 ⟨xs,H1,I1,r,z,q⟩=>⟨by rw[<-r.length];exact z,?_⟩);have hf:H1 s1.heap.objs.size=none:=I1.CT.fresh (ZG _);refine⟨.ref s1.heap.objs.size,upd H1 s1.heap.objs.size (.BC xs),I1.laid (t':=s1.toks) (λb u e=>ZT _ e) (ZG _) ?_,rfl,q _ hf⟩;exact⟨z,us,r,⟨_,ZU _ rfl,rfl,_,rfl⟩⟩
theorem Fa(h:PA X es t):PE X (.List es pos) (Jjg t):=by intro AA s σ H Q I hq;refine wpAny_List_spliced (DU (h pos AA s σ H _ I hq) λus s1 ⟨xs,H1,I1,r,z,q⟩=>⟨by rw[<-r.length];exact z,?_⟩);have hf:H1 s1.heap.objs.size=none:=I1.CT.fresh (ZG _);refine⟨.ref s1.heap.objs.size,upd H1 s1.heap.objs.size (.BI xs),I1.laid (t':=s1.toks) (λb u e=>ZT _ e) (ZG _) ?_,rfl,q _ hf⟩;exact⟨z,us,0,r,ZU _ rfl⟩
end
abbrev Sp:=List V->Hp->VK->XK->Prop
abbrev UG:=List Env->Hp->Shared->XK->Value->Shared->Prop
structure SM(P:Program)(w:World)(K:W.Frag)(mg:Str->Option Value)(base:Heap)(A:Around)(outer:List Env)(s:Shared)(H:Hp):Prop where
 frames:A.frames=some outer
 mod:Mod K mg base
 bs:∀b o,base.get? b=some o->s.heap.get? b=some o/\H b=none
 UE:base.objs.size<=s.heap.objs.size
 KR:s.heap.FunFrames base outer
 VL:∀b∈KI outer,H b=none
 CT:KL P w H s.heap
 bare:AllBare s.gens
def CE(outer:List Env)(P:Program)(w:World)(H:Hp)(s:Shared)(Q:VK)(u:Value)(s':Shared):Prop :=
 ∃v H',s'.os=s.os/\AllBare s'.gens/\Un (KI outer) [] H H' s.heap s'.heap/\KL P w H' s'.heap/\RelV v u/\Q v H'
def CR(CX:UG)(outer:List Env)(P:Program)(w:World)(H:Hp)(s:Shared)(Q:VK)(E:XK)(r:Result)(s':Shared):Prop :=
 match r with
 | .ok (.ret u)=>CE outer P w H s Q u s'
 | .ok _=>False
 | .error e=>CX outer H s E e s'
structure DZ(P:Program)(w:World)(K:W.Frag)(mg:Str->Option Value)(base:Heap)(CX:UG)(k:Nat)(f:Addr)(fd:FuncData)(ps:List Str)(sp:Sp):Prop where
 len:∀vs H Q E,sp vs H Q E->vs.length=ps.length
 run:∀(A:Around)(outer:List Env)(s:Shared)(H:Hp)(args:Args)(us:List Value)(vs:List V)(Q:VK)(E:XK),CU k A->SM P w K mg base A outer s H->BindsTo s fd args (ps.zip us)->Vals vs us->sp vs H Q E ->
  codeAny (model P w) A (.call (.ref f) args) (CR CX outer P w H s Q E) s
theorem DZ.mono{P:Program}{w:World}{K:W.Frag}{mg:Str->Option Value}{base:Heap}{CX:UG}{j k:Nat}{f:Addr}{fd:FuncData}{ps:List Str}{sp:Sp}(F:DZ P w K mg base CX j f fd ps sp)(h:j<=k) : DZ P w K mg base CX k f fd ps sp:=⟨F.len,λA outer s H args us vs Q E hr=>F.run A outer s H args us vs Q E (hr.mono h)⟩
theorem SM.make{P:Program}{w:World}{K:W.Frag}{mg:Str->Option Value}{base:Heap}{A:Around}{outer:List Env}{s:Shared}{H:Hp}(e:SM P w K mg base A outer s H)(C:Addr)(us:List Value)(kw:List (Str×Value)) : SM P w K mg base (A.under (.builtin "type.__call__" ⟨.ref C::us,kw⟩)) outer s H:=⟨by first|exact e.frames|(simpa [Around.under,Code.envs,Code.isFrame,pushEnvs] using e.frames),e.mod,e.bs,e.UE,e.KR,e.VL,e.CT,e.bare⟩
section
theorem Inv.bz(I:Inv X AA σ H s):SM X.prog X.w X.K X.mg X.base X.A X.stack s H :=⟨I.ok.frames,I.ok.mod,I.bs,BE I.ok.UE I.sz,I.stack,I.OA,I.CT,I.bare⟩
theorem Inv.after(I:Inv X AA σ H s)(h:CE X.stack X.prog X.w H s Q u s'):EP X AA σ Q u s':=by obtain⟨v,H',os,bare,un,CT,r,q⟩:=h;obtain⟨hh,g,d,t,wj⟩:=s';obtain rfl:wj=s.os:=os;exact⟨v,H',I.call (h':=hh) (g':=g) (d':=d) (t':=t) (ch:=[]) un CT bare (λb z=>absurd z (by simp)),r,q⟩
end
def Jhz(sp:Sp)(N_:List V)(E:XK)(t:TA):TE:=λσ H Q=>t σ H λvs H1=>sp (vs++N_) H1 Q E
inductive Jhl(C:Addr)(m:Str)(sp:Sp)(N_:List V)(E:XK)(t:TA)(σ:St)(x:V)(H1:Hp)(Q:VK):Prop
 | mk (a dx fs) (e0:x=.ref a) (e1:H1 a=some (.ins C dx fs)) (e2:fs.lookup m=none) (e3:t σ H1 λvs H2=>sp (x::(vs++N_)) H2 Q E)
def Pi(C:Addr)(m:Str)(sp:Sp)(N_:List V)(E:XK)(ta:TE)(t:TA):TE:=λσ H Q=>ta σ H λx H1=>Jhl C m sp N_ E t σ x H1 Q
def Xt(C:Addr)(sp:Sp)(N_:List V)(E:XK)(t:TA):TE:=λσ H Q=>t σ H λvs H1=>∀x dx,H1 x=none->H1 dx=none->dx≠x ->
 sp (.ref x::(vs++N_)) (upd (upd H1 dx (.own x)) x (.ins C dx [])) (λv H2=>v=.EE/\Q (.ref x) H2) E
def Binds(K:W.Frag)(fd:FuncData)(ps:List Str)(ds:List Value):Prop :=
 ∀(s:Shared)(us:List Value),K.In s.heap->(us++ds).length=ps.length->BindsTo s fd ⟨us,[]⟩ (ps.zip (us++ds))
theorem Binds.all{K:W.Frag}{fd:FuncData}{ps:List Str}(h:∀us:List Value,us.length=ps.length->bindArgs fd ⟨us,[]⟩=pure (ps.zip us)):Binds K fd ps []:=λs us _ hl=>by rw[AH] at hl ⊢;exact .of_eq (h us hl)
def Gr(CX:UG)(X:Cx)(E:XK):Prop:=∀(AA:List (Addr×Obj))(σ:St)(H:Hp)(s:Shared)(e:Value)(s':Shared),Inv X AA σ H s->CX X.stack H s E e s'->X.xe e s'
section
theorem Wp(F:DZ X.prog X.w X.K X.mg X.base CX k f fd ps sp)(hr:CU k X.A)(hb:Binds X.K fd ps ds)(hd:Vals N_ ds)(hx:Gr CX X E)(I:Inv X AA σ H s)(r:Vals vs us)(h:sp (vs++N_) H Q E):wpAny (model X.prog X.w) X.A (call (.ref f) us) (EP X AA σ Q) X.xe s:=by
 have r2:Vals (vs++N_) (us++ds):=r.append hd;have hl:(us++ds).length=ps.length:=by rw[<-r2.length];exact F.len _ _ _ _ h
 refine wpAny_call (GX (F.run X.A X.stack s H ⟨us,[]⟩ (us++ds) (vs++N_) Q E hr I.bz (hb s us I.LX hl) r2 h) λr s' hq=>?_);cases r with | error e=>exact hx AA σ H s e s' I hq | ok fl =>cases fl with | ret u=>exact I.after hq | next=>exact False.elim hq | brk=>exact False.elim hq | cont=>exact False.elim hq
theorem Cs(F:DZ X.prog X.w X.K X.mg X.base CX k f fd ps sp)(hr:CU k X.A)(hg:Gl X x)(hm:X.mg x=some (.ref f))(hk:W.keepIn X.K (.ref f)=true)(hb:Binds X.K fd ps ds)(hd:Vals N_ ds)(hx:Gr CX X E)(ha:PA X (e::es) t)(VI:(x==("__debug__":Str))=false:=by decide)(he:starEach (e::es) X.env=(false,eval e X.env)::starEach es X.env:=by rfl)(QQ:(backTo pos (starEach es X.env)).any (·.1)=false:=by rfl) : PE X (.Call (.Name x p) (e::es) [] pos) (Jhz sp N_ E t):=by intro AA s σ H Q I h;refine GY (Hu I hg hm ?_ VI);refine W.callWith_K (h₀:=X.base) I.ok.mod.US hk (DU (ha pos AA s σ H _ I h) λus s1 ⟨vs,H1,I1,r,q⟩=>⟨I1.LX,?_⟩) he QQ;exact Wp F hr hb hd hx I1 r q
theorem Ap(he:PE X o ta)(c:RV X.K C)(hm:f_ X.K C m f)(F:DZ X.prog X.w X.K X.mg X.base CX k f fd ps sp)(hr:CU k X.A)(hb:Binds X.K fd ps ds)(hd:Vals N_ ds)(hx:Gr CX X E)(ha:PA X (e::es) t)(lJ:starEach (e::es) X.env=(false,eval e X.env)::starEach es X.env:=by rfl)(QQ:(backTo pos (starEach es X.env)).any (·.1)=false:=by rfl)(ht:eval (.Call (.Attribute o m apos) (e::es) [] pos) X.env=(do
  let ov <-eval o X.env
  standAt apos.atName
  let(f,first) <-holding [ov] (getMethod ov m pl)
  callWith pos f first (backTo pos (starEach (e::es) X.env)) (backToKw pos (keywordEach [] X.env))):=by rfl) :
 PE X (.Call (.Attribute o m apos) (e::es) [] pos) (Pi C m sp N_ E ta t):=by
 intro AA s σ H Q I h
 refine W.methodCall_KW (pl:=pl) (DU (he AA s σ H _ I h) ?_) ht
 rintro u s1 ⟨x,H1,I1,rx,a,dx,fs,ex,ea,l,q⟩
 subst ex
 obtain rfl:u=Value.ref a:=rx
 refine Oh I1 ea c hm l ?_
 refine W.callWith_K (first:=[.ref a]) (h₀:=X.base) I.ok.mod.US hm.kp (DU (ha pos AA s1 σ H1 _ I1 q) λus s2 ⟨vs,H2,I2,r,q2⟩=>⟨I2.LX,?_⟩) lJ QQ
 exact Wp (us:=.ref a::us) (vs:=.ref a::vs) F hr hb hd hx I2 (.cons rfl r) q2
theorem C9(he:PE X o ta)(c:RV X.K C)(hm:f_ X.K C m f)(F:DZ X.prog X.w X.K X.mg X.base CX k f fd ps sp)(hr:CU k X.A)(hb:Binds X.K fd ps ds)(hd:Vals N_ ds)(hx:Gr CX X E)(ht:eval (.Call (.Attribute o m apos) [] [] pos) X.env=(do
  let ov <-eval o X.env
  standAt apos.atName
  let(f,first) <-holding [ov] (getMethod ov m pl)
  callWith pos f first (backTo pos (starEach [] X.env)) (backToKw pos (keywordEach [] X.env))):=by rfl) :
 PE X (.Call (.Attribute o m apos) [] [] pos) (Pi C m sp N_ E ta Kv):=by
 intro AA s σ H Q I h
 refine W.methodCall_KW (pl:=pl) (DU (he AA s σ H _ I h) ?_) ht
 rintro u s1 ⟨x,H1,I1,rx,a,dx,fs,ex,ea,l,q⟩
 subst ex
 obtain rfl:u=Value.ref a:=rx
 refine Oh I1 ea c hm l ?_
 exact W.callWith_K0 (first:=[.ref a]) I1.LX hm.kp (Wp (us:=[.ref a]) (vs:=[.ref a]) F hr hb hd hx I1 (.cons rfl .nil) q)
structure Mk(K:W.Frag)(C f:Addr):Prop where
 makes:W.makesIn K C=true
 init:W.findIn K (.ref C) "__init__"=some (some (.ref f))
 fn:W.isFn K (.ref f)=true
 kp:W.keepIn K (.ref C)=true
theorem Ul(M:Mk X.K C f)(F:DZ X.prog X.w X.K X.mg X.base CX k f fd ps sp)(hr:CU (k+1) X.A)(hb:Binds X.K fd ps ds)(hd:Vals N_ ds)(hx:Gr CX X E)(I:Inv X AA σ H s)(r:Vals vs us)(h:∀x dx,H x=none->H dx=none->dx≠x->sp (.ref x::(vs++N_)) (upd (upd H dx (.own x)) x (.ins C dx [])) (λv H2=>v=.EE/\Q (.ref x) H2) E) : wpAny (model X.prog X.w) X.A (call (.ref C) us) (EP X AA σ Q) X.xe s:=by
 have hq:=h (s.heap.objs.size+1) s.heap.objs.size (I.CT.fresh (ER _)) (I.CT.fresh (ZG _)) (BK (JD _));have I2:=Inv.AY (C:=C) I;have r2:Vals (V.ref (s.heap.objs.size+1)::(vs++N_)) (Value.ref (s.heap.objs.size+1)::(us++ds)):=.cons rfl (r.append hd);have hl:(Value.ref (s.heap.objs.size+1)::us++ds).length=ps.length:=by have e:=r2.length;rw[F.len _ _ _ _ hq] at e;exact e.symm
 refine wpAny_call (Jcp (f:=f) I.LX M.makes M.init (KY.mp M.fn) (GX (F.run _ X.stack _ _ ⟨Value.ref (s.heap.objs.size+1)::us,[]⟩ (Value.ref (s.heap.objs.size+1)::(us++ds)) _ _ E (hr.make C us []) (I2.bz.make C us []) (hb _ (Value.ref (s.heap.objs.size+1)::us) I2.LX hl) r2 hq) λr s' VG=>?_));cases r with | error e=>exact hx AA σ _ _ e s' I2 VG | ok fl =>cases fl with | ret u =>obtain⟨v,H',I3,rv,ev,q3⟩:=I2.after VG;subst ev;exact⟨rv,⟨V.ref (s.heap.objs.size+1),H',I3,rfl,q3⟩⟩ | next=>exact False.elim VG | brk=>exact False.elim VG | cont=>exact False.elim VG
theorem R6(M:Mk X.K C f)(F:DZ X.prog X.w X.K X.mg X.base CX k f fd ps sp)(hr:CU (k+1) X.A)(hg:Gl X x)(hm:X.mg x=some (.ref C))(hb:Binds X.K fd ps ds)(hd:Vals N_ ds)(hx:Gr CX X E)(ha:PA X (e::es) t)(VI:(x==("__debug__":Str))=false:=by decide)(he:starEach (e::es) X.env=(false,eval e X.env)::starEach es X.env:=by rfl)(QQ:(backTo pos (starEach es X.env)).any (·.1)=false:=by rfl) : PE X (.Call (.Name x p) (e::es) [] pos) (Xt C sp N_ E t):=by intro AA s σ H Q I h;refine GY (Hu I hg hm ?_ VI);refine W.callWith_K (h₀:=X.base) I.ok.mod.US M.kp (DU (ha pos AA s σ H _ I h) λus s1 ⟨vs,H1,I1,r,q⟩=>⟨I1.LX,?_⟩) he QQ;exact Ul M F hr hb hd hx I1 r q
theorem Jbv(M:Mk X.K C f)(F:DZ X.prog X.w X.K X.mg X.base CX k f fd ps sp)(hr:CU (k+1) X.A)(hg:Gl X x)(hm:X.mg x=some (.ref C))(hb:Binds X.K fd ps ds)(hd:Vals N_ ds)(hx:Gr CX X E)(VI:(x==("__debug__":Str))=false:=by decide):PE X (.Call (.Name x p) [] [] pos) (Xt C sp N_ E Kv):=by intro AA s σ H Q I h;refine GY (Hu I hg hm ?_ VI);exact W.callWith_K0 I.LX M.kp (Ul (us:=[]) M F hr hb hd hx I .nil h)
end
section
variable {X:Cx}{CX:UG}{k:Nat}{f C:Addr}{fd:FuncData}{ps ks:List Str}{sp:Sp}{E:XK}{x m:Str}{p pos apos JGh:Pos}{e o:Expr}{es:List Expr}{kws:List Keyword}{te ta:TE}{t tk:TA}{nm:Option Str}
variable {g:List Value->List Value->List Value}{gV:List V->List V->List V}
end
structure Ao(N P:List Str)(sc:Scope):Prop where
 kind:sc.kind=.function:=by rfl
 co:sc.isCoroutine=false:=by rfl
 gen:sc.isGenerator=false:=by rfl
 nd:N.Nodup:=by decide +kernel
 pre:N.take P.length=P:=by rfl
 par:∀x∈P,sc.names.lookup x=some .local\/sc.names.lookup x=some .cell:=by decide +kernel
 cH:∀y∈sc.names,y.2≠.free:=by decide +kernel
theorem Qr{kindOf:Str->Option NameKind}{x:Str}:∀{binds:List (Str×Value)} {m:Str->Option Value},(∀v,(x,v)∉binds)->bindL kindOf binds m x=m x
 | [],_,_=>rfl
 | (n,v)::r,m,h=>by unfold bindL;rw[Qr λw hw=>h w (ZD _ hw)];split;(·(have:x≠n:=by rintro rfl;exact h v ZL);simp[this]);.rfl
theorem Qt{kindOf:Str->Option NameKind}{x:Str}:∀{binds:List (Str×Value)} {m:Str->Option Value},(∀v,(x,v)∉binds)->bindC kindOf binds m x=m x
 | [],_,_=>rfl
 | (n,v)::r,m,h=>by unfold bindC;rw[Qt λw hw=>h w (ZD _ hw)];split;(.rfl);·(have:x≠n:=by rintro rfl;exact h v ZL);simp[this]
theorem Qs{kindOf:Str->Option NameKind}{x:Str}{v:Value}:∀{P:List Str} {vs:List Value} {i:Nat} {m:Str->Option Value},P.Nodup->P[i]?=some x->vs[i]?=some v->kindOf x=some .local -> bindL kindOf (P.zip vs) m x=some v
 | [],_,_,_,_,h,_,_=>by simp at h
 | _::_,[],_,_,_,_,h,_=>by simp at h
 | p::P,w::vs,0,m,nd,h1,h2,hk=>by simp at h1 h2;subst h1;subst h2;show bindL kindOf ((p,w)::P.zip vs) m p=_;unfold bindL;rw[Qr λv hv=>(AV.mp nd).1 (List.of_mem_zip hv).1,AE hk];simp
 | p::P,w::vs,i+1,m,nd,h1,h2,hk=>by show bindL kindOf ((p,w)::P.zip vs) m x=_;unfold bindL;exact Qs (i:=i) (AV.mp nd).2 (by simpa using h1) (by simpa using h2) hk
theorem Qu{kindOf:Str->Option NameKind}{x:Str}{v:Value}:∀{P:List Str} {vs:List Value} {i:Nat} {m:Str->Option Value},P.Nodup->P[i]?=some x->vs[i]?=some v->kindOf x≠some .local -> bindC kindOf (P.zip vs) m x=some v
 | [],_,_,_,_,h,_,_=>by simp at h
 | _::_,[],_,_,_,_,h,_=>by simp at h
 | p::P,w::vs,0,m,nd,h1,h2,hk=>by simp at h1 h2;subst h1;subst h2;show bindC kindOf ((p,w)::P.zip vs) m p=_;unfold bindC;rw[Qt λv hv=>(AV.mp nd).1 (List.of_mem_zip hv).1,AB hk];simp
 | p::P,w::vs,i+1,m,nd,h1,h2,hk=>by show bindC kindOf ((p,w)::P.zip vs) m x=_;unfold bindC;exact Qu (i:=i) (AV.mp nd).2 (by simpa using h1) (by simpa using h2) hk
def start(N:List Str)(vs:List V):St:=vs.map some++List.replicate (N.length-vs.length) none
def Iz(CX:UG)(P:Program)(w:World)(K:W.Frag)(mg:Str->Option Value)(base:Heap)(N:List Str)(qual:Str)(scope:Scope)(f:Addr)(cd:Value)(A:Around)(outer:List Env)(s:Shared)(H:Hp)(E:XK):Cx where
 prog:=P
 w:=w
 K:=K
 mg:=mg
 base:=base
 A:=A.deeper (envOfC qual scope s.heap.objs.size f cd)
 N:=N
 GQ:=s
 ON:=H
 env:=envOfC qual scope s.heap.objs.size f cd
 outer:=outer
 stack:=envOfC qual scope s.heap.objs.size f cd::outer
 ex:=[]
 calm:=true
 fn:=λ_=>true
 pn:=[]
 xe:=λe s'=>wpAny (model P w) (A.deeper (envOfC qual scope s.heap.objs.size f cd)) (leaving (envOfC qual scope s.heap.objs.size f cd) e) (λ_ kP=>CX outer H s E e kP) (λe' kP=>CX outer H s E e' kP) s'
theorem V1{sc:Scope}{n:Nat}{x:Str}(h:sc.names.lookup x=some .cell):∃c,(cellsFrom n sc.names []).lookup x=some c:=by have q:=W.cellsFrom_some sc.names n [] (.inl h);exact Option.isSome_iff_exists.mp q
theorem Jag{CX:UG}{P:Program}{w:World}{K:W.Frag}{mg:Str->Option Value}{base:Heap}{N ps:List Str}{qual:Str}{scope:Scope}{f:Addr}{cd:Value}{A:Around}{outer:List Env}{s s1:Shared}{H:Hp}{E:XK}{us:List Value}{vs:List V}(S:Ao N ps scope)(hd:A.handled=none)(e0:SM P w K mg base A outer s H)(hl:vs.length=ps.length)(r:Vals vs us)(x:InCallC s s.heap.objs.size (bindL (envOfC qual scope s.heap.objs.size f cd).kindOf (ps.zip us) λ_=>none) (cellsFrom (s.heap.objs.size+1) scope.names []) (bindC (envOfC qual scope s.heap.objs.size f cd).kindOf (ps.zip us) λ_=>none) s1) : Inv (Iz CX P w K mg base N qual scope f cd A outer s H E) [] (start N vs) H s1:=by
 have QQ:ps.length<=N.length:=by have:=congrArg List.length S.pre;rw[B_] at this;lia
 obtain⟨h1,tk,rfl,hk⟩:=x.done;have d_:∀b:Addr,b∉(Iz CX P w K mg base N qual scope f cd A outer s H E).ex:=λb z=>absurd (show b∈([]:List Addr) from z) (by simp);refine⟨⟨e0.mod,S.kind,rfl,rfl,ZG _,λy z c h1 h2=>?_,λy hy=>?_,λy c _ h=>?_,λ_=>hd,Around.frames_deeper e0.frames,.inr ⟨rfl,rfl⟩,λb z=>absurd z (d_ b),e0.bs,e0.UE,λb _ _=>d_ b,λb z=>absurd z (d_ b),e0.KR,e0.VL⟩,rfl,e0.bare,Un.kept hk,⟨_,x.toInCall.ns,λi y v h1 h2 h3=>?_⟩,λy c h=>⟨_,x.cell y c h⟩,e0.CT.fresh (ZG _),λy c h=>?_,λp hp=>absurd (show p∈([]:List (Addr×Obj)) from hp) (by simp),e0.CT.kept hk,?_⟩;.exact name_of_addr x.apart (HK h1) (HK h2)
 .have hy:scope.names.lookup y=some .cell\/scope.names.lookup y=some .free:=hy;rcases hy with hy|hy;(.exact V1 hy);.exact absurd rfl (S.cH _ (HK hy))
 .exact EO (x.above y c (HK h))
 ·(have hi:i<vs.length:=by unfold start at h2;by_cases hi:i<vs.length;(.exact hi);.rw[List.getElem?_append_right (by simpa using hi)] at h2;rw[List.getElem?_replicate] at h2;split at h2<;>cases h2);(have ha:vs[i]?=some v:=by unfold start at h2;rw[LO (by simpa using hi),ZH] at h2;cases e:vs[i]? with | none=>rw[e] at h2;cases h2 | some a=>rw[e] at h2;cases h2;rfl);obtain⟨u,hu,rv⟩:=r.get ha;(have hp:ps[i]?=some y:=by rw[<-S.pre,List.getElem?_take_of_lt (by lia)];exact h1);(have qt:ps.Nodup:=by rw[<-S.pre];exact S.nd.sublist (List.take_sublist _ _));refine⟨u,rv,?_⟩;rcases S.par y (ZP hp) with k|k;(.exact .inl ⟨k,Qs qt hp hu k⟩);.obtain⟨c,e⟩:=V1 (n:=s.heap.objs.size+1) k;refine .inr ⟨.inl k,c,e,?_⟩;have q:=x.cell y c e;rw[Qu qt hp hu (by show scope.names.lookup y≠_;rw[k];decide)] at q;exact q
 .exact e0.CT.fresh (EO (x.above y c (HK h)))
 .unfold start;show _=N.length;rw[ZE,ZA,List.length_replicate];lia
theorem uu{CX:UG}{P:Program}{w:World}{K:W.Frag}{mg:Str->Option Value}{base:Heap}{k:Nat}{f:Addr}{name qual:Str}{params:Arguments}{body:List Stmt}{scope:Scope}{dV kV doc pm DP ct oc:Value}{an od:Option Addr}{ar:Array (Option Value)}{N ps:List Str}{sp:Sp}(lk:K.lookup f=some ⟨oc,od,.func (W.fnOf name qual params body scope dV kV doc pm an DP ct),ar⟩)(T_:W.codeIn K DP qual=true)(S:Ao N ps scope)(len:∀vs H Q E,sp vs H Q E->vs.length=ps.length)(RH:∀(A:Around) (outer:List Env) (s:Shared) (H:Hp) (vs:List V) (Q:VK) (E:XK),CU k (A.deeper (envOfC qual scope s.heap.objs.size f DP))->sp vs H Q E -> ∃t,N' (Iz CX P w K mg base N qual scope f DP A outer s H E) body t/\t { nx:=λ_ H'=>Q .EE H',rt:=Q } (start N vs) H) : DZ P w K mg base CX (k+1) f (W.fnOf name qual params body scope dV kV doc pm an DP ct) ps sp:=by
 refine⟨len,λA outer s H args us vs Q E hr e0 hb r WX=>?_⟩;have hl:=len _ _ _ _ WX;have KX:K.In s.heap:=e0.mod.US.keeps λb o e=>(e0.bs b o e).1;have lim:s.heap.NoLimit:=e0.mod.nolimit.keeps λb o e=>(e0.bs b o e).1;have L_:∀y∈ps.zip us,scope.names.lookup y.1=some .local\/(scope.names.lookup y.1=some .cell/\((cellsFrom (s.heap.objs.size+1) scope.names []).lookup y.1).isSome=true):=λ⟨n,v⟩ hy=>by rcases S.par n (List.of_mem_zip hy).1 with q|q;(.exact .inl q);.exact .inr ⟨q,W.cellsFrom_some _ _ _ (.inl q)⟩
 refine codeAny_call_function hr.depth (KX _ _ lk) rfl S.co S.gen rfl (W.codeRec_of KX T_) (hb _ _ _ _ ?_);refine wpAny_newFunctionEnv_cells S.kind L_ λenv he s1 x=>?_;subst he;refine⟨lim.keeps x.toInCall.keep,codeAny_func ?_⟩;obtain⟨t,ht,hq⟩:=RH A outer s H vs Q E (hr.deeper _) WX;have I:Inv (Iz CX P w K mg base N qual scope f DP A outer s H E) [] (start N vs) H s1:=Jag S hr.hd e0 hl r x;refine DW (ht [] s1 (start N vs) H _ I hq) (λfl s' hs=>?_) λe s' hs=>hs;have fin:∀{EV:St} {H':Hp} {v:V} {u:Value},Inv (Iz CX P w K mg base N qual scope f DP A outer s H E) [] EV H' s'->RelV v u->Q v H'->CE outer P w H s Q u s' :=λ{EV H' v u} J rv q=>⟨v,H',J.os,J.bare,J.base,J.CT,rv,q⟩;cases fl with | ret u =>obtain⟨v,EV,H',J,rv,q⟩:=hs;exact fin J rv q | next =>obtain⟨EV,H',J,q⟩:=hs;exact fin (v:=V.EE) (u:=Value.none) J rfl q | brk =>obtain⟨_,_,_,q⟩:=hs;exact False.elim q | cont =>obtain⟨_,_,_,q⟩:=hs;exact False.elim q
section
variable {X:Cx}{x:Str}{p pos:Pos}{e:Expr}{es:List Expr}{t:TA}{id T:String}{r:List V->Hp->VK->Prop}
def qG(r:List V->Hp->VK->Prop)(t:TA):TE:=λσ H Q=>t σ H λvs H1=>r vs H1 Q
theorem Bg(hc:Fm X (.builtin id) r)(hg:Gl X x)(hm:X.mg x=none)(hv:bootBuiltins x=some (.builtin id))(ha:PA X (e::es) t)(hn:x≠"__name__":=by decide)(VI:(x==("__debug__":Str))=false:=by decide)(he:starEach (e::es) X.env=(false,eval e X.env)::starEach es X.env:=by rfl)(QQ:(backTo pos (starEach es X.env)).any (·.1)=false:=by rfl):PE X (.Call (.Name x p) (e::es) [] pos) (qG r t):=by intro AA s σ H Q I h;refine GY (Sy I hg hm hv ?_ hn VI);exact PyProof.Rows.callWith_builtin1 (DU (ha pos AA s σ H _ I h) λus s1 ⟨vs,H1,I1,r1,q1⟩=>hc AA s1 σ H1 vs us Q I1 r1 q1) he QQ
theorem Dm(hc:Fm X (.type T) r)(hg:Gl X x)(hm:X.mg x=none)(hv:bootBuiltins x=some (.type T))(ha:PA X (e::es) t)(hn:x≠"__name__":=by decide)(VI:(x==("__debug__":Str))=false:=by decide)(he:starEach (e::es) X.env=(false,eval e X.env)::starEach es X.env:=by rfl)(QQ:(backTo pos (starEach es X.env)).any (·.1)=false:=by rfl):PE X (.Call (.Name x p) (e::es) [] pos) (qG r t):=by intro AA s σ H Q I h;refine GY (Sy I hg hm hv ?_ hn VI);exact PyProof.Rows.callWith_type1 (DU (ha pos AA s σ H _ I h) λus s1 ⟨vs,H1,I1,r1,q1⟩=>hc AA s1 σ H1 vs us Q I1 r1 q1) he QQ
end
section
variable {κ:Type}[DecidableEq κ]
def B9(kvs:List (κ×V))(k:κ):Option V:=(kvs.find? λkv=>decide (kv.1=k)).map (·.2)
def putK(kvs:List (κ×V))(k:κ)(v:V):List (κ×V) :=
 if(kvs.any λkv=>decide (kv.1=k))=true then kvs.map (λkv=>if kv.1=k then(kv.1,v) else kv) else kvs++[(k,v)]
def Da(kvs:List (κ×V))(k:κ):List (κ×V):=kvs.filter λkv=>decide (kv.1≠k)
theorem Jf{p:κ×V}{r:List (κ×V)}{k:κ}(e:p.1=k):B9 (p::r) k=some p.2:=by simp[B9,BR,e]
theorem Jg{p:κ×V}{r:List (κ×V)}{k:κ}(e:¬p.1=k):B9 (p::r) k=B9 r k:=by simp[B9,BR,e]
theorem Jh(k:κ):∀kvs:List (κ×V),(kvs.any λkv=>decide (kv.1=k))=(B9 kvs k).isSome
 | []=>rfl
 | p::r=>by rw[JK];by_cases e:p.1=k;(.simp only[Jf e,AJ e,Bool.true_or,Option.isSome_some]);.rw[Jg e,AG e,Bool.false_or];exact Jh k r
theorem Fj(kvs:List (κ×V))(k:κ)(v:V):(putK kvs k v).length<=kvs.length+1:=by
 unfold putK;split;.rw[ZA];lia
 .rw[ZE,BJ,BN];lia
theorem Fz{kvs:List (κ×V)}{k:κ}(v:V)(h:B9 kvs k=none):putK kvs k v=kvs++[(k,v)]:=by unfold putK;rw[Jh,h];exact AB (by decide)
theorem NQ.JC(r:NQ o u):o.isSome=u.isSome:=by cases o with | none=>(cases u with | none=>rfl | some _=>exact(show False from r).elim) | some _=>cases u with | none=>exact(show False from r).elim | some _=>rfl
theorem NQ.getD(r:NQ o u)(rd:RelV d d'):RelV (o.getD d) (u.getD d'):=by cases o with | none=>(cases u with | none=>exact rd | some _=>exact(show False from r).elim) | some _=>cases u with | none=>exact(show False from r).elim | some _=>exact r
theorem KV.val{kvs:List (κ×V)}{vs:List (κ×Value)}(r:KV kvs vs)(k:κ):NQ (B9 kvs k) (valueAt vs k):=by unfold KV at r;induction r with | nil=>exact True.intro | @cons p q ps qs h t ih =>obtain⟨h1,h2⟩:=h;by_cases e:p.1=k;(.have e':q.1=k:=h1.symm.trans e;(have b:valueAt (q::qs) k=some q.2:=by simp[valueAt,BR,e']);rw[Jf e,b];exact h2);.have e':¬q.1=k:=λz=>e (h1.trans z);(have b:valueAt (q::qs) k=valueAt qs k:=by simp[valueAt,BR,e']);rw[Jg e,b];exact ih
theorem KV.any(r:KV kvs vs)(k:κ):(kvs.any λkv=>decide (kv.1=k))=vs.any λkv=>decide (kv.1=k):=by unfold KV at r;induction r with | nil=>rfl | cons h t ih=>rw[JK,JK,ih,h.1]
theorem KV.bY(r:KV kvs vs)(k:κ)(ry:RelV y u) : KV (kvs.map λkv=>if kv.1=k then(kv.1,y) else kv) (vs.map λkv=>if kv.1=k then(kv.1,u) else kv):=by unfold KV at r ⊢;induction r with | nil=>exact .nil | @cons p q ps qs h t ih =>rw[AK,AK];refine .cons ?_ ih;obtain⟨h1,h2⟩:=h;by_cases e:p.1=k;(.rw[AE e,AE (h1.symm.trans e)];exact⟨h1,ry⟩);.rw[AB e,AB (λz=>e (h1.trans z))];exact⟨h1,h2⟩
theorem KV.put(r:KV kvs vs)(k:κ)(ry:RelV y u):KV (putK kvs k y) (stored vs k u):=by
 unfold putK stored;rw[r.any k];by_cases e:(vs.any λkv=>decide (kv.1=k))=true;.rw[AE e,AE e];exact r.bY k ry
 .rw[AB e,AB e];exact Paired.snoc r ⟨rfl,ry⟩
theorem KV.drop(r:KV kvs vs)(k:κ):KV (Da kvs k) (without vs k):=by unfold KV at r ⊢;unfold Da without;induction r with | nil=>exact .nil | @cons p q ps qs h t ih =>obtain⟨h1,h2⟩:=h;rw[DC,DC];by_cases e:p.1=k;(·(have a:¬decide (p.1≠k)=true:=by simp[e]);(have b:¬decide (q.1≠k)=true:=by simp[h1.symm.trans e]);rw[AB a,AB b];exact ih);.have e':¬q.1=k:=λz=>e (h1.trans z);(have a:decide (p.1≠k)=true:=by simp[e]);(have b:decide (q.1≠k)=true:=by simp[e']);rw[AE a,AE b];exact .cons ⟨h1,h2⟩ ih
theorem KV.length(r:KV kvs vs):kvs.length=vs.length:=Paired.length r
theorem Jc9(kvs:List (κ×V))(k:κ):(Da kvs k).length<=kvs.length:=AS _ _
end
theorem Lx(r:RelV (kV k) u):(Bp P w).is k u=true:=by cases k with | inl i=>obtain⟨t,e⟩:=(show ∃t,u=Value.int i t from r);subst e;exact Vd P w i t | inr x=>obtain⟨t,e⟩:=(show ∃t,u=Value.str x t from r);subst e;exact Vc P w x t
theorem P7:∀{ks:List Key} {us:List Value},Vals (ks.map kV) us->ItemsAre (Bp P w) ks us
 | [],_,r=>by rw[E'] at r;cases r;exact .nil
 | k::ks,_,r=>by rw[AK] at r;cases r with | cons h t=>exact .cons (Lx h) (P7 t)
abbrev KT(H:Hp):List (List Key×V)->List (List Key×Addr×Value)->Prop:=Paired λp q=>p.1=q.1/\H q.2.1=some (.BC (p.1.map kV))/\RelV p.2 q.2.2
theorem KT.val{H:Hp}{kvs:List (List Key×V)}{xs:List (List Key×Addr×Value)}(r:KT H kvs xs)(k:List Key):NQ (B9 kvs k) ((atKey xs k).map (·.2)):=by induction r with | nil=>exact True.intro | @cons p q ps qs h t ih =>obtain⟨h1,_,h2⟩:=h;by_cases e:p.1=k;(.have e':q.1=k:=h1.symm.trans e;(have b:atKey (q::qs) k=some q.2:=by simp[atKey,BR,e']);rw[Jf e,b];exact h2);.have e':¬q.1=k:=λz=>e (h1.trans z);(have b:atKey (q::qs) k=atKey qs k:=by simp[atKey,BR,e']);rw[Jg e,b];exact ih
theorem KT.bY(r:KT H kvs xs)(k:List Key)(ry:RelV y u) : KT H (kvs.map λkv=>if kv.1=k then(kv.1,y) else kv) (xs.map (putAt k u)):=by induction r with | nil=>exact .nil | @cons p q ps qs h t ih =>rw[AK,AK];refine .cons ?_ ih;obtain⟨h1,h2,h3⟩:=h;unfold putAt;by_cases e:p.1=k;(.rw[AE e,AE (h1.symm.trans e)];exact⟨h1,h2,ry⟩);.rw[AB e,AB (λz=>e (h1.trans z))];exact⟨h1,h2,h3⟩
theorem KT.put(r:KT H kvs xs)(k:List Key)(hb:H b=some (.BC (k.map kV)))(ry:RelV y u) : KT H (putK kvs k y) (storedH xs k b u):=by
 have e:(kvs.any λkv=>decide (kv.1=k))=(atKey xs k).isSome:=by rw[Jh,(r.val k).JC,Option.isSome_map]
 unfold putK storedH;rw[e];by_cases q:(atKey xs k).isSome=true;.rw[AE q,AE q];exact r.bY k ry
 .rw[AB q,AB q];exact Paired.snoc r ⟨rfl,hb,ry⟩
theorem KT.keeps(r:KT H kvs xs)(ht:∀b ys,H b=some (.BC ys)->H' b=some (.BC ys)):KT H' kvs xs :=nC r λ_ _ z=>⟨z.1,ht _ _ z.2.1,z.2.2⟩
section
theorem uz(ok:KL P w H h)(e:Rd H a u):CZ P w H h a u:=e.ok ok
theorem Km(ok:KL P w H h)(e:Rd H a (.dK kvs)):kvs.length<=sizeLine/\(a==sysModules)=false/\∃vs,KV kvs vs/\h.DictOf (Bp P w) a vs :=show CZ P w H h a (.dK kvs) from uz ok e
theorem Y9(ok:KL P w H h)(e:H a=some (.dK kvs)):kvs.length<=sizeLine/\(a==sysModules)=false/\∃vs,KV kvs vs/\h.DictOf (Bp P w) a vs:=Km ok (.inl e)
theorem He(ok:KL P w H h)(e:H a=some (.BC (ks.map kV))):(tupleKind (Bp P w)).is h ks a:=by obtain⟨_,its,r,o,h1,h2,n,h3⟩:=(show CZ P w H h a (.BC (ks.map kV)) from ok a _ e);exact⟨o,its.toArray,n,h1,h2,h3,by simpa using P7 r⟩
theorem Kl(ok:KL P w H h)(e:Rd H a (.dT kvs)):kvs.length<=sizeLine/\(a==sysModules)=false /\ ∃xs,KT H kvs xs/\h.DictOfH (tupleKind (Bp P w)) a xs:=by
 obtain⟨z,y,xs,r,o,es,ep,h1,h2,h3,h4,h5⟩:=(show CZ P w H h a (.dT kvs) from uz ok e);refine⟨z,y,xs,r,o,es,ep,h1,h2,h3,h4,λx hx=>?_,h5⟩;have all:∀{l:List (List Key×V)} {m:List (List Key×Addr×Value)},KT H l m->∀x∈m,(tupleKind (Bp P w)).is h x.1 x.2.1:=by intro l m q;induction q with | nil=>intro x hx;exact nomatch hx | @cons p q ps qs hq t ih =>intro x hx;rcases ZM hx with e|hx;(.subst e;exact He ok (by rw[<-hq.1];exact hq.2.1));.exact ih x hx
 exact all r x hx
theorem Qm(ok:KL P w H h)(e:H a=some (.dT kvs)):kvs.length<=sizeLine/\(a==sysModules)=false /\ ∃xs,KT H kvs xs/\h.DictOfH (tupleKind (Bp P w)) a xs:=Kl ok (.inl e)
end
def DJ(H:Hp)(a:Addr)(y:V)(r:Option V):Prop :=
 (∃kvs k,Rd H a (.dK kvs)/\y=kV k/\r=B9 kvs k)\/∃kvs k b,Rd H a (.dT kvs)/\y=.ref b/\H b=some (.BC (k.map kV))/\r=B9 kvs k
def FF(H:Hp)(a:Addr)(y v:V)(H':Hp):Prop :=
 (∃kvs k,H a=some (.dK kvs)/\y=kV k/\kvs.length<sizeLine/\H'=upd H a (.dK (putK kvs k v))) \/
 ∃kvs k b,H a=some (.dT kvs)/\y=.ref b/\H b=some (.BC (k.map kV))/\kvs.length<sizeLine/\H'=upd H a (.dT (putK kvs k v))
theorem DJ.k{H:Hp}{a:Addr}{kvs:List (Key×V)}{k:Key}(e:H a=some (.dK kvs)):DJ H a (kV k) (B9 kvs k):=.inl ⟨kvs,k,.inl e,rfl,rfl⟩
theorem DJ.t{H:Hp}{a b:Addr}{kvs:List (List Key×V)}{k:List Key}(e:H a=some (.dT kvs))(eb:H b=some (.BC (k.map kV))):DJ H a (.ref b) (B9 kvs k):=.inr ⟨kvs,k,b,.inl e,rfl,eb,rfl⟩
theorem FF.k{H:Hp}{a:Addr}{kvs:List (Key×V)}{k:Key}{v:V}(e:H a=some (.dK kvs))(hl:kvs.length<sizeLine):FF H a (kV k) v (upd H a (.dK (putK kvs k v))):=.inl ⟨kvs,k,e,rfl,hl,rfl⟩
theorem FF.t{H:Hp}{a b:Addr}{kvs:List (List Key×V)}{k:List Key}{v:V}(e:H a=some (.dT kvs))(eb:H b=some (.BC (k.map kV)))(hl:kvs.length<sizeLine) : FF H a (.ref b) v (upd H a (.dT (putK kvs k v))):=.inr ⟨kvs,k,b,e,rfl,eb,hl,rfl⟩
section
theorem Inv.big(I:Inv X AA σ H s):sysModules<s.heap.objs.size:=by have h:mainGlobals<s.heap.objs.size:=(I.mod.glob.keeps I.bk).lt;exact NR (by decide) h
theorem Qp(hu:A.units+1<cLine)(I:Inv X AA σ H s)(g:DJ H a y (some v))(ry:RelV y u)(h:∀w' s',Inv X AA σ H s'->RelV v w'->Q w' s') : wpAny (model X.prog X.w) A (getItem (.ref a) u) Q E s:=by
 rcases g with⟨kvs,k,e,ey,l⟩|⟨kvs,k,b,e,ey,eb,l⟩;.subst ey;obtain⟨z,hd,vs,rel,dd⟩:=Km I.CT e;obtain⟨w',hw,OZ⟩:=jo (v:=v) (o:=valueAt vs k) (by rw[l];exact rel.val k);exact wpAny_getItem_of (Lx ry) dd.mapOf hw (h w' _ (I.tok _) OZ)
 .subst ey;cases (show u=Value.ref b from ry);obtain⟨z,hd,xs,rel,dd⟩:=Kl I.CT e;obtain⟨w',hw,OZ⟩:=jo (v:=v) (o:=(atKey xs k).map (·.2)) (by rw[l];exact rel.val k);obtain⟨p,hp,FH⟩:=Option.map_eq_some_iff.mp hw;refine wpAny_getItem_heap (EF hu) (He I.CT eb) dd hp ?_;rw[FH];exact h w' _ (I.tok _) OZ
theorem Jkm(hu:A.units+1<cLine)(I:Inv X AA σ H s)(g:DJ H a y o)(ry:RelV y u)(h:∀s',Inv X AA σ H s'->Q (.bool o.isSome) s') : wpAny (model X.prog X.w) A (compareOp .In u (.ref a)) Q E s:=by
 rcases g with⟨kvs,k,e,ey,l⟩|⟨kvs,k,b,e,ey,eb,l⟩;.subst ey;obtain⟨z,hd,vs,rel,dd⟩:=Km I.CT e;refine wpAny_in_of (Lx ry) hd dd.mapOf ?_;rw[<-(rel.val k).JC,<-l];exact h _ (I.tok _)
 .subst ey;cases (show u=Value.ref b from ry);obtain⟨z,hd,xs,rel,dd⟩:=Kl I.CT e;refine wpAny_in_heap (EF hu) (He I.CT eb) hd dd ?_;have q:=(rel.val k).JC;rw[Option.isSome_map] at q;rw[<-q,<-l];exact h _ (I.tok _)
theorem Jff(hu:A.units+1<cLine)(I:Inv X AA σ H s)(g:DJ H a y o)(ry:RelV y u)(h:∀s',Inv X AA σ H s'->Q (.bool (!o.isSome)) s') : wpAny (model X.prog X.w) A (compareOp .NotIn u (.ref a)) Q E s:=by
 rcases g with⟨kvs,k,e,ey,l⟩|⟨kvs,k,b,e,ey,eb,l⟩;.subst ey;obtain⟨z,hd,vs,rel,dd⟩:=Km I.CT e;refine wpAny_notIn_of (Lx ry) hd dd.mapOf ?_;rw[<-(rel.val k).JC,<-l];exact h _ (I.tok _)
 .subst ey;cases (show u=Value.ref b from ry);obtain⟨z,hd,xs,rel,dd⟩:=Kl I.CT e;refine wpAny_notIn_heap (EF hu) (He I.CT eb) hd dd ?_;have q:=(rel.val k).JC;rw[Option.isSome_map] at q;rw[<-q,<-l];exact h _ (I.tok _)
theorem Ko(I:Inv X AA σ H s)(mu:fm (H a))(hs:Heap.SameBut a s.heap h')(he:∃q,h'.get? a=some q)(new:CZ X.prog X.w (upd H a ob) h' a ob) : Inv X AA σ (upd H a ob) { s with heap:=h',toks:=t' } :=I.write (x:=a) (e:=a) mu (.inl rfl) (λb q hb z=>(hs.2 b hb).trans z) he new
theorem vE(z:kvs.length<=sizeLine)(hd:(a==sysModules)=false)(rel:KV kvs vs)(dd:h'.DictOf (Bp P w) a vs) : CZ P w H' h' a (.dK kvs):=⟨z,hd,vs,rel,dd⟩
theorem Qo{H':Hp}{Q:Unit->Shared->Prop}(hu:A.units+1<cLine)(I:Inv X AA σ H s)(g:FF H a y v H')(ry:RelV y u)(rv:RelV v r)(h:∀s',Inv X AA σ H' s'->Q () s') : wpAny (model X.prog X.w) A (setItem (.ref a) u r) Q E s:=by
 rcases g with⟨kvs,k,e,ey,l,eH⟩|⟨kvs,k,b,e,ey,eb,l,eH⟩;.subst ey eH;obtain⟨z,hd,vs,rel,dd⟩:=Y9 I.CT e;(have hz:vs.length<=sizeLine:=by rw[<-rel.length];exact z);(have hl:(putK kvs k v).length<=sizeLine:=by have:=Fj kvs k v;lia);refine wpAny_setItem_pairs (hsz:=hz) (Lx ry) dd λh' YI hs=>h _ ?_;have he:∃q,h'.get? a=some q:=let⟨q,_,_,hq,_⟩:=YI;⟨q,hq⟩;exact Ko I (by rw[e];exact True.intro) hs he (vE hl hd (rel.put k rv) YI)
 .subst ey eH;cases (show u=Value.ref b from ry);obtain⟨z,hd,xs,rel,dd⟩:=Qm I.CT e;(have hz:xs.length<=sizeLine:=by rw[<-Paired.length rel];exact z);(have hl:(putK kvs k v).length<=sizeLine:=by have:=Fj kvs k v;lia);refine wpAny_setItem_heap (hsz:=hz) (EF hu) (He I.CT eb) dd λh' YI hs=>h _ ?_;obtain⟨q,es,ep,hq,h2,h3,h4,_,h5⟩:=YI;refine Ko I (by rw[e];exact True.intro) hs ⟨q,hq⟩ ⟨hl,hd,_,(rel.put k eb rv).keeps λc ys ec=>?_,q,es,ep,hq,h2,h3,h4,h5⟩;rw[Ab (Np ec e (λz=>nomatch z))];exact ec
end
section
theorem Jiq(I:Inv X AA σ H s)(e:H a=some (.dK kvs))(ry:RelV (kV k) u)(l:B9 kvs k=some v)(hm:more=[]\/∃x,more=[x])(h:∀w' s',Inv X AA σ (upd H a (.dK (Da kvs k))) s'->RelV v w'->Q w' s'):wpAny (model X.prog X.w) A (call (.builtin "dict.pop") (.ref a::u::more)) Q E s:=by
 obtain⟨z,hd,vs,rel,dd⟩:=Y9 I.CT e;obtain⟨w',hw,OZ⟩:=jo (v:=v) (o:=valueAt vs k) (by rw[<-l];exact rel.val k);have hp:(keyPart u).isSome=true:=by cases k with | inl i=>obtain⟨t,q⟩:=(show ∃t,u=Value.int i t from ry);subst q;rfl | inr x=>obtain⟨t,q⟩:=(show ∃t,u=Value.str x t from ry);subst q;rfl
 have ha:argsOk "dict.pop" ⟨.ref a::u::more,[]⟩:=by rcases hm with q|⟨x,q⟩;(.subst q;exact PySem.F.args_dict_pop_2 _ _);.subst q;exact PySem.F.args_dict_pop_3 _ _ _
 refine QG IY dd.typeIs PySem.F.entry_dict_pop ha (meets_dict_pop_there (Bp X.prog X.w) a (Lx ry) more hm hp) ⟨vs,w',dd,by rw[<-rel.length];exact z,hw,λh' YI hs=>h w' _ ?_ OZ⟩;have he:∃q,h'.get? a=some q:=let⟨q,_,_,hq,_⟩:=YI;⟨q,hq⟩;exact Ko I (by rw[e];exact True.intro) hs he (vE (BE (Jc9 kvs k) z) hd (rel.drop k) YI)
theorem Jir(I:Inv X AA σ H s)(e:Rd H a (.dK kvs))(h:∀t s',Inv X AA σ H s'->Q (.int kvs.length t) s'):wpAny (model X.prog X.w) A (call (.builtin "len") [.ref a]) Q E s:=by obtain⟨z,hd,vs,rel,dd⟩:=Km I.CT e;refine call_len_dict hd dd (by rw[<-rel.length];rw[DL] at z;lia) ?_;rw[<-rel.length];exact h _ _ (I.tok _)
end
def ua(i:Expr):Prop:=∀ov iv,subscripted i false ov iv=operate [ov,iv] (getItem ov iv)
theorem Jdv{prog:Program}{w:World}{A:Around}{E:Value->Shared->Prop}{s:Shared}{env:Env}{value slice:Expr}{pos:Pos}{T id:String}{Q:Value->Shared->Prop}(hl:typeLookup (.type T) "__getitem__"=pure (some (.builtin id)))(hs:ua slice)(h:wpAny (model prog w) A (eval value env) (λo DQ=>wpAny (model prog w) A (eval slice env) (λi PK=>PK.TypeIs o T/\wpAny (model prog w) A (getItem o i) Q E PK) E DQ) E s) : wpAny (model prog w) A (eval (.Subscript value slice pos) env) Q E s:=by
 refine Subscript_ (DW h (λo DQ h₁=>DW h₁ (λi PK bo=>?_) λ_ _ x=>x) λ_ _ x=>x);obtain⟨hT,bo⟩:=bo;unfold subscriptTail;refine ZR ?_;rw[getitemInPython_of_ne hT.not_modules];refine ZR (wpAny_specialOf hT hl ?_);have fin:wpAny (model prog w) A (subscripted slice false o i) (λr gF=>wpAny (model prog w) A (letTemporaryGo value o r >>= λ_=>pure r) Q E gF) E PK:=by rw[hs o i];exact wpAny_operating (DW bo (λr gF o6=>ZR (wpAny_letTemporaryGo (ZS o6))) λ_ _ x=>x)
 first | exact ZS (ZR fin) | exact ZR (ZS (ZR fin)) | exact ZR fin
theorem Vy(I:Inv X AA σ H s)(g:DJ H a y o):s.TypeIs (.ref a) "dict":=by
 rcases g with⟨kvs,k,e,_,_⟩|⟨kvs,k,b,e,_,_,_⟩;.obtain⟨_,_,vs,_,dd⟩:=Km I.CT e;exact dd.typeIs
 .obtain⟨_,_,xs,_,dd⟩:=Kl I.CT e;exact dd.typeIs
inductive Jhm  (x:V) (y:V) (H2:Hp) (Q:VK):Prop
 | mk (a v) (e0:x=.ref a) (e1:DJ H2 a y (some v)) (e2:Q v H2)
def Pj(td ty:TE):TE:=λσ H Q=>td σ H λx H1=>ty σ H1 λy H2=>Jhm  x y H2 Q
inductive Ji2  (x:V) (y:V) (H2:Hp) (Q:VK):Prop
 | mk (a o) (e0:x=.ref a) (e1:DJ H2 a y o) (e2:Q (.bl o.isSome) H2)
def Jjk(ty td:TE):TE:=λσ H Q=>ty σ H λy H1=>td σ H1 λx H2=>Ji2  x y H2 Q
inductive Jdl  (x:V) (y:V) (H2:Hp) (Q:VK):Prop
 | mk (a o) (e0:x=.ref a) (e1:DJ H2 a y o) (e2:Q (.bl (!o.isSome)) H2)
def Jdu(ty td:TE):TE:=λσ H Q=>ty σ H λy H1=>td σ H1 λx H2=>Jdl  x y H2 Q
inductive Jhn  (x:V) (y:V) (v:V) (H3:Hp) (σ:St) (D:Ends):Prop
 | mk (a H4) (e0:x=.ref a) (e1:FF H3 a y v H4) (e2:D.nx σ H4)
def Jh6(td ty tv:TE):TS:=λD σ H=>tv σ H λv H1=>td σ H1 λx H2=>ty σ H2 λy H3=>Jhn  x y v H3 σ D
def Jh7(td ty tv:TE)(rd:V->V->Hp->VK->Prop):TS:=λD σ H=>td σ H λx H1=>ty σ H1 λy H2=>∃a v,x=.ref a/\DJ H2 a y (some v) /\
 tv σ H2 λy2 H3=>rd v y2 H3 λz H4=>∃H5,FF H4 a y z H5/\D.nx σ H5
section
theorem Cp(hu:X.A.units+1<cLine)(ho:PE X o td)(hi:PE X i ty)(hs:ua i:=by exact λ_ _=>rfl):PE X (.Subscript o i pos) (Pj td ty):=by intro AA s σ H Q I h;refine Jdv PySem.F.slot_dict_getitem.lookup hs (DU (ho AA s σ H _ I h) λu s1 ⟨x,H1,I1,rx,q1⟩=>DU (hi AA s1 σ H1 _ I1 q1) λiv s2 ⟨y,H2,I2,ry,a,v,ex,g,q2⟩=>?_);subst ex;obtain rfl:u=Value.ref a:=rx;exact⟨Vy I2 g,Qp hu I2 g ry λw' s3 I3 OZ=>⟨v,H2,I3,OZ,q2⟩⟩
theorem Im(hu:X.A.units+1<cLine)(hi:PE X i ty)(ho:PE X o td):PC X .In i o (Jjk ty td):=by intro AA s σ H Q I h;refine DU (hi AA s σ H _ I h) λiv s1 ⟨y,H1,I1,ry,q1⟩=>DU (ho AA s1 σ H1 _ I1 q1) ?_;rintro u s2 ⟨x,H2,I2,rx,a,ov,ex,g,q2⟩;subst ex;obtain rfl:u=Value.ref a:=rx;exact Jkm hu I2 g ry λs3 I3=>⟨.bl ov.isSome,H2,I3,rfl,q2⟩
theorem D5(hu:X.A.units+1<cLine)(hi:PE X i ty)(ho:PE X o td):PC X .NotIn i o (Jdu ty td):=by intro AA s σ H Q I h;refine DU (hi AA s σ H _ I h) λiv s1 ⟨y,H1,I1,ry,q1⟩=>DU (ho AA s1 σ H1 _ I1 q1) ?_;rintro u s2 ⟨x,H2,I2,rx,a,ov,ex,g,q2⟩;subst ex;obtain rfl:u=Value.ref a:=rx;exact Jff hu I2 g ry λs3 I3=>⟨.bl (!ov.isSome),H2,I3,rfl,q2⟩
theorem Bz(hu:X.A.units+1<cLine)(ho:PE X o td)(hi:PE X i ty)(hv:PE X value tv)(hs:swapsWith value (some (.Subscript o i pos')) pos.line X.env=pure false) : PS X (.Assign [.Subscript o i pos'] value pos) (Jh6 td ty tv):=by intro AA s σ H D I h;refine wpAny_Assign_Subscript (DU (hv AA s σ H _ I h) λr s1 ⟨v,H1,I1,rv,q1⟩=>DU (ho AA s1 σ H1 _ I1 q1) λu s2 ⟨x,H2,I2,rx,q2⟩=>DU (hi AA s2 σ H2 _ I2 q2) λiv s3 ⟨y,H3,I3,ry,a,H4,ex,g,q3⟩=>?_) hs;subst ex;obtain rfl:u=Value.ref a:=rx;exact Qo hu I3 g ry rv λs4 I4=>⟨σ,H4,I4,q3⟩
theorem Jx(hu:X.A.units+1<cLine)(ho:PE X o td)(hi:PE X i ty)(hv:PE X value tv)(lR:jq X op rd)(ha:∀ov iv new,augStore i ov iv new=(do holding [new,ov,iv] (setItem ov iv new);release [new,ov,iv] [];pure .next)):PS X (.AugAssign (.Subscript o i n6) op value pos) (Jh7 td ty tv rd):=by
 intro AA s σ H D I h
 refine wpAny_AugAssign_SubscriptAny (DU (ho AA s σ H _ I h) λu s1 ⟨x,H1,I1,rx,q1⟩=>DU (hi AA s1 σ H1 _ I1 q1) λiv s2 ⟨y,H2,I2,ry,a,v,ex,g,q2⟩=>?_) ha
 subst ex
 obtain rfl:u=Value.ref a:=rx
 refine Qp hu I2 g ry λw' s3 I3 OZ=>DU (hv AA s3 σ H2 _ I3 q2) λw2 s4 ⟨y2,H3,I4,wL,q3⟩=>DU (lR AA s4 σ H3 v y2 w' w2 _ I4 OZ wL q3) ?_
 rintro w3 s5 ⟨z,H4,I5,rz,H5,g5,q4⟩
 exact Qo hu I5 g5 ry rz λs6 I6=>⟨σ,H5,I6,q4⟩
end
theorem Jdb(h:Heap)(hb:sysModules<h.objs.size):CZ P w H (h.push { cls:=.type "dict",data:=.dict #[] }) h.objs.size (.dK []) :=⟨BF _,DD.mpr (Ne.symm (BK hb)),[],.nil,Heap.DictOf.new h⟩
theorem Vw(h:Heap)(hb:sysModules<h.objs.size):CZ P w H (h.push { cls:=.type "dict",data:=.dict #[] }) h.objs.size (.dT []) :=⟨BF _,DD.mpr (Ne.symm (BK hb)),[],.nil,_,#[],0,ZU _ rfl,⟨rfl,rfl,rfl⟩,rfl,rfl,CN⟩
def Jgb:TE:=λ_ H Q=>∀p,H p=none->Q (.ref p) (upd H p (.dK []))
def Jga:TE:=λ_ H Q=>∀p,H p=none->Q (.ref p) (upd H p (.dT []))
section
theorem Er:PE X (.Dict [] [] pos) Jgb:=λAA s σ H Q I h =>wpAny_Dict_empty ⟨.ref s.heap.objs.size,_,I.laid (a:=s.heap.objs.size) (o:=.dK []) (t':=s.toks) (λ_ _ q=>ZT _ q) (ZG _) (Jdb s.heap I.big),rfl,h _ (I.CT.fresh (ZG _))⟩
theorem Dv:PE X (.Dict [] [] pos) Jga:=λAA s σ H Q I h =>wpAny_Dict_empty ⟨.ref s.heap.objs.size,_,I.laid (a:=s.heap.objs.size) (o:=.dT []) (t':=s.toks) (λ_ _ q=>ZT _ q) (ZG _) (Vw s.heap I.big),rfl,h _ (I.CT.fresh (ZG _))⟩
end
abbrev VV:List (V×V)->List (Value×Value)->Prop:=Paired λp q=>RelV p.1 q.1/\RelV p.2 q.2
structure M1(X:Cx)(o:Expr)(m:Str)(apos:Pos)(e:Expr)(FV:Pos):Prop where
 base:attributeBase o m X.env (eval o X.env)=eval o X.env
 fE:((backTo FV (starEach [e] X.env)).all (λx=>!x.1)&&(backToKw FV (keywordEach [] X.env)).all (λx=>x.1.isSome)
  && decide (([e]:List Expr).length+([]:List Keyword).length+(if([]:List Keyword).isEmpty then 0 else 1)<30))=true
 line:(apos.endLine==FV.line)=true
 trees:backTo FV (starEach [e] X.env)=[(false,eval e X.env)]
structure M2(X:Cx)(o:Expr)(m:Str)(apos:Pos)(e f:Expr)(FV:Pos):Prop where
 base:attributeBase o m X.env (eval o X.env)=eval o X.env
 fE:((backTo FV (starEach [e,f] X.env)).all (λx=>!x.1)&&(backToKw FV (keywordEach [] X.env)).all (λx=>x.1.isSome)
  && decide (([e,f]:List Expr).length+([]:List Keyword).length+(if([]:List Keyword).isEmpty then 0 else 1)<30))=true
 line:(apos.endLine==FV.line)=true
 trees:backTo FV (starEach [e,f] X.env)=[(false,eval e X.env),(false,eval f X.env)]
def gA(H:Hp)(a:Addr):Prop:=(∃kvs,Rd H a (.dK kvs))\/∃kvs,Rd H a (.dT kvs)
theorem Tl(I:Inv X AA σ H s)(d:gA H a) : s.TypeIs (.ref a) "dict"/\(∀b,Value.ref a=.ref b->∃ob,s.heap.get? b=some ob/\ob.dict=none)/\(a==sysModules)=false:=by
 rcases d with⟨kvs,e⟩|⟨kvs,e⟩;.obtain⟨_,hd,vs,_,dd⟩:=Km I.CT e;refine⟨dd.typeIs,λb q=>?_,hd⟩;cases q;obtain⟨ob,_,_,h1,h2,_⟩:=dd;exact⟨ob,h1,h2.2.1⟩
 .obtain⟨_,hd,xs,_,dd⟩:=Kl I.CT e;refine⟨dd.typeIs,λb q=>?_,hd⟩;cases q;obtain⟨ob,_,_,h1,h2,_⟩:=dd;exact⟨ob,h1,h2.2.1⟩
section
variable {X:Cx}{AA:List (Addr×Obj)}{σ:St}{H:Hp}{s:Shared}{a:Addr}{y d:V}{u r:Value}{o:Option V}{A:Around}{E:Value->Shared->Prop}
theorem Jhf(hu:A.units+1<cLine)(I:Inv X AA σ H s)(g:DJ H a y o)(ry:RelV y u)(h:∀w' s',Inv X AA σ H s'->RelV (o.getD .EE) w'->Q w' s') : wpAny (model X.prog X.w) A (call (.builtin "dict.get") [.ref a,u]) Q E s:=by
 rcases g with⟨kvs,k,e,ey,l⟩|⟨kvs,k,b,e,ey,eb,l⟩;.subst ey;obtain⟨z,hd,vs,rel,dd⟩:=Km I.CT e;refine QG EX dd.typeIs IP (PySem.F.args_dict_get_2 _ _) (meets_dict_get (Bp X.prog X.w) a (Lx ry) hd) ⟨_,dd.mapOf,h _ _ (I.tok _) ?_⟩;rw[l];exact(rel.val k).getD rfl
 .subst ey;cases (show u=Value.ref b from ry);obtain⟨z,hd,xs,rel,dd⟩:=Kl I.CT e;refine QG EX dd.typeIs IP (PySem.F.args_dict_get_2 _ _) (meetsH_dict_get (tupleKind (Bp X.prog X.w)) a b hd) ⟨EF hu,k,xs,He I.CT eb,dd,h _ _ (I.tok _) ?_⟩;rw[l];exact(rel.val k).getD rfl
theorem Jhe(hu:A.units+1<cLine)(I:Inv X AA σ H s)(g:DJ H a y o)(ry:RelV y u)(rd:RelV d r)(h:∀w' s',Inv X AA σ H s'->RelV (o.getD d) w'->Q w' s') : wpAny (model X.prog X.w) A (call (.builtin "dict.get") [.ref a,u,r]) Q E s:=by
 rcases g with⟨kvs,k,e,ey,l⟩|⟨kvs,k,b,e,ey,eb,l⟩;.subst ey;obtain⟨z,hd,vs,rel,dd⟩:=Km I.CT e;refine QG EX dd.typeIs IP (PySem.F.args_dict_get_3 _ _ _) (meets_dict_get_default (Bp X.prog X.w) a (Lx ry) hd r) ⟨_,dd.mapOf,h _ _ (I.tok _) ?_⟩;rw[l];exact(rel.val k).getD rd
 .subst ey;cases (show u=Value.ref b from ry);obtain⟨z,hd,xs,rel,dd⟩:=Kl I.CT e;refine QG EX dd.typeIs IP (PySem.F.args_dict_get_3 _ _ _) (meetsH_dict_get_default (tupleKind (Bp X.prog X.w)) a b hd r) ⟨EF hu,k,xs,He I.CT eb,dd,h _ _ (I.tok _) ?_⟩;rw[l];exact(rel.val k).getD rd
end
def Jgd(td ty:TE):TE:=λσ H Q=>td σ H λx H1=>∃a,x=.ref a/\gA H1 a/\ty σ H1 λy H2=>∃o,DJ H2 a y o/\Q (o.getD .EE) H2
inductive Jfq(ty tx:TE)(x:V)(H1:Hp)(σ:St)(Q:VK):Prop
 | mk (a) (e0:x=.ref a) (e1:gA H1 a) (e2:ty σ H1 λy H2=>tx σ H2 λz H3=>∃o,DJ H3 a y o/\Q (o.getD z) H3)
def Jgc(td ty tx:TE):TE:=λσ H Q=>td σ H λx H1=>Jfq ty tx x H1 σ Q
def Jf9(td ty:TE):TE:=λσ H Q=>td σ H λx H1=>∃a,x=.ref a/\gA H1 a/\ty σ H1 λy H2=>∃kvs k v,H2 a=some (.dK kvs)/\y=kV k/\B9 kvs k=some v/\Q v (upd H2 a (.dK (Da kvs k)))
section
variable {X:Cx}{o e f:Expr}{apos FV:Pos}{td ty tx:TE}
theorem Jbw(hu:X.A.units+1<cLine)(ho:PE X o td)(he:PE X e ty)(m:M1 X o "get" apos e FV):PE X (.Call (.Attribute o "get" apos) [e] [] FV) (Jgd td ty):=by intro AA s σ H Q I h;refine OC m.base m.fE m.line CK EX PySem.F.type_dict_get (DU (ho AA s σ H _ I h) ?_);rintro u s1 ⟨x,H1,I1,rx,a,ex,d,q1⟩;subst ex;obtain rfl:u=Value.ref a:=rx;obtain⟨t1,t2,_⟩:=Tl I1 d;refine⟨t1,t2,?_⟩;rw[m.trees];refine EY rfl (FR (GZ (DU (he AA s1 σ H1 _ I1 q1) λiv s2 ⟨y,H2,I2,ry,ov,g,q2⟩=>JR ?_)));exact Jhf hu I2 g ry λw' s3 I3 OZ=>⟨_,H2,I3,OZ,q2⟩
theorem F3(hu:X.A.units+1<cLine)(ho:PE X o td)(he:PE X e ty)(hf:PE X f tx)(m:M2 X o "get" apos e f FV):PE X (.Call (.Attribute o "get" apos) [e,f] [] FV) (Jgc td ty tx):=by intro AA s σ H Q I h;refine OC m.base m.fE m.line CK EX PySem.F.type_dict_get (DU (ho AA s σ H _ I h) ?_);rintro u s1 ⟨x,H1,I1,rx,a,ex,d,q1⟩;subst ex;obtain rfl:u=Value.ref a:=rx;obtain⟨t1,t2,_⟩:=Tl I1 d;refine⟨t1,t2,?_⟩;rw[m.trees];refine EY rfl (FR (GZ (DU (he AA s1 σ H1 _ I1 q1) λiv s2 ⟨y,H2,I2,ry,q2⟩ =>GZ (DU (hf AA s2 σ H2 _ I2 q2) λfv s3 ⟨z,H3,I3,rz,ov,g,q3⟩=>JR ?_))));exact Jhe hu I3 g ry rz λw' s4 I4 OZ=>⟨_,H3,I4,OZ,q3⟩
theorem Uw(ho:PE X o td)(he:PE X e ty)(m:M1 X o "pop" apos e FV):PE X (.Call (.Attribute o "pop" apos) [e] [] FV) (Jf9 td ty):=by intro AA s σ H Q I h;refine OC m.base m.fE m.line CK IY PySem.F.type_dict_pop (DU (ho AA s σ H _ I h) ?_);rintro u s1 ⟨x,H1,I1,rx,a,ex,d,q1⟩;subst ex;obtain rfl:u=Value.ref a:=rx;obtain⟨t1,t2,_⟩:=Tl I1 d;refine⟨t1,t2,?_⟩;rw[m.trees];refine EY rfl (FR (GZ (DU (he AA s1 σ H1 _ I1 q1) λiv s2 ⟨y,H2,I2,ry,kvs,k,v,ea,ey,l,q2⟩=>JR ?_)));subst ey;exact Jiq I2 ea ry l (.inl rfl) λw' s3 I3 OZ=>⟨v,_,I3,OZ,q2⟩
end
section
variable {X:Cx}{AA:List (Addr×Obj)}{σ:St}{H:Hp}{s:Shared}{a:Addr}{kvs:List (Key×V)}{A:Around}{E:Value->Shared->Prop}
end
section
variable {X:Cx}{AA:List (Addr×Obj)}{σ:St}{H:Hp}{s:Shared}{a:Addr}{y:V}{u:Value}{A:Around}{E:Value->Shared->Prop}
end
end L2
namespace HT
open PySem PyProof.Rows
def lexLt:List Int->List Int->Bool
 | [],[]=>false
 | [],_::_=>true
 | _::_,[]=>false
 | x::xs,y::ys=>if x=y then lexLt xs ys else decide (x<y)
theorem FG(x y:Int)(xs ys:List Int):lexLt (x::xs) (y::ys)=if x=y then lexLt xs ys else decide (x<y):=rfl
theorem LC:lexLt [] []=false:=rfl
theorem N8(y:Int)(ys:List Int):lexLt [] (y::ys)=true:=rfl
theorem N9(x:Int)(xs:List Int):lexLt (x::xs) []=false:=rfl
theorem Jc4(A:Around)(s:Shared)(a:Int)(t:Tok)(c:Int)(u:Tok):∃e,SeqAt.EqAt A s (.int a t) (.int c u) e/\(e=true↔a=c) :=⟨(a==c),SeqAt.EqAt.int_int a t c u,by simp⟩
theorem Jbl(A:Around)(s:Shared)(a:Int)(t:Tok)(c:Int)(u:Tok)(prog:Program)(w:World)(E:Value->Shared->Prop)(Q:Value->Shared->Prop)(h:Q (.bool (decide (a<c))) s) : wpAny (model prog w) A (richCompare .Lt (.int a t) (.int c u)) Q E s :=(PyProof.Rows.lt_int h:wpAny (model prog w) A (compareOp .Lt (.int a t) (.int c u)) Q E s)
section
open PySem.SeqAt
open PySem.AutoSeq1 (wpAny_loadPart')
open PySem.MeetsSeq PySem.MeetsSeq2 PySem.MeetsSeq3
theorem O6(l b:Addr)(items JO:Array Value)(n n2:Nat)(dd ml:Option Addr)(sl ZW:Array (Option Value))(ns ms:List Int)(hi:IntsAre items.toList ns)(hj:IntsAre JO.toList ms) : Meets (Builtin.«tuple.__lt__» ⟨[.ref l,.ref b],[]⟩) (λ_ R s=>s.heap.get? l=some { cls:=.type "tuple",dict:=dd,data:=.seq items n,slots:=sl }/\s.heap.get? b=some { cls:=.type "tuple",dict:=ml,data:=.seq JO n2,slots:=ZW } /\ R (.ok (.ret (.bool (lexLt ns ms)))) s) :=.of_wp λprog w A R s h=>by obtain⟨hp,g,d,tk,os⟩:=s;obtain⟨hl,hb,h⟩:=h;have f2:=AutoSeq1.sub_tuple_tuple;(have z1:items.size=ns.length:=by rw[<-hi.length];simp);(have z2:JO.size=ms.length:=by rw[<-hj.length];simp);wp_walk using wpAny_loadPart' hl,wpAny_loadPart' hb,PM _ (λrest b s'=>b.1=none/\s'=⟨hp,g,d,tk,os⟩/\∃(vs ws:List Value)(av cZ:List Int),rest=vs.zip ws /\ IntsAre vs av/\IntsAre ws cZ/\av.length+JO.size=cZ.length+items.size/\R (.ok (.ret (.bool (lexLt av cZ)))) ⟨hp,g,d,tk,os⟩) _;(case turn =>rintro⟨y,x⟩ rest b s' ⟨HM,rfl,vs,ws,av,cZ,hz,lD,jT,hlen,hR⟩;cases lD with | nil=>rw[List.zip_nil_left] at hz;cases hz | cons a t o8 =>cases jT with | nil=>rw[List.zip_nil_right] at hz;cases hz | cons c u o7 =>rw[List.zip_cons_cons] at hz;injection hz with yA ij;injection yA with hy hx;subst hy hx;rw[FG] at hR;simp only[BJ] at hlen;obtain⟨e,he,gW⟩:=Jc4 A.in1 ⟨hp,g,d,tk,os⟩ a t c u;refine ZR (he prog w _ _ ?_);cases e with | true =>rw[AE (gW.mp rfl)] at hR;wp_walk;exact⟨rfl,rfl,_,_,_,_,ij,o8,o7,by lia,hR⟩ | false =>rw[AB (λq=>absurd (gW.mpr q) AL)] at hR;have yO:=Jbl A.in1 ⟨hp,g,d,tk,os⟩ a t c u prog w;wp_walk using yO;exact⟨_,rfl,by simpa using hR⟩);(case fin =>rintro⟨b1,b2⟩ s' ⟨HM,rfl,vs,ws,av,cZ,hz,lD,jT,hlen,hR⟩;simp only at HM;subst HM;(have hv:lexLt av cZ=decide (items.size<JO.size):=by cases lD with | nil =>(cases jT with | nil =>simp only[BN] at hlen;rw[LC];exact(AG (by lia)).symm | cons c u hw =>simp only[BN,BJ] at hlen;rw[N8];exact(AJ (by lia)).symm) | cons a t hv =>cases jT with | nil =>simp only[BN,BJ] at hlen;rw[N9];exact(AG (by lia)).symm | cons c u hw =>rw[List.zip_cons_cons] at hz;cases hz);rw[hv] at hR;wp_walk;exact⟨_,rfl,by simpa [Builtin.Tuple.tupleCompareSizes] using hR⟩);case h =>exact⟨rfl,rfl,items.toList,JO.toList,ns,ms,rfl,hi,hj,by lia,h⟩
end
section
variable {prog:Program}{w:World}{A:Around}{E:Value->Shared->Prop}{s:Shared}
theorem SR(hl:IsTup s.heap l items)(hb:IsTup s.heap b JO)(hi:IntsAre items.toList ns)(hj:IntsAre JO.toList ms)(hu:A.units<cLine)(h:Q (.bool (lexLt ns ms)) s):wpAny (model prog w) A (compareOp .Lt (.ref l) (.ref b)) Q E s:=by obtain⟨⟨cls,dd,data,sl⟩,ho,hc,n,hd⟩:=id hl;obtain⟨⟨JGl,ml,data2,ZW⟩,eS,sE,n2,hd2⟩:=id hb;simp only at hc hd sE hd2;subst hc hd sE hd2;exact richCompare_meets_room (op:=.Lt) ⟨_,ho,rfl⟩ ⟨_,eS,rfl⟩ PySem.F.slot_tuple_lt PySem.F.entry_tuple_lt (PySem.F.args_tuple_lt_2 _ _) (O6 l b items JO n n2 dd ml sl ZW ns ms hi hj) ⟨ho,eS,show Value.bool (lexLt ns ms)≠Value.notImplemented/\Q (.bool (lexLt ns ms)) s from⟨(λx=>nomatch x),h⟩⟩ hu
def QO(n d:Nat):Option Int->Nat
 | none=>d
 | some v=>if v<0 then(v+(n:Int)).toNat else min v.toNat n
theorem TR(n d k:Nat):QO n d (some (k:Int))=min k n:=by show(if(k:Int)<0 then((k:Int)+(n:Int)).toNat else min (k:Int).toNat n)=min k n;rw[AB (by lia),DF]
end
end HT
namespace L2
open PySem PySem.Spec PyProof.Rows
abbrev TO:=St->Hp->(Option Int->Hp->Prop)->Prop
def PO(X:Cx)(e:Option Expr)(t:TO):Prop :=
 ∀(AA:List (Addr×Obj))(s:Shared)(σ:St)(H:Hp)(Q:Option Int->Hp->Prop),Inv X AA σ H s->t σ H Q ->
  wpAny (model X.prog X.w) X.A (evalPart e X.env) (λu s'=>∃o H',Inv X AA σ H' s'/\IsPart u o/\Q o H') X.xe s
def Jhw(t:TE):TO:=λσ H Q=>t σ H λx H1=>∃i,x=.int i/\Q (some i) H1
theorem intsAre_of:∀{us:List Value},Vals (ns.map V.int) us->IntsAre us ns:=by induction ns with | nil=>intro us r;rw[E'] at r;cases r;exact .nil | cons n ns ih =>intro us r;rw[AK] at r;cases r with | cons r1 r2 =>obtain⟨t,e⟩:=r1;subst e;exact .cons n t (ih r2)
section
variable {X:Cx}{e:Expr}{te:TE}{lo hi:Option Expr}{tl th:TO}{pos p2:Pos}
theorem Yn(h:PE X e te):PO X (some e) (Jhw te):=by intro AA s σ H Q I hw;rw[evalPart_some];refine DU (h AA s σ H _ I hw) ?_;rintro u s1 ⟨x,H1,I1,r1,q1⟩;obtain⟨i,rfl,q⟩:=q1;obtain⟨t,rfl⟩:=r1;exact⟨some i,H1,I1,.int i t,q⟩
def uU(X:Cx)(r:V->Option Int->Option Int->Hp->VK->Prop):Prop :=
 ∀(AA:List (Addr×Obj))(s:Shared)(σ:St)(H:Hp)(x:V)(v vl vu:Value)(lo hi:Option Int)(sl:Addr)(Q:VK),Inv X AA σ H s->RelV x v->s.heap.IsSliceOf sl vl vu .none->IsPart vl lo->IsPart vu hi->r x lo hi H Q ->
  ∃T id,typeLookup (.type T) "__getitem__"=pure (some (.builtin id))/\s.TypeIs v T/\wpAny (model X.prog X.w) X.A (getItem v (.ref sl)) (EP X AA σ Q) X.xe s
def v3(r:V->Option Int->Option Int->Hp->VK->Prop)(te:TE)(tl th:TO):TE:=λσ H Q=>te σ H λx H1=>tl σ H1 λl H2=>th σ H2 λu H3=>r x l u H3 Q
theorem Jbt{r:V->Option Int->Option Int->Hp->VK->Prop}(hr:uU X r)(he:PE X e te)(hl:PO X lo tl)(hu:PO X hi th):PE X (.Subscript e (.Slice lo hi none p2) pos) (v3 r te tl th):=by intro AA s σ H Q I h;refine Subscript_ (DU (he AA s σ H _ I h) ?_);rintro v s1 ⟨x,H1,I1,r1,q1⟩;refine wpAny_Slice (DU (hl AA s1 σ H1 _ I1 q1) λvl s2 ⟨l,H2,I2,pl,q2⟩=>DU (hu AA s2 σ H2 _ I2 q2) λvu s3 ⟨u,H3,I3,pu,q3⟩=>?_);rw[evalPart_none];refine ZS ?_;have I4:Inv X AA σ H3 { s3 with heap:=s3.heap.push { cls:=.type "slice",data:=.fields #[vl,vu,.none] } }:=I3.kept (t':=s3.toks) λb ob q=>ZT _ q;obtain⟨T,id,hT,ht,hg⟩:=hr AA { s3 with heap:=s3.heap.push { cls:=.type "slice",data:=.fields #[vl,vu,.none] } } σ H3 x v vl vu l u s3.heap.objs.size Q I4 r1 (Heap.IsSliceOf.new ..) pl pu q3;show wpAny (model X.prog X.w) X.A (subscriptTail e (.Slice lo hi none p2) v (.ref s3.heap.objs.size)) (EP X AA σ Q) X.xe { s3 with heap:=s3.heap.push { cls:=.type "slice",data:=.fields #[vl,vu,.none] } };exact tail_any (ops:=[.ref s3.heap.objs.size,v]) ht hT hg (by with_unfolding_all rfl)
def Kq(xs:List V)(lo hi:Option Int):List V:=(xs.drop (HT.QO xs.length 0 lo)).take (HT.QO xs.length xs.length hi-HT.QO xs.length 0 lo)
theorem Vz(xs:List V)(lo hi:Option Int):(Kq xs lo hi).length<=xs.length:=by unfold Kq;rw[B_,List.length_drop];lia
end
def cn(n:Nat)(i:Int):Option Nat:=if 0<=i then(if i<n then some i.toNat else none) else if -(n:Int)<=i then some (i+n).toNat else none
def PD{α:Type}(xs:List α)(i:Int):Option α:=(cn xs.length i).bind λj=>xs[j]?
theorem Je1(h:cn n i=some j):seqIndex? i n=some j/\j<n/\-(n:Int)<=i/\i<n:=by
 unfold cn at h;by_cases h0:0<=i;.rw[AE h0] at h;by_cases h1:i<n;(.rw[AE h1] at h;have e:i.toNat=j:=ZO h;exact⟨by rw[seqIndex_of h0 h1,e],by lia,by lia,h1⟩);.rw[AB h1] at h;cases h
 .rw[AB h0] at h;by_cases h1:-(n:Int)<=i;(.rw[AE h1] at h;have e:(i+n).toNat=j:=ZO h;exact⟨by rw[seqIndex_neg (by lia) h1,e],by lia,h1,by lia⟩);.rw[AB h1] at h;cases h
theorem Zf(h:PD xs i=some v):∃j,seqIndex? i xs.length=some j/\xs[j]?=some v/\j<xs.length/\-(xs.length:Int)<=i/\i<xs.length:=by unfold PD at h;cases e:cn xs.length i with | none=>rw[e] at h;cases h | some j =>rw[e] at h;obtain⟨h1,h2,h3,h4⟩:=Je1 e;exact⟨j,h1,h,h2,h3,h4⟩
theorem Jfi{α:Type}{xs:List α}{j:Nat}{v:α}(h:xs[j]?=some v):PD xs (j:Int)=some v:=by
 have hj:j<xs.length:=(ZJ h).1;have e:cn xs.length (j:Int)=some j:=by unfold cn;rw[AE (by lia),AE (by lia)];simp
 unfold PD;rw[e];exact h
def Jfo(b:Expr):Prop:=∀o i,subscripted b false o i=operate [o,i] (getItem o i)
def nv(X:Cx)(r:R2):Prop :=
 ∀(value slice:Expr)(AA:List (Addr×Obj))(s:Shared)(σ:St)(H:Hp)(x y:V)(v u:Value)(Q:VK),Inv X AA σ H s->RelV x v->RelV y u->r x y H Q ->
  subscripted slice false v u=operate [v,u] (getItem v u)->wpAny (model X.prog X.w) X.A (subscriptTail value slice v u) (EP X AA σ Q) X.xe s
def jm(X:Cx)(id:String)(r:V->List V->Hp->VK->Prop):Prop :=
 ∀(AA:List (Addr×Obj))(s:Shared)(σ:St)(H:Hp)(x:V)(xs:List V)(v:Value)(us:List Value)(Q:VK),Inv X AA σ H s->RelV x v->Vals xs us->r x xs H Q ->
  wpAny (model X.prog X.w) X.A (call (.builtin id) (v::us)) (EP X AA σ Q) X.xe s
section
variable {X:Cx}{a b:Expr}{ta tb:TE}{pos:Pos}
theorem Az{r:R2}(hr:nv X r)(ha:PE X a ta)(hb:PE X b tb)(hs:Jfo b:=by exact λ_ _=>rfl):PE X (.Subscript a b pos) (RR r ta tb):=by intro AA s σ H Q I h;exact Subscript_ (nD ha hb I h λv u s2 x y H2 I2 rx ry q=>hr a b AA s2 σ H2 x y v u Q I2 rx ry q (hs _ _))
inductive Ji6(K:W.Frag)(x:V)(y:V)(H:Hp)(Q:VK):Prop
 | mk (p xs i v) (e0:x=.ref p) (e1:y=.int i) (e2:EC K H p xs) (e3:PD xs i=some v) (e4:Q v H)
def Jj9(K:W.Frag):R2:=λx y H Q=>Ji6 K x y H Q
inductive Ji5(K:W.Frag)(x:V)(y:V)(H:Hp)(Q:VK):Prop
 | mk (p xs i v) (e0:x=.ref p) (e1:y=.int i) (e2:CL K H p xs) (e3:PD xs i=some v) (e4:Q v H)
def f'(K:W.Frag):R2:=λx y H Q=>Ji5 K x y H Q
theorem D9:nv X (Jj9 X.K):=by
 intro value slice AA s σ H x y v u Q I rx ry h hs;obtain⟨p,xs,i,z,rfl,rfl,hq,he,q⟩:=h;cases rx;obtain⟨t,rfl⟩:=ry;obtain⟨its,r,pl,hz⟩:=I.list hq;obtain⟨j,h1,h2,h3,h4,h5⟩:=Zf he;obtain⟨w,ew,OZ⟩:=r.get h2;have hl:=r.length;have hn:=Sv;have fin:EP X AA σ Q w s:=⟨z,H,I,OZ,q⟩;by_cases h0:0<=i;·(have hj:i.toNat=j:=by rw[seqIndex_of h0 h5] at h1;exact ZO h1);exact item_listR pl.isList h0 (by lia) (by rw[hj];simpa using ew) fin hs
 ·(have hj:(i+(its.toArray.size:Int)).toNat=j:=by rw[seqIndex_neg (by lia) h4] at h1;rw[A_,<-hl];exact ZO h1);exact subscriptTail_builtinR (x:=w) pl.isList.typeIs slot_list_getitem.lookup (wpAny_getItem_list_neg (Q:=λr s'=>r=w/\EP X AA σ Q r s') pl.isList (by lia) (by rw[A_]<;>lia) (by lia) (by rw[hj];simpa using ew) ⟨rfl,fin⟩) hs
theorem Av:nv X (f' X.K):=by intro value slice AA s σ H x y v u Q I rx ry h hs;obtain⟨p,xs,i,z,rfl,rfl,hq,he,q⟩:=h;cases rx;obtain⟨t,rfl⟩:=ry;obtain⟨its,r,pl,hz⟩:=I.tuple hq;obtain⟨j,h1,h2,h3,h4,h5⟩:=Zf he;obtain⟨w,ew,OZ⟩:=r.get h2;have hl:=r.length;have hn:=Sv;have fin:EP X AA σ Q w s:=⟨z,H,I,OZ,q⟩;exact subscriptTail_builtinR (x:=w) pl.typeIs slot_tuple_getitem.lookup (getItem_tuple (j:=j) (Q:=λr s'=>r=w/\EP X AA σ Q r s') pl (by lia) (by lia) (by rw[A_,<-hl];exact h1) (by simpa using ew) ⟨rfl,fin⟩) hs
theorem Rl(lo hi:Option Int)(n:Nat):(sliceBounds lo hi none n).1=((HT.QO n 0 lo:Nat):Int)/\(sliceBounds lo hi none n).2.1=((HT.QO n n hi:Nat):Int)/\(sliceBounds lo hi none n).2.2=1:=by
 refine⟨?_,?_,rfl⟩;.cases lo with | none=>simp[sliceBounds,HT.QO] | some i =>simp only[sliceBounds,HT.QO,Option.getD_none,show(1:Int) > 0 by decide,GJ];by_cases h:i<0;(.simp only[h,GJ]<;>lia);.simp only[h,DV]<;>lia
 .cases hi with | none=>simp[sliceBounds,HT.QO] | some i =>simp only[sliceBounds,HT.QO,Option.getD_none,show(1:Int) > 0 by decide,GJ];by_cases h:i<0;(.simp only[h,GJ]<;>lia);.simp only[h,DV]<;>lia
theorem O7(its:List Value)(lo hi:Option Int):slicePick its.toArray lo hi none=((its.drop (HT.QO its.length 0 lo)).take (HT.QO its.length its.length hi-HT.QO its.length 0 lo)).toArray:=by obtain⟨h1,h2,h3⟩:=Rl lo hi its.toArray.size;unfold slicePick;rw[h1,h2,h3];simp only[sliceRange_one,pick_run,A_]<;>rfl
def Jj6(K:W.Frag):V->Option Int->Option Int->Hp->VK->Prop:=λx lo hi H Q=>∃a xs,x=.ref a/\EC K H a xs/\∀p,H p=none->Q (.ref p) (upd H p (.BI (Kq xs lo hi)))
theorem Jdx:uU X (Jj6 X.K):=by intro AA s σ H x v vl vu lo hi sl Q I rx hs pl pu h;obtain⟨a,xs,rfl,hx,q⟩:=h;cases rx;obtain⟨its,r,ht,hz⟩:=I.list hx;have hlen:=r.length;refine⟨"list",_,slot_list_getitem.lookup,ht.isList.typeIs,?_⟩;refine wpAny_getItem_list_slice ht.isList hs pl pu .none (by simp) ?_ (by rw[A_]<;>lia);rw[O7,<-hlen];refine⟨.ref s.heap.objs.size,_,I.laid (t':=s.toks) (o:=.BI (Kq xs lo hi)) (λb ob q=>ZT _ q) (ZG _) ?_,rfl,q _ (I.CT.fresh (ZG _))⟩;exact⟨BE (Vz xs lo hi) hz,_,0,(r.drop (HT.QO xs.length 0 lo)).take (HT.QO xs.length xs.length hi-HT.QO xs.length 0 lo),ZU _ rfl⟩
def L0:V->Bool
 | .EE=>true
 | .bl _=>true
 | .int _=>true
 | .str _=>true
 | _=>false
def YB:V->V->Bool
 | .EE,.EE=>true
 | .bl a,.bl b=>a==b
 | .bl a,.int b=>(if a then 1 else 0)==b
 | .int a,.bl b=>a==(if b then 1 else 0)
 | .int a,.int b=>a==b
 | .str a,.str b=>a==b
 | _,_=>false
theorem Jg9(ry:RelV y u)(rx:RelV x v)(fy:L0 y=true)(fx:L0 x=true):SeqAt.EqAt A s u v (YB y x):=by cases y with | EE =>cases ry;(cases x with | EE=>cases rx;exact SeqAt.EqAt.same _ | bl b=>cases rx;exact SeqAt.EqAt.none_bool b | int b=>obtain⟨t,rfl⟩:=rx;exact SeqAt.EqAt.none_int b t | str b=>obtain⟨t,rfl⟩:=rx;exact SeqAt.EqAt.none_str b t | _=>exact absurd (show false=true from fx) AL) | bl a =>cases ry;(cases x with | EE=>cases rx;exact SeqAt.EqAt.bool_none a | bl b=>cases rx;exact SeqAt.EqAt.bool_bool a b | int b=>obtain⟨t,rfl⟩:=rx;exact SeqAt.EqAt.bool_int a b t | str b=>obtain⟨t,rfl⟩:=rx;exact SeqAt.EqAt.bool_str a b t | _=>exact absurd (show false=true from fx) AL) | int a =>obtain⟨t',rfl⟩:=ry;(cases x with | EE=>cases rx;exact SeqAt.EqAt.int_none a t' | bl b=>cases rx;exact SeqAt.EqAt.int_bool a t' b | int b=>obtain⟨t,rfl⟩:=rx;exact SeqAt.EqAt.int_int a t' b t | str b=>obtain⟨t,rfl⟩:=rx;exact SeqAt.EqAt.int_str a t' b t | _=>exact absurd (show false=true from fx) AL) | str a =>obtain⟨t',rfl⟩:=ry;(cases x with | EE=>cases rx;exact SeqAt.EqAt.str_none a t' | bl b=>cases rx;exact SeqAt.EqAt.str_bool a t' b | int b=>obtain⟨t,rfl⟩:=rx;exact SeqAt.EqAt.str_int a t' b t | str b=>obtain⟨t,rfl⟩:=rx;exact SeqAt.EqAt.str_str a t' b t | _=>exact absurd (show false=true from fx) AL) | _=>exact absurd (show false=true from fy) AL
def YC(x:V)(u:Value):Bool:=match u with
 | .none=>YB .EE x
 | .bool b=>YB (.bl b) x
 | .int i _=>YB (.int i) x
 | .str z _=>YB (.str z) x
 | _=>false
theorem vN(r:RelV y u)(f:L0 y=true):YC x u=YB y x:=by cases y with | EE=>cases r;rfl | bl b=>cases r;rfl | int i=>obtain⟨t,rfl⟩:=r;rfl | str z=>obtain⟨t,rfl⟩:=r;rfl | _=>exact absurd (show false=true from f) AL
theorem Tu:∀{xs:List V} {us:List Value},Vals xs us->xs.all L0=true->us.any (YC x)=xs.any λy=>YB y x
 | _,_,.nil,_=>rfl
 | y::xs,u::us,.cons r t,f=>by rw[List.all_cons,JG] at f;rw[JK,JK,vN r f.1,Tu t f.2]
theorem N3(rx:RelV x v)(fx:L0 x=true):∀{xs:List V} {us:List Value},Vals xs us->xs.all L0=true->∀u∈us,SeqAt.EqAt A s u v (YC x u)
 | _,_,.nil,_=>λu hu=>by cases hu
 | y::xs,u::us,.cons r t,f=>λu' hu=>by rw[List.all_cons,JG] at f;rcases ZM hu with rfl|hu;(.rw[vN r f.1];exact Jg9 r rx f.1 fx);.exact N3 rx fx t f.2 u' hu
def eF(x:V)(xs:List V):Bool:=xs.any λy=>YB y x
def wN(K:W.Frag)(neg:Bool):R2:=λx y H Q=>∃p xs,y=.ref p/\(EC K H p xs\/CL K H p xs)/\L0 x=true/\xs.all L0=true/\Q (.bl (if neg then !eF x xs else eF x xs)) H
theorem Zz:PF X (compareOp .In) (wN X.K false):=by
 intro AA s σ H x y v u Q I rx ry h;obtain⟨p,xs,rfl,hq,fx,fs,q⟩:=h;cases ry;rcases hq with hq|hq;.obtain⟨its,r,pl,hz⟩:=I.list hq;refine SeqAt.in_listAt (YC x) pl.isList (λw hw=>N3 rx fx r fs w (by simpa using hw)) ⟨.bl _,H,I,rfl,?_⟩;rw[show its.toArray.any (YC x)=its.any (YC x) by simp,Tu r fs];exact q
 .obtain⟨its,r,pl,hz⟩:=I.tuple hq;refine SeqAt.in_tupleAt (YC x) pl (λw hw=>N3 rx fx r fs w (by simpa using hw)) ⟨.bl _,H,I,rfl,?_⟩;rw[show its.toArray.any (YC x)=its.any (YC x) by simp,Tu r fs];exact q
theorem Bq:Fm X (.builtin "len") (λxs H Q=>∃p ys,xs=[.ref p]/\(EC X.K H p ys\/CL X.K H p ys)/\Q (.int ys.length) H):=by
 intro AA s σ H xs us Q I r h;obtain⟨p,ys,rfl,hq,q⟩:=h;obtain⟨u,rfl,rx⟩:=vals1 r;cases rx;have hn:=Sv;rcases hq with hq|hq;.obtain⟨its,r',pl,hz⟩:=I.list hq;have hlen:=r'.length;exact Calls.call_len_list pl.isList (by simp only[A_]<;>lia) ⟨.int ys.length,H,I.tok _,⟨s.toks+1,by rw[A_,hlen]⟩,q⟩
 .obtain⟨its,r',pl,hz⟩:=I.tuple hq;have hlen:=r'.length;exact len_tuple pl (by simp only[A_]<;>lia) ⟨.int ys.length,H,I.tok _,⟨s.toks+1,by rw[A_,hlen]⟩,q⟩
theorem Dx:Fm X (.type "tuple") (λxs H Q=>∃p ys,xs=[.ref p]/\((EC X.K H p ys/\∀l,H l=none->Q (.ref l) (upd H l (.BC ys)))\/(CL X.K H p ys/\Q (.ref p) H))):=by
 intro AA s σ H xs us Q I r h;obtain⟨p,ys,rfl,h⟩:=h;obtain⟨u,rfl,rx⟩:=vals1 r;cases rx;rcases h with⟨hq,q⟩|⟨hq,q⟩;.obtain⟨its,r',pl,hz⟩:=I.list hq;have hlen:=r'.length;refine call_tuple_list pl.isList (λh' kp=>?_) (by simp only[A_]<;>lia);have I1:Inv X AA σ H { s with heap:=h' }:=I.kept (t':=s.toks) kp;have I2:Inv X AA σ (upd H h'.objs.size (.BC ys)) { s with heap:=h'.push { cls:=.type "tuple",data:=.seq its.toArray } } :=I1.laid (t':=s.toks) (λb o e=>ZT _ e) (ZG _) (show CZ X.prog X.w _ _ _ (.BC ys) from⟨hz,its,r',IsTup.new _ _⟩);exact⟨.ref h'.objs.size,_,I2,rfl,q _ (I1.CT.fresh (ZG _))⟩
 .obtain⟨its,r',pl,hz⟩:=I.tuple hq;exact call_tuple_same pl ⟨.ref p,H,I,rfl,q⟩
def j'(K:W.Frag)(T:String)(x:V)(H:Hp):Prop:=match x with
 | .str _=>T="str"
 | .int _=>T="int"
 | .ref p=>(T="list"/\∃xs,EC K H p xs)\/(T="tuple"/\∃o,K.lookup p=some o/\o.cls=.type "tuple"/\o.dict=none) \/
  (T="dict"/\((∃kvs,H p=some (.dK kvs))\/∃kvs,H p=some (.dT kvs)))\/(T="set"/\∃S n,H p=some (.set S n))
 | _=>False
theorem vV(I:Inv X AA σ H s)(r:RelV x v)(ty:j' X.K T x H) : s.TypeIs v T/\∀a,v=.ref a->∃ob,s.heap.get? a=some ob/\ob.dict=none:=by cases x with | str z =>obtain⟨t,rfl⟩:=r;cases (show T="str" from ty);exact⟨typeIs_str s z t,λ_ e=>nomatch e⟩ | int i =>obtain⟨t,rfl⟩:=r;cases (show T="int" from ty);exact⟨typeIs_int s i t,λ_ e=>nomatch e⟩ | ref p =>cases r;rcases ty with⟨rfl,xs,hq⟩|⟨rfl,o,hk,hc,hd⟩|⟨rfl,hk⟩|⟨rfl,S,n,hk⟩;(.obtain⟨its,_,pl,_⟩:=I.list hq;refine⟨pl.isList.typeIs,λa e=>?_⟩;cases e;obtain⟨o,n,e,c,hd,_⟩:=pl;exact⟨o,e,hd⟩);(.refine⟨⟨o,I.LX p o hk,hc⟩,λa e=>?_⟩;cases e;exact⟨o,I.LX _ o hk,hd⟩);(·(have z:∃o,s.heap.get? p=some o/\o.ExactDict:=by rcases hk with⟨kvs,hk⟩|⟨kvs,hk⟩;(.obtain⟨_,_,_,_,o,_,_,e,ex,_⟩:=I.CT p _ hk;exact⟨o,e,ex⟩);.obtain⟨_,_,_,_,o,_,_,e,ex,_⟩:=I.CT p _ hk;exact⟨o,e,ex⟩);obtain⟨o,e,ex⟩:=z;refine⟨⟨o,e,ex.1⟩,λa e2=>?_⟩;cases e2;exact⟨o,e,ex.2.1⟩);.obtain⟨o,_,_,_,e,ex,_⟩:=I.CT p _ hk;refine⟨⟨o,e,ex.1⟩,λa e2=>?_⟩;cases e2;exact⟨o,e,ex.2.1⟩ | _=>exact False.elim ty
inductive Ji3(K:W.Frag)(T:String)(r:V->List V->Hp->VK->Prop)(x:V)(H1:Hp)(Q:VK):Prop
 | mk  (e0:j' K T x H1) (e1:r x [] H1 Q)
def Jjl(K:W.Frag)(T:String)(r:V->List V->Hp->VK->Prop)(to:TE):TE:=λσ H Q=>to σ H λx H1=>Ji3 K T r x H1 Q
inductive Jkr(K:W.Frag)(T:String)(r:V->List V->Hp->VK->Prop)(t:TA)(σ:St)(x:V)(H1:Hp)(Q:VK):Prop
 | mk  (e0:j' K T x H1) (e1:t σ H1 λxs H2=>r x xs H2 Q)
def v9(K:W.Frag)(T:String)(r:V->List V->Hp->VK->Prop)(to:TE)(t:TA):TE:=λσ H Q=>to σ H λx H1=>Jkr K T r t σ x H1 Q
variable {o e:Expr}{es:List Expr}{to:TE}{t:TA}{name:Str}{apos FV:Pos}{T id:String}{r:V->List V->Hp->VK->Prop}
theorem K0(pa:PlainAttrs T)(slot:Slot T name id)(lH:typeOf (.builtin id)=pure (.type "method_descriptor"))(hm:jm X id r)(ho:PE X o to)(WH:attributeBase o name X.env (eval o X.env)=eval o X.env:=by rfl)(WG:(apos.endLine==FV.line)=true:=by rfl):PE X (.Call (.Attribute o name apos) [] [] FV) (Jjl X.K T r to):=by intro AA s σ H Q I h;refine wpAny_Call_method0_late WH WG (DU (ho AA s σ H _ I h) ?_);rintro v s1 ⟨x,H1,I1,r1,ty,q1⟩;obtain⟨h1,h2⟩:=vV I1 r1 ty;exact⟨T,id,pa,slot,lH,h1,h2,EY rfl (PySem.evalArgs_none (hm AA s1 σ H1 x [] v [] Q I1 r1 .nil q1))⟩
theorem Lu(pa:PlainAttrs T)(slot:Slot T name id)(lH:typeOf (.builtin id)=pure (.type "method_descriptor"))(hm:jm X id r)(ho:PE X o to)(ha:PA X (e::es) t)(WH:attributeBase o name X.env (eval o X.env)=eval o X.env:=by rfl)(pE:((backTo FV (starEach (e::es) X.env)).all (λx=>!x.1)&&(backToKw FV (keywordEach [] X.env)).all (λx=>x.1.isSome) && decide ((e::es).length+([]:List Keyword).length+(if([]:List Keyword).isEmpty then 0 else 1)<30))=true:=by rfl)(WG:(apos.endLine==FV.line)=true:=by rfl)(hs:starEach (e::es) X.env=(false,eval e X.env)::starEach es X.env:=by rfl)(SQ:(backTo FV (starEach es X.env)).any (·.1)=false:=by rfl) : PE X (.Call (.Attribute o name apos) (e::es) [] FV) (v9 X.K T r to t):=by intro AA s σ H Q I h;refine wpAny_Call_method_late WH pE WG rfl (DU (ho AA s σ H _ I h) ?_);rintro v s1 ⟨x,H1,I1,r1,ty,q1⟩;obtain⟨h1,h2⟩:=vV I1 r1 ty;refine⟨T,id,pa,slot,lH,h1,h2,?_⟩;have hA:=ha FV AA s1 σ H1 _ I1 q1;rw[hs] at hA ⊢;refine EY (by show(false || (backTo FV (starEach es X.env)).any (·.1))=false;rw[SQ]<;>rfl) (FR ?_);exact DU hA λus s2 ⟨vs,H2,I2,r2,q2⟩=>hm AA s2 σ H2 x vs v us Q I2 r1 r2 q2
end
def fq(X:Cx)(id:String)(r:V->List V->Hp->VK->Prop):Prop :=
 ∀(AA:List (Addr×Obj))(s:Shared)(σ:St)(H:Hp)(x:V)(xs:List V)(v:Value)(us:List Value)(Q:VK),Inv X AA σ H s->RelV x v->Vals xs us->r x xs H Q ->
  wpAny (model X.prog X.w) X.A (call (.builtin id) (v::us)) (EP X AA σ Q) X.xe s
theorem Vals.one:∀{x:V} {us:List Value},Vals [x] us->∃u,us=[u]/\RelV x u
 | _,_,.cons r .nil=>⟨_,rfl,r⟩
theorem Vals.zero:∀{us:List Value},Vals [] us->us=[]
 | _,.nil=>rfl
theorem Vals.dropLast(h:Vals xs us):Vals xs.dropLast us.dropLast:=by induction h with | nil=>exact .nil | cons r t ih =>cases t with | nil=>exact .nil | cons q t'=>exact .cons r ih
theorem Xj(l:List α):l.eraseIdx (l.length-1)=l.dropLast:=by grind
section
variable {X:Cx}{AA:List (Addr×Obj)}{σ:St}{H:Hp}{s:Shared}{l b:Addr}{xs ys zs:List V}
theorem Inv.YV{its its':List Value}{n:Nat}{f:Array Value->Array Value}{t':Nat}(I:Inv X AA σ H s)(hH:H l=some (.BI xs))(e:s.heap.get? l=some { cls:=.type "list",data:=.seq its.toArray n })(hf:f its.toArray=its'.toArray)(hv:Vals ys its')(hz:ys.length<=sizeLine) : Inv X AA σ (upd H l (.BI ys)) { s with heap:=s.heap.update l (Obj.mapSeq f),toks:=t' }:=by have q:=PySem.IsL.update e f;rw[hf] at q;refine I.write (x:=l) (e:=l) (by rw[hH];exact trivial) (.inl rfl) (λb' u hb hu=>(CS s.heap (Obj.mapSeq f) (Ne.symm hb)).trans hu) ⟨_,q⟩ ?_;exact⟨hz,its',_,hv,q⟩
theorem Inv.gP(I:Inv X AA σ H s)(hv:Vals ys its)(hz:ys.length<=sizeLine) : Inv X AA σ (upd H s.heap.objs.size (.BI ys)) { s with heap:=s.heap.push { cls:=.type "list",data:=.seq its.toArray },toks:=t' } :=I.laid (λ_ _ q=>ZT _ q) (ZG _) ⟨hz,its,0,hv,ZU _ rfl⟩
theorem Inv.fresh(I:Inv X AA σ H s):H s.heap.objs.size=none:=I.CT.fresh (ZG _)
theorem Inv.SD(I:Inv X AA σ H s)(hH:H l=some (.BI xs)):xs.length<=sizeLine/\∃(its:List Value)(n:Nat),Vals xs its/\xs.length=its.length/\s.heap.get? l=some { cls:=.type "list",data:=.seq its.toArray n }:=by obtain⟨z,its,n,r,e⟩:=I.CT l _ hH;exact⟨z,its,n,r,r.length,e⟩
theorem U3(h:n<=sizeLine):Builtin.List.listTooLong n=false:=by unfold Builtin.List.listTooLong;exact AG (by lia)
end
section
variable {X:Cx}
inductive Jdm  (x:V) (vs:List V) (H:Hp) (Q:VK):Prop
 | mk (l xs y) (e0:x=.ref l) (e1:vs=[y]) (e2:H l=some (.BI xs)) (e3:xs.length<sizeLine) (e4:Q .EE (upd H l (.BI (xs++[y]))))
def Jea:V->List V->Hp->VK->Prop:=λx vs H Q=>Jdm  x vs H Q
theorem F6:fq X "list.append" Jea:=by intro AA s σ H x vs v us Q I rx rv h;obtain⟨l,xs,y,rfl,rfl,hH,hz,q⟩:=h;cases rx;obtain⟨u,rfl,ru⟩:=rv.one;obtain⟨z,its,n,r,hl,e⟩:=I.SD hH;refine call_meets F.slot_list_append ⟨_,e,rfl⟩ F.entry_list_append (F.args_list_append_2 _ _) (PySem.list_append l its.toArray n u (by rw[A_];lia)) ⟨e,?_⟩;refine⟨.EE,_,I.YV (its':=its++[u]) hH e (by simp) (r.append (.cons ru .nil)) ?_,rfl,q⟩;rw[ZE,DG];lia
def Jd9:V->List V->Hp->VK->Prop:=λx vs H Q=>∃l b xs zs,x=.ref l/\vs=[.ref b]/\H l=some (.BI xs)/\H b=some (.BI zs)/\xs.length+zs.length<=sizeLine/\Q .EE (upd H l (.BI (xs++zs)))
theorem Pz:fq X "list.extend" Jd9:=by
 intro AA s σ H x vs v us Q I rx rv h;obtain⟨l,b,xs,zs,rfl,rfl,hH,hB,hz,q⟩:=h;cases rx;obtain⟨u,rfl,ru⟩:=rv.one;cases ru;obtain⟨z,its,n,r,hl,e⟩:=I.SD hH;obtain⟨z2,NO,n2,r2,yY,e2⟩:=I.SD hB;have hsz:its.toArray.size+NO.toArray.size<=sizeLine:=by rw[A_,A_];lia
 have WE:¬(!its.toArray.isEmpty&&Builtin.List.listTooLong (its.toArray.size+NO.toArray.size))=true:=by rw[U3 hsz,Bool.and_false];exact AL
 refine call_meets F.slot_list_extend ⟨_,e,rfl⟩ F.entry_list_extend (F.args_list_extend_2 _ _) (AutoSeq1.list_extend_list_list_0 l its.toArray n b NO.toArray n2 WE (by rw[A_];lia) (by lia)) ⟨e,e2,?_⟩;refine⟨.EE,_,I.YV (its':=its++NO) hH e (by simp) (r.append r2) ?_,rfl,q⟩;rw[ZE];lia
def Jj7:V->List V->Hp->VK->Prop:=λx vs H Q=>∃l xs y,x=.ref l/\vs=[]/\H l=some (.BI xs)/\xs[xs.length-1]?=some y/\Q y (upd H l (.BI xs.dropLast))
theorem vI:fq X "list.pop" Jj7:=by
 intro AA s σ H x vs v us Q I rx rv h;obtain⟨l,xs,y,rfl,rfl,hH,hy,q⟩:=h;cases rx;have jU:=rv.zero;subst jU;obtain⟨z,its,n,r,hl,e⟩:=I.SD hH;obtain⟨u,hu,ru⟩:=r.get hy;have yC:its.toArray[its.toArray.size-1]?=some u:=by show its.toArray[its.length-1]?=some u;rw[<-Array.getElem?_toList,<-hl];exact hu
 refine call_meets F.slot_list_pop ⟨_,e,rfl⟩ F.entry_list_pop (F.args_list_pop_1 _) (MeetsSeq.list_pop_last l its.toArray n u yC (by rw[A_];lia)) ⟨e,?_⟩;refine⟨y,_,I.YV (its':=its.dropLast) hH e ?_ r.dropLast ?_,ru,q⟩;.show its.toArray.eraseIdxIfInBounds (its.toArray.size-1)=its.dropLast.toArray;rw[A_,List.eraseIdxIfInBounds_toArray,Xj]
 .rw[List.length_dropLast];lia
def Jkc:R2:=λx y H Q=>∃l b xs zs,x=.ref l/\y=.ref b/\H l=some (.BI xs)/\H b=some (.BI zs)/\xs.length+zs.length<=sizeLine/\∀p,H p=none->Q (.ref p) (upd H p (.BI (xs++zs)))
theorem Jgr:PF X (binaryOp .Add) Jkc:=by
 intro AA s σ H x y v u Q I rx ry h;obtain⟨l,b,xs,zs,rfl,rfl,hH,hB,hz,q⟩:=h;cases rx;cases ry;obtain⟨z,its,n,r,hl,e⟩:=I.SD hH;obtain⟨z2,NO,n2,r2,yY,e2⟩:=I.SD hB;refine PySem.P.add_list e e2 ?_ (by rw[A_,A_];lia);have ea:its.toArray++NO.toArray=(its++NO).toArray:=by simp
 rw[ea];exact⟨.ref _,_,I.gP (t':=s.toks) (r.append r2) (by rw[ZE];lia),rfl,q _ I.fresh⟩
end
section
variable {prog:Program}{w:World}{A:Around}{E:Value->Shared->Prop}{s:Shared}
end
section
variable {X:Cx}
end
end L2
namespace Att
open PySem PySem.W PySem.Calls PyProof.Rows
theorem Ma:∀(ns:List Int)(vs:List Value),WellAll P h vs (ns.map WData.int)->IntsAre vs ns:=by intro ns;induction ns with | nil =>intro vs w;rw[E'] at w;cases w;exact .nil | cons n ns ih =>intro vs w;rw[AK] at w;cases w with | cons a b =>cases a;exact .cons _ _ (ih _ b)
theorem Zs{l:OpenLaw}{n:Nat}(hn:l.most=some n){P:Params}{h:Heap}{args:List WData}{vals:List Value}(YW:l.row.toRowW.claim.pre args=true)(eI:WellAll P h vals args) : ∃a vs ns,vals=[Value.ref a]/\args=[WData.list (ns.map WData.int)]/\h.get? a=some { cls:=.type "list",data:=.seq vs.toArray }/\IntsAre vs ns/\ns.length<=n:=by
 have lK:WShape.hasAll [] args [.list .int]=true:=(pre_splitW YW).1;have hc:l.pre.holds [] { args:=args }=true:=(pre_splitW YW).2;obtain⟨d,r,rfl,h1,h2⟩:=hasAllW_cons lK;obtain rfl:=hasAllW_nil h2;obtain⟨xs,rfl,h3⟩:=hasW_list h1;obtain⟨ns,rfl⟩:=items_int h3;have hlen:ns.length<=n:=by unfold OpenLaw.pre at hc;(have h4:(WTm.not (.lt (.lit (.int (n:Int))) (.len (.arg 0)))).holds [] { args:=[.list (ns.map .int)] }=true:=by have h4:=(holds_andW hc).1;rw[hn] at h4;exact h4);have h5:=condW_of h4 (w_not (w_lt w_lit (w_len_list (w_arg rfl))));rw[ZA] at h5;refine Nat.le_of_not_lt λq=>?_;(have q':(n:Int)<((ns.length:Nat):Int):=by lia);first | (rw[AJ q'] at h5;exact absurd h5 (by decide)) | (simp at h5;lia)
 cases eI with | cons w1 w2 =>cases w2;cases w1 with | list ho pK=>exact⟨_,_,ns,rfl,rfl,ho,Ma ns _ pK,hlen⟩
theorem Zx(l:OpenLaw)(args:List WData):l.row.toRowW.claim.post args (.bool true) args=true :=postW_of (r:=l.row.toRowW) (X:=(true==true)) (show WShape.has [] (.bool true) .bool=true by first|rfl|decide|simp[WShape.has,WShape.arms,WShape.armsAll]) (show(WTm.eq .res (.lit (.bool true))).value [] { args:=args,res:=some (.bool true),after:=args }=some (.bool (true==true)) from w_eq_bool (w_res rfl) w_lit) rfl
theorem RK{l:OpenLaw}{n:Nat}{q:Program}{loose:List Str}{XP:(Str->Option Value)->Heap->Prop}{YP:World->Heap->Prop}{d:DefRec}(hn:l.most=some n)(eZ:d.params.defaults=[])(call:∀(w:World) (GQ DQ:Shared) (mg mb:Str->Option Value) (fa:Addr) (o:Obj) (pm cd doc:Value) (a:Addr) (vs:List Value) (ns:List Int),Ground q loose [] XP w GQ mg mb DQ.heap->YP w DQ.heap -> DQ.heap.get? fa=some o->o.data=.func (docDef d.name d.params d.body d.scope pm cd doc)->DQ.heap.CodeRec cd d.name->mg d.name=some (.ref fa) -> DQ.heap.get? a=some { cls:=.type "list",data:=.seq vs.toArray }->IntsAre vs ns->ns.length<=n->DQ.gens=#[] -> codeAny (model l.prog w) callerA (.call (.ref fa) ⟨[.ref a],[]⟩) (λr s'=>r=.ok (.ret (.bool true))/\OldK DQ.heap s'.heap/\s'.os=DQ.os/\AllBare s'.gens) DQ) : WalkO q loose XP YP l.row.toRowW d [] (λf vs=>PySem.call f vs):=by intro w GQ DQ mg mb G Y fa o pm cd doc dV kV ho hd T_ hD hmg hg args vals as YW JGi hrd eI hlo;obtain rfl:dV=.none:=Dflts.none hD eZ;obtain rfl:kV=.none:=Dflts.noKw hD;obtain⟨a,vs,ns,rfl,rfl,bt,hints,hlen⟩:=Zs hn YW eI;refine enter_call (GX (call w GQ DQ mg mb fa o pm cd doc a vs ns G Y ho (fd_plain hd) T_ hmg bt hints hlen hg) λr s' hq=>?_);obtain⟨rfl,h2,h3,h4⟩:=hq;exact⟨.inl ⟨.bool true,.bool true,[],rfl,λ_=>rfl,.bool true,Zx l _,λ_=>⟨List.Pairwise.nil,λ_ hm=>(nomatch hm)⟩⟩,h2,h3,h4⟩
section
variable {prog:Program}{w:World}{A:Around}{E:Value->Shared->Prop}{s:Shared}{K:Frag}
def ledger(h:Heap)(L d:Addr):List (Addr×Obj):=(List.range h.objs.size).filterMap λa=>if a=L\/a=d then none else(h.get? a).map λo=>(a,o)
end
end Att
namespace L2
open PySem PySem.Spec PyProof.Rows
theorem Ku:∀{vs:List Value} {ns:List Int},IntsAre vs ns->Vals (ns.map V.int) vs
 | _,_,.nil=>.nil
 | _,_,.cons n t h=>.cons ⟨t,rfl⟩ (Ku h)
def jr(H:Hp):Prop:=∀b,H b=none\/∃o xs,H b=some (.FJ o (.BI xs))
theorem Jcr{P:Program}{w:World}{K:W.Frag}{mg mb:Str->Option Value}{CX:UG}{k:Nat}{fa a:Addr}{fd:FuncData}{x:Str}{sp:Sp}{DQ:Shared}{vs:List Value}{ns:List Int}(KX:K.In DQ.heap)(rb:DQ.heap.Ns mainGlobals mg)(hb:DQ.heap.Ns builtinsNs mb)(yj:∀x:Str,x≠"__name__"->mb x=bootBuiltins x)(pD:DQ.heap.NoLimit)(hg:DQ.gens=#[])(ha:DQ.heap.get? a=some { cls:=.type "list",data:=.seq vs.toArray })(hi:IntsAre vs ns)(hl:ns.length<=sizeLine)(hr:CU k callerA)(F:∀base:Heap,K.In base->base.Ns mainGlobals mg->DZ P w K mg base CX k fa fd [x] sp)(ik:∀(s:Shared) (u:Value),BindsTo s fd ⟨[u],[]⟩ [(x,u)])(WX:∀H:Hp,jr H->EC K H a (ns.map V.int)->sp [.ref a] H (λv _=>v=.bl true) λ_ _ _=>False)(l9:∀H e s',CX [] H DQ (λ_ _ _=>False) e s'->False) : codeAny (model P w) callerA (.call (.ref fa) ⟨[.ref a],[]⟩) (λr s'=>r=.ok (.ret (.bool true))/\OldK DQ.heap s'.heap/\s'.os=DQ.os/\AllBare s'.gens) DQ:=by
 have rv:=Ku hi;have ow:=hi.length;have core:∀H:Hp,jr H->EC K H a (ns.map V.int)->KL P w H DQ.heap->(∀b,H b≠none->b=a)->(H a≠none->K.lookup a=none) -> codeAny (model P w) callerA (.call (.ref fa) ⟨[.ref a],[]⟩) (λr s'=>r=.ok (.ret (.bool true))/\OldK DQ.heap s'.heap/\s'.os=DQ.os/\AllBare s'.gens) DQ:=by intro H hO hS CT hA hK;have TX:∀{b:Addr} {o:Obj},DQ.heap.get? b=some o->H b=none->(To DQ.heap H).get? b=some o:=λe n=>Jcw e n;(have d_:∀{b:Addr} {o:Obj} {es:Array DictEntry} {ep:Nat},DQ.heap.get? b=some o->o.data=.dict es ep->H b=none:=λ{b o es ep} e d=>by cases q:H b with | none=>rfl | some u =>have e':b=a:=hA b (by rw[q];simp);subst e';rw[ha] at e;cases e;have d':Data.seq vs.toArray _=Data.dict es ep:=d;cases d');have jI:∀{b:Addr} {m:Str->Option Value},DQ.heap.Ns b m->(To DQ.heap H).Ns b m:=λ{b m} ⟨o,es,ep,e,d,r⟩=>⟨o,es,ep,TX e (d_ e d),d,r⟩;have sJ:K.In (To DQ.heap H):=λb o e=>TX (KX b o e) (by cases q:H b with | none=>rfl | some u =>have e':b=a:=hA b (by rw[q];simp);subst e';rw[hK (by rw[q];simp)] at e;cases e);have hM:Mod K mg (To DQ.heap H):=⟨sJ,jI rb,⟨mb,jI hb,yj⟩,let⟨mc,h1,h2⟩:=pD;⟨mc,jI h1,h2⟩⟩;have e0:SM P w K mg (To DQ.heap H) callerA [] DQ H:=⟨rfl,hM,λb o e=>Jeu e,Nat.le_of_eq (Jah _ _),trivial,λb hb=>absurd (show b∈([]:List Addr) from hb) (by simp),CT,.of_eq hg⟩;refine GX ((F _ sJ (jI rb)).run callerA [] DQ H ⟨[.ref a],[]⟩ [.ref a] [.ref a] _ _ hr e0 (ik DQ (.ref a)) (.cons rfl .nil) (WX H hO hS)) λr s' h=>?_;cases r with | error e=>exact(l9 H e s' h).elim | ok fl =>cases fl with | next=>exact False.elim h | brk=>exact False.elim h | cont=>exact False.elim h | ret u =>obtain⟨v,H',os,bare,un,o_,r',q⟩:=h;have q':v=.bl true:=q;subst q';obtain rfl:u=Value.bool true:=r';refine⟨rfl,OldK.of_keep λb o e=>?_,os,bare⟩;cases q:H b with | none=>exact un.keep b o e q (by intro z;exact absurd (show b∈([]:List Addr) from z) (by simp)) (by simp) | some u =>rcases hO b with z|⟨ob,xs,z⟩;(.rw[q] at z;cases z);.have z2:=un.LF b ob _ z;obtain⟨e1,_⟩:=CT b _ z;obtain⟨e2,_⟩:=o_ b _ z2;rw[e] at e1;cases e1;exact e2
 cases hk:K.lookup a with | some o =>have e:=KX a o hk;rw[ha] at e;cases e;refine core (λ_=>none) (λ_=>.inl rfl) (.inr ⟨_,vs.toArray,_,hk,rfl,rfl,rfl,by rw[A_,ow];exact hl,by simpa using rv⟩) (λb u z=>by have z':(none:Option HO)=some u:=z;cases z') (λb z=>absurd rfl z) λz=>absurd rfl z | none =>refine core (λb=>if b=a then some (.FJ { cls:=.type "list",data:=.seq vs.toArray } (.BI (ns.map V.int))) else none) (λb=>?_) (.inl (.inr ⟨{ cls:=.type "list",data:=.seq vs.toArray },AE rfl⟩)) (λb u z=>?_) (λb z=>?_) λ_=>hk;(.by_cases hb:b=a;(.exact .inr ⟨_,_,AE hb⟩);.exact .inl (AB hb));(.by_cases hb:b=a;(.have z':=(AE hb).symm.trans z;cases z';subst hb;exact⟨ha,by rw[ZA];exact hl,vs,_,rv,ha⟩);.have z':=(AB hb).symm.trans z;cases z');.by_cases hb:b=a;(.exact hb);.exact absurd (AB hb) z
abbrev KOf{K:W.Frag}{h:Heap}(_:K.In h):W.Frag:=K
theorem YY{l:W.OpenLaw}{n k:Nat}{q:Program}{loose:List Str}{XP:(Str->Option Value)->Heap->Prop}{YP:World->Heap->Prop}{d:DefRec}{K:Params->W.Frag}{CX:World->UG}{sp:World->Sp}{x:Str}(hn:l.most=some n)(aF:n<=sizeLine)(eZ:d.params.defaults=[])(hr:CU k callerA)(hY:∀(w:World) (h:Heap),YP w h->(K w.params).In h)(F:∀(w:World) (mg:Str->Option Value) (fa:Addr) (h:Heap),(K w.params).In h->h.Ns mainGlobals mg->mg d.name=some (.ref fa) -> ∃fd:FuncData,(∀(s:Shared) (u:Value),BindsTo s fd ⟨[u],[]⟩ [(x,u)]) /\ ∀base:Heap,(K w.params).In base->base.Ns mainGlobals mg->DZ l.prog w (K w.params) mg base (CX w) k fa fd [x] (sp w))(WX:∀(w:World) (H:Hp) (a:Addr) (ns:List Int),ns.length<=n->jr H->EC (K w.params) H a (ns.map V.int)->sp w [.ref a] H (λv _=>v=.bl true) λ_ _ _=>False)(l9:∀(w:World) (H:Hp) (s:Shared) (e:Value) (s':Shared),CX w [] H s (λ_ _ _=>False) e s'->False) : W.WalkO q loose XP YP l.row.toRowW d [] (λf vs=>PySem.call f vs):=by refine Att.RK hn eZ λw GQ DQ mg mb fa o pm cd doc a vs ns G Y ho hd T_ hmg bt hints hlen hg=>?_;have KX:=hY w _ Y;obtain⟨fd,hb,hF⟩:=F w mg fa _ KX G.T.g hmg;exact Jcr KX G.T.g G.T.b G.T.builtins G.T.nolimit hg bt hints (BE hlen aF) hr hF hb (λH hO hS=>WX w H a ns hlen hO hS) λH e s'=>l9 w H DQ e s'
def inClass(s:Stmt)(j:Nat):Stmt:=match s with
 | .ClassDef _ _ _ body _ _ _ _ _ _ _=>body.getD j (.Pass ⟨0,0,0,0⟩)
 | _=>.Pass ⟨0,0,0,0⟩
def Mt(s:Stmt):Arguments:=match s with
 | .FunctionDef _ a _ _ _ _ _ _ _ _=>a
 | _=>{ posonlyargs:=[],args:=[],vararg:=none,kwonlyargs:=[],kw_defaults:=[],kwarg:=none,defaults:=[] }
def Gq(s:Stmt):List Stmt:=match s with
 | .FunctionDef _ _ b _ _ _ _ _ _ _=>b
 | _=>[]
def Aj(s:Stmt):Scope:=match s with
 | .FunctionDef _ _ _ _ _ _ sc _ _ _=>sc
 | _=>{ kind:=.function,names:=[],isGenerator:=false,isCoroutine:=false }
abbrev VS:UG:=λ_ _ _ _ _ _=>False
abbrev E0:XK:=λ_ _ _=>False
theorem Bb:Gr VS X E0:=λ_ _ _ _ _ _ _ h=>h.elim
structure EK(K:W.Frag)(x qual:Str)(st:Stmt)(f:Addr)(fd:FuncData):Prop where
 ex:∃(oc:Value)(od:Option Addr)(kV doc pm:Value)(an:Option Addr)(DP ct:Value)(ar:Array (Option Value)),
  fd=W.fnOf x qual (Mt st) (Gq st) (Aj st) .none kV doc pm an DP ct/\K.lookup f=some ⟨oc,od,.func fd,ar⟩/\W.codeIn K DP qual=true
 kp:W.keepIn K (.ref f)=true
section
variable {P:Program}{w:World}{K:W.Frag}{mg:Str->Option Value}{base:Heap}
theorem EK.ok{x qual:Str}{st:Stmt}{f:Addr}{fd:FuncData}{N ps:List Str}{k:Nat}{sp:Sp}(F:EK K x qual st f fd)(S:Ao N ps (Aj st))(len:∀vs H Q E,sp vs H Q E->vs.length=ps.length)(RH:∀(DP:Value) (A:Around) (outer:List Env) (s:Shared) (H:Hp) (vs:List V) (Q:VK) (E:XK),CU k (A.deeper (envOfC qual (Aj st) s.heap.objs.size f DP))->sp vs H Q E -> ∃t,N' (Iz VS P w K mg base N qual (Aj st) f DP A outer s H E).d0 (Gq st) t/\t { nx:=λ_ H'=>Q .EE H',rt:=Q } (start N vs) H):DZ P w K mg base VS (k+1) f fd ps sp:=by obtain⟨oc,od,kV,doc,pm,an,DP,ct,ar,rfl,lk,T_⟩:=F.ex;refine uu lk T_ S len λA outer s H vs Q E hr WX=>?_;obtain⟨t,h,q⟩:=RH DP A outer s H vs Q E hr WX;exact⟨t,h.d0,q⟩
def Bd(P:Program)(w:World)(K:W.Frag)(mg:Str->Option Value)(base:Heap)(CX:UG)(b:Bool)(N ps:List Str)(qual:Str)(st:Stmt)(f:Addr)(k:Nat)(vs:List V)(H:Hp)(Q:VK)(E:XK):Prop :=
 vs.length=ps.length/\∀(DP:Value)(A:Around)(outer:List Env)(s:Shared),CU k (A.deeper (envOfC qual (Aj st) s.heap.objs.size f DP)) ->
  ∃t,N' (bif b then(Iz CX P w K mg base N qual (Aj st) f DP A outer s H E).d0 else Iz CX P w K mg base N qual (Aj st) f DP A outer s H E) (Gq st) t/\t { nx:=λ_ H'=>Q .EE H',rt:=Q } (start N vs) H
theorem EK.IQ{x qual:Str}{st:Stmt}{f:Addr}{fd:FuncData}{N ps:List Str}{k:Nat}{sp:Sp}(F:EK K x qual st f fd)(S:Ao N ps (Aj st))(h:∀vs H Q E,sp vs H Q E->Bd P w K mg base VS true N ps qual st f k vs H Q E):DZ P w K mg base VS (k+1) f fd ps sp :=F.ok S (λvs H Q E z=>(h vs H Q E z).1) λDP A outer s H vs Q E hr z=>(h vs H Q E z).2 DP A outer s hr
theorem EK.binds{x qual:Str}{st:Stmt}{f:Addr}{fd:FuncData}{ps:List Str}(F:EK K x qual st f fd)(h:∀(kV doc pm:Value) (an:Option Addr) (DP ct:Value) (us:List Value),us.length=ps.length->bindArgs (W.fnOf x qual (Mt st) (Gq st) (Aj st) .none kV doc pm an DP ct) ⟨us,[]⟩=pure (ps.zip us)):Binds K fd ps []:=by obtain⟨oc,od,kV,doc,pm,an,DP,ct,ar,rfl,lk,T_⟩:=F.ex;exact .all (h kV doc pm an DP ct)
end
theorem B3(hr:CU k A):A.units+1<cLine:=IB (Nat.add_le_add_left (by decide:1<=64) _) hr.units
theorem A7(h:n<=1000):n<sizeLine:=IB h (by decide)
section
variable {X:Cx}
theorem pv(i:Nat)(hN:X.N[i]?=some x:=by rfl)(hv:m8 X.env.scope x:=by first|exact Or.inl rfl|exact Or.inr (Or.inl rfl)|exact Or.inr (Or.inr rfl))(hd:(x==("__debug__":Str))=false:=by decide)(T_:(x==("__classdict__":Str))=false:=by decide):PE X (.Name x pos) (B6 i):=Jgk hN hv hd T_
theorem Ll:Fm X (.builtin "len") (λxs H Q=>∃a kvs,xs=[V.ref a]/\H a=some (.dK kvs)/\Q (.int kvs.length) H):=by intro AA s σ H xs us Q I r h;obtain⟨a,kvs,rfl,ha,q⟩:=h;obtain⟨u,rfl,ru⟩:=vals1 r;cases ru;exact Jir I (.inl ha) λt s' I'=>⟨.int kvs.length,H,I',⟨t,rfl⟩,q⟩
end
theorem Cd{A B:Prop}(h:B):if false=true then A else B:=by rw[AB AL];exact h
theorem Ck{A B:Prop}(h:A):if true=true then A else B:=by rw[AE rfl];exact h
theorem Tj{c A B:Prop}[Decidable c](h1:c->A)(h2:¬c->B):if c then A else B:=by
 by_cases h:c;.rw[AE h];exact h1 h
 .rw[AB h];exact h2 h
def Bi(H H':Hp):Prop:=∀b o,H b=some o->H' b=some o
section
variable {κ:Type}[DecidableEq κ]
theorem Fi:∀{l:List κ} {k:κ},l.Nodup->¬k∈l->(l++[k]).Nodup
 | [],k,_,_=>by simp
 | a::r,k,h,hk=>by obtain⟨h1,h2⟩:=AV.mp h;show(a::(r++[k])).Nodup;refine AV.mpr ⟨λm=>?_,Fi h2 λm=>hk (BZ.mpr (Or.inr m))⟩;rcases ZI m with q|q;(.exact h1 q);.exact hk (BZ.mpr (Or.inl (ZK q).symm))
theorem Jap{p:κ×V}{r:List (κ×V)}{k:κ}(e:p.1=k):Da (p::r) k=Da r k:=by unfold Da;rw[DC,AB (by simp[e])]
theorem Qn{p:κ×V}{r:List (κ×V)}{k:κ}(e:¬p.1=k):Da (p::r) k=p::Da r k:=by unfold Da;rw[DC,AE (by simp[e])]
theorem Oy:∀{kvs:List (κ×V)} {k:κ},¬k∈kvs.map (·.1)->Da kvs k=kvs
 | [],_,_=>rfl
 | p::r,k,h=>by (have h':¬k∈r.map (·.1):=λm=>by obtain⟨q,hq,e⟩:=ZN m;exact h (AI.mpr ⟨q,BZ.mpr (Or.inr hq),e⟩));rw[Qn λe=>h (AI.mpr ⟨p,BZ.mpr (Or.inl rfl),e⟩),Oy h']
end
end L2
set_option maxHeartbeats 4000000
namespace FX
open PySem PySem.Spec PyProof.Rows L2
inductive IW(K:W.Frag)(H:Hp):V->PyData->Prop
 | EE:IW K H .EE .none
 | bl (b:Bool):IW K H (.bl b) (.bool b)
 | int (i:Int):IW K H (.int i) (.int i)
 | str (x:Str):IW K H (.str x) (.str x)
 | BC {a:Addr} {xs:List V} {ds:List PyData}:CL K H a xs->xs.length=ds.length->(∀(j:Nat)(x:V)(d:PyData),xs[j]?=some x->ds[j]?=some d->IW K H x d)->IW K H (.ref a) (.tuple ds)
inductive Rep(K:W.Frag)(H:Hp):V->PyData->Prop
 | one {x:V} {d:PyData}:IW K H x d->Rep K H x d
 | BI {a:Addr} {xs:List V} {ds:List PyData}:EC K H a xs->Paired (IW K H) xs ds->Rep K H (.ref a) (.list ds)
theorem Ax:∀{xs:List α} {ys:List β},Paired R xs ys->∀(j:Nat)(x:α)(y:β),xs[j]?=some x->ys[j]?=some y->R x y
 | _,_,.nil,j,x,y,h,_=>by simp at h
 | _,_,.cons r t,0,x,y,h,h'=>by simp at h h';subst h;subst h';exact r
 | _,_,.cons r t,j+1,x,y,h,h'=>Ax t j x y (by simpa using h) (by simpa using h')
theorem Ei:∀{xs:List α} {ys:List β},xs.length=ys.length->(∀(j:Nat)(x:α)(y:β),xs[j]?=some x->ys[j]?=some y->R x y)->Paired R xs ys
 | [],[],_,_=>.nil
 | x::xs,y::ys,hl,h=>.cons (h 0 x y rfl rfl) (Ei (by simpa using hl) λj a b e1 e2=>h (j+1) a b (by simpa using e1) (by simpa using e2))
 | [],_::_,hl,_=>by simp at hl
 | _::_,[],hl,_=>by simp at hl
theorem IW.tupP{K:W.Frag}{H:Hp}{a:Addr}{xs:List V}{ds:List PyData}(h:CL K H a xs)(r:Paired (IW K H) xs ds):IW K H (.ref a) (.tuple ds) :=.BC h (Paired.length r) λj x d e1 e2=>Ax r j x d e1 e2
structure BU(H H':Hp):Prop where
 BC:∀a xs,H a=some (.BC xs)->H' a=some (.BC xs)
 FJ:∀a o u,H a=some (.FJ o u)->H' a=some (.FJ o u)
theorem BU.refl(H:Hp):BU H H:=⟨λ_ _ e=>e,λ_ _ _ e=>e⟩
theorem BU.trans(a:BU H H1)(b:BU H1 H2):BU H H2:=⟨λc xs e=>b.BC c xs (a.BC c xs e),λc o u e=>b.FJ c o u (a.FJ c o u e)⟩
theorem HN(s:Bi H H'):BU H H':=⟨λa xs e=>s a _ e,λa o u e=>s a _ e⟩
theorem BU.sq{K:W.Frag}{H H':Hp}(k:BU H H'){a:Addr}{xs:List V}(h:CL K H a xs):CL K H' a xs:=by
 rcases h with(e|⟨o,e⟩)|z;.exact .inl (.inl (k.BC a xs e))
 .exact .inl (.inr ⟨o,k.FJ a o _ e⟩)
 .exact .inr z
theorem OI(h:∀o',H p=some o'->(∀xs,o'≠.BC xs)/\∀b u,o'≠.FJ b u):BU H (upd H p o) :=⟨λa xs e=>by (have:a≠p:=λz=>by subst z;exact(h _ e).1 xs rfl);rw[Ab this];exact e,λa b u e=>by (have:a≠p:=λz=>by subst z;exact(h _ e).2 b u rfl);rw[Ab this];exact e⟩
section
theorem G7:∀{xs:List V} {us:List Value} {ds:List PyData},Vals xs us->xs.length=ds.length -> (∀(j:Nat)(x:V)(d:PyData),xs[j]?=some x->ds[j]?=some d->∀u,RelV x u->∃as,Reads h u d as)->∃as,ReadsAll h us ds as
 | _,_,[],.nil,_,_=>⟨[],.nil⟩
 | _,_,d::ds,.cons (a:=x) (b:=u) r t,hl,f=>by obtain⟨as,r1⟩:=f 0 x d rfl rfl u r;obtain⟨bs,r2⟩:=G7 t (by simpa using hl) λj y e h1 h2=>f (j+1) y e (by simpa using h1) (by simpa using h2);exact⟨as++bs,.cons r1 r2⟩
 | _,_,_::_,.nil,hl,_=>by simp at hl
 | _,_,[],.cons _ _,hl,_=>by simp at hl
theorem IW.reads(I:Inv X AA σ H s)(r:IW X.K H v d):∀u,RelV v u->∃as,Reads s.heap u d as:=by induction r with | EE=>intro u e;cases e;exact⟨_,.none⟩ | bl b=>intro u e;cases e;exact⟨_,.bool b⟩ | int i=>intro u e;obtain⟨t,rfl⟩:=e;exact⟨_,.int i t⟩ | str x=>intro u e;obtain⟨t,rfl⟩:=e;exact⟨_,.str x t⟩ | BC h hl _ ih =>intro u e;cases e;obtain⟨its,rv,⟨o,ho,hc,n,hd⟩,_⟩:=I.tuple h;obtain⟨as,ra⟩:=G7 rv hl λj x d e1 e2=>ih j x d e1 e2;exact⟨as,.tuple ho hc hd (by simpa using ra)⟩
theorem Rep.reads(I:Inv X AA σ H s)(r:Rep X.K H v d)(e:RelV v u):∃as,Reads s.heap u d as:=by cases r with | one r=>exact r.reads I u e | BI h p =>cases e;obtain⟨its,rv,pl,_⟩:=I.list h;obtain⟨o,ho,hc,n,hd⟩:=pl.isList;obtain⟨as,ra⟩:=G7 rv (Paired.length p) λj x d e1 e2=>(Ax p j x d e1 e2).reads I;exact⟨_,.list ho hc hd (by simpa using ra)⟩
def aP(d:PyData):Prop:=d.canLay0=true/\d.depth<=40
inductive Ji7(K:W.Frag)(x:V)(y:V)(H:Hp)(Q:VK):Prop
 | mk (d e) (e0:Rep K H x d) (e1:Rep K H y e) (e2:aP d) (e3:aP e) (e4:Q (.bl (PyData.eqv d e)) H)
def Jkb(K:W.Frag):R2:=λx y H Q=>Ji7 K x y H Q
inductive Ji4(K:W.Frag)(x:V)(y:V)(H:Hp)(Q:VK):Prop
 | mk (d e) (e0:Rep K H x d) (e1:Rep K H y e) (e2:aP d) (e3:aP e) (e4:Q (.bl (!PyData.eqv d e)) H)
def Jj8(K:W.Frag):R2:=λx y H Q=>Ji4 K x y H Q
theorem R8(hu:X.A.units+64<cLine):PF X (compareOp .Eq) (Jkb X.K):=by intro AA s σ H x y v u Q I rx ry h;obtain⟨d,e,r1,r2,o1,o2,q⟩:=h;obtain⟨as,g1⟩:=r1.reads I rx;obtain⟨bs,g2⟩:=r2.reads I ry;exact PySem.SeqAt.compareEq_reads g1 g2 o1.1 o2.1 (by have:=o1.2;lia) ⟨.bl _,H,I,rfl,q⟩
theorem Jgq(hu:X.A.units+64<cLine):PF X (compareOp .NotEq) (Jj8 X.K):=by intro AA s σ H x y v u Q I rx ry h;obtain⟨d,e,r1,r2,o1,o2,q⟩:=h;obtain⟨as,g1⟩:=r1.reads I rx;obtain⟨bs,g2⟩:=r2.reads I ry;exact PySem.SeqAt.compareNe_reads g1 g2 o1.1 o2.1 (by have:=o1.2;lia) ⟨.bl _,H,I,rfl,q⟩
theorem Xh(r:CU k A):A.units+64<cLine:=r.units
end
def Gu(p d:Addr):HO:=.ext λh=>h.IsValuesView p d
section
theorem Yx:∀{kvs:List (κ×V)} {vs:List (κ×Value)},KV kvs vs->Vals (kvs.map (·.2)) (vs.map (·.2))
 | _,_,.nil=>.nil
 | _,_,.cons r t=>.cons r.2 (Yx t)
theorem K5:jm X "dict.values" (λx xs H Q=>∃d kvs,x=.ref d/\xs=[]/\H d=some (.dK kvs)/\∀p,H p=none->Q (.ref p) (upd H p (Gu p d))):=by intro AA s σ H x xs v us Q I rx rs h;obtain⟨d,kvs,rfl,rfl,hd,q⟩:=h;cases rx;cases rs;obtain⟨z,lo,vs,rel,dd⟩:=Y9 I.CT hd;refine PySem.call_meetsIn HU dd.typeIs PySem.F.entry_dict_values (PySem.F.args_dict_values_1 _) (meets_dict_values (Bp X.prog X.w) d lo) ⟨⟨vs,dd⟩,?_⟩;have hn:H s.heap.objs.size=none:=I.CT.fresh (ZG _);refine⟨.ref s.heap.objs.size,_,I.laid (a:=s.heap.objs.size) (o:=Gu s.heap.objs.size d) (t':=s.toks) (λb o e=>ZT _ e) (ZG _) ?_,rfl,q _ hn⟩;have g:(s.heap.push { cls:=.type "dict_values",data:=.fields #[.ref d] }).get? s.heap.objs.size=some { cls:=.type "dict_values",data:=.fields #[.ref d] }:=ZU _ rfl;exact⟨⟨_,g,rfl,rfl⟩,⟨_,g⟩,λh1 h2 ⟨o,e,r⟩ k=>⟨o,k o e,r⟩⟩
theorem Lk(hc:X.calm=true):Fm X (.type "list") (λxs H Q=>∃p d kvs,xs=[.ref p]/\H p=some (Gu p d)/\H d=some (.dK kvs)/\∀l,H l=none->Q (.ref l) (upd H l (.BI (kvs.map (·.2))))):=by intro AA s σ H xs us Q I r h;obtain⟨p,d,kvs,rfl,hp,hd,q⟩:=h;obtain⟨u,rfl,rx⟩:=vals1 r;cases rx;obtain⟨z,lo,vs,rel,dd⟩:=Y9 I.CT hd;obtain⟨ep,da⟩:=dd.dictAt;have hv:s.heap.IsValuesView p d:=(I.CT p _ hp).1;refine W.kdl_call (W.kdl_values (knd:=Bp X.prog X.w) (r:=p) (d:=d) (kvs:=vs) (ep:=ep)) (I.ok.hd hc) ⟨hv,da⟩ (by rw[<-rel.length];exact z) λh' tk cA c' kp e ha=>?_;have hn:H s.heap.objs.size=none:=I.CT.fresh (ZG _);have e1:cA.toList=vs.map (·.2):=W.kdl_vals_eq cA.toList (by rw[CF];exact ha.1) λj v hj=>ha.2 j v (by rw[<-Array.getElem?_toList];exact hj);refine⟨.ref s.heap.objs.size,_,I.laid (t':=tk) kp (ZG _) (show CZ X.prog X.w _ h' _ (.BI (kvs.map (·.2))) from⟨by rw[ZA];exact z,cA.toList,c',?_,by simpa using e⟩),rfl,q _ hn⟩;rw[e1];exact Yx rel
end
section
end
theorem Ai(hp:H p=none):Bi H (upd H p o):=λb u e=>by rw[Ab (Ak e hp)];exact e
theorem Am(a:Bi H H1)(b:Bi H1 H2):Bi H H2:=λc o h=>b c o (a c o h)
theorem Cq(e:Bi H H')(h:H' l=none):H l=none:=by cases q:H l with | none=>rfl | some o=>rw[e l o q] at h;cases h
theorem J3:∀{xs:List α} {ys:List β} (j:Nat),Paired R xs ys->Paired R (xs.eraseIdx j) (ys.eraseIdx j)
 | _,_,_,.nil=>.nil
 | _,_,0,.cons _ t=>t
 | _,_,j+1,.cons r t=>.cons r (J3 j t)
theorem Es{α β:Type}{R:α->β->Prop}{x:α}{y:β}(r:R x y):∀{xs:List α} {ys:List β},Paired R xs ys->Paired R (xs++[x]) (ys++[y])
 | _,_,.nil=>.cons r .nil
 | _,_,.cons q t=>.cons q (Es r t)
theorem As{α β:Type}{R S:α->β->Prop}(f:∀a b,R a b->S a b):∀{xs:List α} {ys:List β},Paired R xs ys->Paired S xs ys
 | _,_,.nil=>.nil
 | _,_,.cons q t=>.cons (f _ _ q) (As f t)
theorem Ej(h0:0<=i)(h:xs[i.toNat]?=some v):PD xs i=some v:=by have:=Jfi h;rwa [BH h0] at this
theorem Au{α:Type}{xs:List α}{j:Nat}(h:j<xs.length):∃x,xs[j]?=some x:=⟨xs[j],List.getElem?_eq_some_iff.mpr ⟨h,rfl⟩⟩
theorem ux(h:∀d∈ds,d.canLay0=true/\d.depth<=20):PyData.canLayAll0 ds=true/\PyData.depthAll ds<=20:=by induction ds with | nil=>exact⟨by simp[PyData.canLayAll0],by simp[PyData.depthAll]⟩ | cons d ds ih =>obtain⟨a,b⟩:=ih λe he=>h e (ZD _ he);obtain⟨c,g⟩:=h d (ZL ..);exact⟨by simp[PyData.canLayAll0,a,c],by simp only[PyData.depthAll];lia⟩
theorem J6(h:∀d∈ds,d.canLay0=true/\d.depth<=20):aP (.list ds):=by obtain⟨a,b⟩:=ux h;exact⟨by simp only[PyData.canLay0];exact a,by simp only[PyData.depth];lia⟩
theorem Hq(h:∀d∈ds,d.canLay0=true/\d.depth<=20):aP (.tuple ds):=by obtain⟨a,b⟩:=ux h;exact⟨by simp only[PyData.canLay0];exact a,by simp only[PyData.depth];lia⟩
section
end
def YL(K:W.Frag)(H:Hp)(a:Addr)(xs:List V):Prop:=(∃o,H a=some (.FJ o (.BI xs)))\/∀H':Hp,EC K H' a xs
theorem YL.sq{K:W.Frag}{H:Hp}{a:Addr}{xs:List V}(h:YL K H a xs):EC K H a xs:=h.elim (λ⟨o,e⟩=>.inl (.inr ⟨o,e⟩)) λz=>z H
theorem YL.keep{K:W.Frag}{H H':Hp}{a:Addr}{xs:List V}(h:YL K H a xs)(kt:BU H H'):YL K H' a xs:=h.elim (λ⟨o,e⟩=>.inl ⟨o,kt.FJ _ _ _ e⟩) λz=>.inr z
theorem YL.of{K:W.Frag}{H:Hp}{a:Addr}{xs:List V}(hO:jr H)(h:EC K H a xs):YL K H a xs:=by
 rcases h with(e|⟨o,e⟩)|z;.rcases hO a with q|⟨o,ys,q⟩;(.rw[q] at e;cases e);.rw[q] at e;cases e
 .exact .inl ⟨o,e⟩
 .exact .inr λH'=>.inr z
theorem Jaq{prog:Program}{w:World}{A:Around}{R:Result->Shared->Prop}{s:Shared}{elt target iter:Expr}{ifs:List Expr}{scope:Scope}{pos:Pos}{it acc:Value}{env:Env}(J:Nat->Shared->Prop)(turn:∀k s0,J k s0->wpAny (model prog w) A (pyNext it) (λr s1=>match r with
  | none=>R (.ok .next) s1
  | some v=>wpAny (model prog w) A (letOwnedTupleGo target it v) (λ_ sg=>wpAny (model prog w) A (assign target env v) (λ_ s2 =>
   wpAny (model prog w) A (forIn ifs true λc r=>if r=true then do let ok <-isTrue c env (eval c env);pure (ForInStep.yield ok) else pure (ForInStep.yield r)) (λok s3 =>
    if ok=true then wpAny (model prog w) A (eval elt env) (λx s4 =>
     wpAny (model prog w) A (call (.builtin "list.append") [acc,x]) (λ_ s5=>∃m,m<k/\J m s5) (λ_ _=>False) s4) (λ_ _=>False) s3
    else ∃m,m<k/\J m s3) (λ_ _=>False) s2) (λ_ _=>False) sg) (λ_ _=>False) s1) (λ_ _=>False) s0)(k:Nat)(h:J k s):codeAny (model prog w) A (.compLoop (.ListComp elt [⟨target,iter,ifs,0⟩] scope pos) 0 it acc env) R s:=by
 refine codeAny_loop rfl J (λk s0 hI=>?_) k h
 show wpAny _ A ((compTurn (.ListComp elt [⟨target,iter,ifs,0⟩] scope pos) 0 it acc env).onRaise (λx=>do noteFrame x env;theTreesLotGoes x)) _ _ s0
 have no:∀{E:Value->Shared->Prop} (e:Value) (s':Shared),False->notedBy (model prog w) A env E e s':=λ_ _ z=>z.elim
 refine wpAny_noted ?_
 rw[compTurn_list]
 refine ZR (wpAny_standAt (ZR (DW (turn k s0 hI) (λr s1 h1=>?_) no)))
 cases r with
 | none=>exact ZS h1
 | some v =>
   refine ZR (DW h1 (λ_ sg hg=>ZR (DW hg (λ_ s2 h2=>ZR (DW h2 (λok s3 h3=>?_) no)) no)) no)
   cases ok with
   | false =>
     simp only[CB,DV] at h3 ⊢
     exact ZS ⟨rfl,h3⟩
   | true =>
     simp only[GJ] at h3 ⊢
     exact ZR (ZR (DW h3 (λx s4 h4=>ZR (DW h4 (λ_ s5 h5=>ZS (ZS ⟨rfl,h5⟩)) no)) no))
def QT(X:Cx)(sc:Scope)(cl:List (Str×Addr))(C:Addr)(N:List Str)(s1:Shared)(H1:Hp)(fp:List Addr)(AA:List (Addr×Obj)):Cx where
 prog:=X.prog
 w:=X.w
 K:=X.K
 mg:=X.mg
 base:=X.base
 A:=X.A
 N:=N
 GQ:=s1
 ON:=H1
 env:=compEnvC sc cl C X.env
 outer:=X.stack
 stack:=X.stack
 ex:=fp
 fn:=λ_=>false
 calm:=X.calm
 pn:=X.pn++AA
 xe:=λ_ _=>False
def IA(cells:List (Str×Addr)):List (Str×Addr)->Prop
 | []=>True
 | (x,c)::r=>cells.lookup x=some c/\IA cells r
theorem IA.look{cells:List (Str×Addr)}:∀{cl:List (Str×Addr)} {x:Str} {c:Addr},IA cells cl->cl.lookup x=some c->cells.lookup x=some c
 | [],_,_,_,e=>by simp at e
 | (y,d)::r,x,c,h,e=>by rw[NA] at e;cases q:x==y with | true =>rw[q] at e;have e1:x=y:=eq_of_beq q;cases e;rw[e1];exact h.1 | false =>rw[q] at e;exact IA.look h.2 e
structure u9(X:Cx)(sc:Scope)(cl:List (Str×Addr))(p:Str×Nat):Prop where
 n:X.N[p.2]?=some p.1
 k:X.env.scope.names.lookup p.1=some .cell
 l:cl.lookup p.1=X.env.cells.lookup p.1
 f:(relabel sc X.env).names.lookup p.1=some .cell
def J'(X:Cx)(sc:Scope)(cl:List (Str×Addr)):List (Str×Nat)->Prop
 | []=>True
 | p::r=>u9 X sc cl p/\J' X sc cl r
theorem J'.at{X:Cx}{sc:Scope}{cl:List (Str×Addr)}:∀{caps:List (Str×Nat)} {j:Nat} {p:Str×Nat},J' X sc cl caps->caps[j]?=some p->u9 X sc cl p
 | [],_,_,_,e=>by simp at e
 | q::r,0,p,h,e=>by simp at e;subst e;exact h.1
 | q::r,j+1,p,h,e=>J'.at h.2 (by simpa using e)
abbrev Gc(caps:List (Str×Nat)):List Str:=caps.map λp=>p.1
def Ds(σ:L2.St)(caps:List (Str×Nat)):L2.St:=caps.map λp=>(σ[p.2]?).join
section
variable {X:Cx}{sc:Scope}{cl:List (Str×Addr)}{AA:List (Addr×Obj)}{σ:L2.St}{H1:Hp}{s1:Shared}{fp:List Addr}{N:List Str}
theorem Jhh(I:Inv X AA σ H1 s1)(hf:∀b∈fp,Pg X AA H1 b)(ho:∀b∈fp,∃o,s1.heap.get? b=some o)(hk:sc.kind=.function)(JI:IA X.env.cells cl)(has:∀x,((relabel sc X.env).names.lookup x=some .cell\/(relabel sc X.env).names.lookup x=some .free)->∃c,cl.lookup x=some c):(QT X sc cl s1.heap.objs.size N s1 H1 fp AA).Ok where
 mod:=I.ok.mod
 kind:=hk
 glob:=I.ok.glob
 blt:=I.ok.blt
 above:=ZG _
 inj:=λx y c e1 e2=>I.ok.inj x y c (JI.look e1) (JI.look e2)
 has:=has
 YJ:=λx c e _=>by cases e
 hd:=I.ok.hd
 frames:=I.ok.frames
 Y':=.inl rfl
 U':=λb hb=>⟨λz=>by
  obtain⟨o,e⟩:=ho b hb
  exact BK (AU e) z,λx c e=>(hf b hb).2.2.2.2.1 x c (JI.look e)⟩
 bs:=λb o e=>I.bs b o e
 UE:=BE I.ok.UE I.sz
 PY:=λb o e hb=>by
  rcases(hf b hb).2.2.2.1 with z|z
  .exact I.ok.PY b o e z
  .exact absurd (BO (BO (AU e) I.ok.UE) z) (C_ _)
 P_:=λb hb z=>by
  rcases ZM (I.QD b z) with q|q
  .exact(hf b hb).2.1 q
  .exact(hf b hb).2.2.1 q
 KR:=I.stack
 VL:=λb hb=>I.OA b hb
theorem Jhi{x:Str}{caps:List (Str×Nat)}{h':Heap}{m:Str->Option Value}{t':Nat}{o:Obj}(I:Inv X AA σ H1 s1)(ok:(QT X sc cl s1.heap.objs.size (x::Gc caps) s1 H1 fp AA).Ok)(JI:IA X.env.cells cl)(SG:J' X sc cl caps)(hx:(relabel sc X.env).names.lookup x=some .local)(hn:h'.Ns s1.heap.objs.size m)(hs:Heap.SameBut s1.heap.objs.size (s1.heap.push o) h') : Inv (QT X sc cl s1.heap.objs.size (x::Gc caps) s1 H1 fp AA) [] (none::Ds σ caps) H1 { s1 with heap:=h',toks:=t' }:=by
 have kp:∀b u,s1.heap.get? b=some u->h'.get? b=some u:=λb u e=>(hs.2 b (BK (AU e))).trans (ZT _ e);have NF:H1 s1.heap.objs.size=none:=I.CT.fresh (ZG _);refine⟨ok,rfl,I.bare,Un.kept kp,⟨m,hn,λi y v e1 e2 e3=>?_⟩,λy c e=>?_,NF,λy c e=>I.HX y c (JI.look e),λp hp=>?_,I.CT.kept kp,?_⟩;.cases i with | zero=>simp at e2 | succ j =>have aM:(x::Gc caps)[j+1]?=some y:=e1;rw[List.getElem?_cons_succ] at aM;(have dE:(Ds σ caps)[j]?=some (some v):=by simpa using e2);rw[ZH] at aM;unfold Ds at dE;rw[ZH] at dE;cases q:caps[j]? with | none=>rw[q] at aM;cases aM | some p =>rw[q] at aM dE;have e4:p.1=y:=ZO aM;have e5:(σ[p.2]?).join=some v:=ZO dE;have hc:=SG.at q;(have e6:σ[p.2]?=some (some v):=by cases z:σ[p.2]? with | none=>rw[z] at e5;cases e5 | some w' =>rw[z] at e5;have:w'=some v:=e5;rw[this]);obtain⟨mm,rh,hl⟩:=I.loc;obtain⟨u,r,lk⟩:=hl p.2 p.1 v hc.n e6 (.inr (.inl hc.k));refine⟨u,r,.inr ⟨.inl (by rw[<-e4];exact hc.f),?_⟩⟩;rcases lk with⟨k1,_⟩|⟨_,c,aH,ce⟩;(.have:X.env.scope.names.lookup p.1=some .local:=k1;rw[hc.k] at this;cases this);.obtain⟨oc,cq,hd⟩:=ce;exact⟨c,by rw[<-e4];exact hc.l.trans aH,oc,kp _ _ cq,hd⟩
 .obtain⟨v,oc,cq,hd⟩:=I.cell y c (JI.look e);exact⟨v,oc,kp _ _ cq,hd⟩
 .have a9:p∈(X.pn++AA)++[]:=hp;rw[AH] at a9;obtain⟨a1,a2,a3,a4,a5⟩:=I.pin p a9;refine⟨kp _ _ a1,a2,BK (AU a1),λz=>?_,a5⟩;rcases ZM (I.QD _ z) with q|q;(.exact a3 q);.exact a4 q
 .simp[Ds,QT]
theorem Jfg{RE:List (Addr×Obj)}{EV:L2.St}{H':Hp}{s':Shared}(I:Inv X AA σ H1 s1)(hf:∀b∈fp,Pg X AA H1 b)(I':Inv (QT X sc cl s1.heap.objs.size N s1 H1 fp AA) RE EV H' s'):Inv X AA σ H' s' :=I.TM (ch:=fp) I'.os I'.base I'.CT I'.bare λb hb=>⟨(hf b hb).2.2.2.1,(hf b hb).2.1,(hf b hb).2.2.2.2.1,(hf b hb).2.2.2.2.2⟩
theorem Ze{H':Hp}{s':Shared}{h':Heap}{NV:L2.St}{sA:Shared}(I:Inv X AA σ H1 s1)(I2:Inv X AA NV H' sA)(hn:H' s1.heap.objs.size=none)(hs:Heap.SameBut s1.heap.objs.size sA.heap h'):Inv X AA NV H' { sA with heap:=h' } :=I2.turned (it:=s1.heap.objs.size) (t':=sA.toks) (λb o hb e=>(hs.2 b hb).trans e) hn (EN I.lt) (.inr I.sz) (λx c e z=>by obtain⟨v,q⟩:=I.cell x c e;exact absurd q.lt (by rw[z];exact C_ _)) λp hp z=>by have:=AU (I.pin p hp).1;rw[z] at this;exact absurd this (C_ _)
end
def fk(X:Cx)(ifs:List Expr)(t:TT):Prop :=
 ∀(AA:List (Addr×Obj))(s:Shared)(σ:L2.St)(H:Hp)(Q:Bool->Hp->Prop),Inv X AA σ H s->t σ H Q ->
  wpAny (model X.prog X.w) X.A (forIn ifs true λc r=>if r=true then do let ok <-isTrue c X.env (eval c X.env);pure (ForInStep.yield ok) else pure (ForInStep.yield r)) (TP X AA σ Q) X.xe s
theorem Ml{X:Cx}:fk X [] (λ_ H Q=>Q true H):=λAA s σ H Q I h=>wpAny_tests_nil ⟨H,I,h⟩
theorem D3{X:Cx}{c:Expr}{t:TT}(h:PT X c t):fk X [c] t:=λAA s σ H Q I hw=>wpAny_tests_one (h AA s σ H Q I hw)
def ni(wi:TI)(caps:List (Str×Nat))(tt:TT)(te:TE):TE:=λσ H Q=>wi σ H λJ H1=>∀p,H1 p=none->∃W:Nat->Nat->List V->Hp->Prop,(∃m,W 0 m [] (upd H1 p (.BI [])))/\∀i m ys H2,W i m ys H2->H2 p=some (.BI ys) /\
 ((J.stop i H2/\Q (.ref p) H2)\/(J.go i H2/\∀x H3,J.SU i H2 x H3->tt (some x::Ds σ caps) H3 λb H4 =>
   if b=true then te (some x::Ds σ caps) H4 λv H5=>H5 p=some (.BI ys)/\ys.length<sizeLine/\∃m',m'<m/\W (i+1) m' (ys++[v]) (upd H5 p (.BI (ys++[v])))
   else ∃m',m'<m/\W (i+1) m' ys H4))
section
variable {X:Cx}{elt iter:Expr}{x:Str}{px pos:Pos}{ifs:List Expr}{sc:Scope}{cl:List (Str×Addr)}{caps:List (Str×Nat)}{wi:TI}{tt:TT}{te:TE}
theorem Qq{AA:List (Addr×Obj)}{σ:L2.St}{H:Hp}{s:Shared}{Q:VK}{use:Option (Value->Sem Unit)}{RQ:Value->Shared->Prop}(hc:X.calm=true)(hi:PI X (.Name x px) iter wi)(RG:closureFor sc X.env=pure cl)(NG:∀y∈sc.names,y.2≠.cell)(L_:sc.kind=.function)(OP:∀y∈sc.names,y.2=.local->sc.names.lookup y.1=some .local)(hx:sc.names.lookup x=some .local)(JI:IA X.env.cells cl)(has:∀y,((relabel sc X.env).names.lookup y=some .cell\/(relabel sc X.env).names.lookup y=some .free)->∃c,cl.lookup y=some c)(SG:J' X sc cl caps)(hN:(x::Gc caps).Nodup)(ht:∀C s1 H1 fp AA,fk (QT X sc cl C (x::Gc caps) s1 H1 fp AA) ifs tt)(he:∀C s1 H1 fp AA,PE (QT X sc cl C (x::Gc caps) s1 H1 fp AA) elt te)(I:Inv X AA σ H s)(h:ni wi caps tt te σ H Q)(fin:∀(C D:Addr) (H':Hp) (s1 s':Shared) (H1:Hp),C=s1.heap.objs.size->Inv X AA σ H1 s1->Inv X AA σ H' s'->H' C=none->(∃m,s'.heap.Ns C m)->Q (.ref D) H'->compPost (model X.prog X.w) X.A X.xe use RQ (.ref D) C (.ok .next) s')(hs:∀v,foldedSetIterable iter X.env v=pure v) : wpAny (model X.prog X.w) X.A (comprehension (.ListComp elt [⟨.Name x px,iter,ifs,0⟩] sc pos) sc X.env (firstIterPos [⟨.Name x px,iter,ifs,0⟩] pos) (newList []) false (eval iter X.env) use) RQ X.xe s:=by
 refine wpAny_comprehension_free rfl hs RG L_ OP (DU (hi AA s σ H _ I h) λv s1 h1=>DU h1 λkl s2 h2=>?_);obtain⟨it,fp,tn,J,H2,e,I2,T,ak,f2,hW⟩:=h2;subst e;refine DX ?_;have cI:H2 s2.heap.objs.size=none:=I2.CT.fresh (ZG _);have I3:Inv X AA σ (upd H2 s2.heap.objs.size (.BI [])) { s2 with heap:=s2.heap.push { cls:=.type "list",dict:=none,data:=.seq ([]:List Value).toArray } }:=I2.gP (t':=s2.toks) (its:=[]) .nil (BF _);obtain⟨W,⟨m0,w0⟩,turn⟩:=hW s2.heap.objs.size cI;have zD:∀b∈fp,b≠s2.heap.objs.size:=λb hb z=>by obtain⟨o,e,_⟩:=T.obj 0 _ ak b hb;exact absurd (AU e) (by rw[z];exact C_ _)
 have f3:∀b∈fp,Pg X AA (upd H2 s2.heap.objs.size (.BI [])) b:=λb hb=>⟨by rw[Ab (zD b hb)];exact(f2 b hb).1,(f2 b hb).2⟩;have cP:tn 0 (s2.heap.push { cls:=.type "list",dict:=none,data:=.seq ([]:List Value).toArray }):=T.keep 0 _ _ ak λb hb o e=>ZT _ e;obtain⟨D,hD⟩:∃D,D=s2.heap.objs.size:=⟨_,rfl⟩;obtain⟨H3,yo⟩:∃H3,H3=upd H2 s2.heap.objs.size (.BI []):=⟨_,rfl⟩;obtain⟨s3,lM⟩:∃s3:Shared,s3={ s2 with heap:=s2.heap.push { cls:=.type "list",dict:=none,data:=.seq ([]:List Value).toArray } }:=⟨_,rfl⟩;have gG:tn 0 s3.heap:=by rw[lM];exact cP
 rw[<-yo] at I3 f3 w0;rw[<-lM] at I3;rw[<-hD] at turn;show wpAny _ _ _ _ _ ({ s2 with heap:=s2.heap.push { cls:=.type "list",dict:=none,data:=.seq ([]:List Value).toArray } }:Shared);rw[<-lM,<-hD];refine wpAny_newFunctionEnv NG (by intro y hy;simp at hy) (λh1 yV rT=>?_) L_;have ok:=Jhh (N:=x::Gc caps) I3 f3 (λb hb=>let⟨o,e,_⟩:=T.obj 0 _ gG b hb;⟨o,e⟩) L_ JI has;have lC:(relabel sc X.env).names.lookup x=some .local:=lookup_relabel_local hx;have J4:=Jhi (t':=s3.toks+([]:List (Str×Value)).length) I3 ok JI SG lC yV rT;have qI:tn 0 h1:=T.keep 0 _ _ gG λb hb o e=>(rT.2 b (BK (AU e))).trans (ZT _ e);have R_:∀{H':Hp},(∀b∈fp,H' b=none)->∀b∈fp,Pg (QT X sc cl s3.heap.objs.size (x::Gc caps) s3 H3 fp AA) [] H' b:=λhn b hb=>by refine⟨hn b hb,?_,λz=>ok.P_ b hb z,.inl hb,λy c e=>(f3 b hb).2.2.2.2.1 y c (JI.look e),λp hp=>?_⟩;(.exact(ok.U' b hb).1);.have a9:p∈(X.pn++AA)++[]:=hp;rw[AH] at a9;exact(f3 b hb).2.2.2.2.2 p a9
 have loop:∀s4:Shared,s4={ s3 with heap:=h1,toks:=s3.toks+([]:List (Str×Value)).length } -> codeAny (model X.prog X.w) X.A (.compLoop (.ListComp elt [⟨.Name x px,iter,ifs,0⟩] sc pos) 0 (.ref it) (.ref D) (compEnvC sc cl s3.heap.objs.size X.env)) (compPost (model X.prog X.w) X.A X.xe use RQ (.ref D) s3.heap.objs.size) s4:=by rintro s4 rfl;refine Jaq (λk s'=>∃i v0 ys H',Inv (QT X sc cl s3.heap.objs.size (x::Gc caps) s3 H3 fp AA) [] (v0::Ds σ caps) H' s'/\tn i s'.heap/\(∀b∈fp,H' b=none)/\W i k ys H') ?_ m0 ⟨0,none,[],H3,J4,qI,λb hb=>(f3 b hb).1,w0⟩;rintro k s5 ⟨i,v0,ys,H5,I5,ZQ,U_,w5⟩;obtain⟨hD5,stop|⟨go,step⟩⟩:=turn i k ys H5 w5;(.obtain⟨stop,q⟩:=stop;refine DU (T.done (QT X sc cl s3.heap.objs.size (x::Gc caps) s3 H3 fp AA) rfl rfl rfl hc i [] s5 _ H5 (λ_ _=>False) I5 (R_ U_) ZQ stop) ?_;rintro r s6 ⟨hr,I6⟩;subst hr;obtain⟨mm,rh,_⟩:=I6.loc;exact fin _ D H5 s3 s6 H3 rfl I3 (Jfg I3 f3 I6) I6.free ⟨mm,rh⟩ q);.refine DU (T.item (QT X sc cl s3.heap.objs.size (x::Gc caps) s3 H3 fp AA) rfl rfl rfl hc i [] s5 _ H5 (λ_ _=>False) I5 (R_ U_) ZQ go) ?_;rintro r s6 ⟨u,hr,h6⟩;subst hr;refine DU h6 ?_;rintro _ s7 ⟨y,H7,I7,r7,y7,kI,PB⟩;have I7':=I7.pinned (R_ PB) (T.obj _ _ kI);refine DU (Bl (X:=QT X sc cl s3.heap.objs.size (x::Gc caps) s3 H3 fp AA) (i:=0) hN rfl (.inl lC) (.inr lC) _ s7 (v0::Ds σ caps) H7 y u (λEV H'=>EV=some y::Ds σ caps/\H'=H7) I7' r7 ⟨rfl,rfl⟩) ?_;rintro _ s8 ⟨σ8,H8,I8,e8,e8'⟩;subst e8;subst e8';(have back:∀{p4:L2.St} {H9:Hp} {s9:Shared},Inv (QT X sc cl s3.heap.objs.size (x::Gc caps) s3 H3 fp AA) ([]++Nk fp s7.heap) p4 H9 s9->tn (i+1) s9.heap/\∀b∈fp,H9 b=none:=λ{p4 H9 s9} I9=>by refine⟨T.keep _ _ _ kI λb hb o e=>(I9.pin (b,o) (ZC _ (ZC _ (Gm hb e)))).1,λb hb=>?_⟩;obtain⟨o,e,d⟩:=T.obj _ _ kI b hb;exact(I9.pin (b,o) (ZC _ (ZC _ (Gm hb e)))).2.1);refine DU (ht _ _ _ _ _ _ s8 _ _ _ I8 (step y _ y7)) ?_;rintro ok s9 ⟨H9,I9,q9⟩;cases ok with | false =>simp only[CB,DV] at q9 ⊢;obtain⟨m',hm,w9⟩:=q9;exact⟨m',hm,i+1,some y,ys,H9,I9.KA,(back I9).1,(back I9).2,w9⟩ | true =>simp only[GJ] at q9 ⊢;refine DU (he _ _ _ _ _ _ s9 _ _ _ I9 q9) ?_;rintro xv dt ⟨v,j5,I10,wO,pL,JL,m',hm,vo⟩;refine DU (F6 (X:=QT X sc cl s3.heap.objs.size (x::Gc caps) s3 H3 fp AA) _ dt _ j5 (.ref D) [v] (.ref D) [xv] (λ_ H'=>H'=upd j5 D (.BI (ys++[v]))) I10 rfl (.cons wO .nil) ⟨D,ys,v,rfl,rfl,pL,JL,rfl⟩) ?_;rintro _ s11 ⟨_,jz,ny,_,mX⟩;subst mX;exact⟨m',hm,i+1,some y,ys++[v],_,ny.KA,(back ny).1,(back ny).2,vo⟩
 exact codeAny_compStart_list (loop _ rfl) (T.self _ 0 _ _ _ qI (loop _ rfl))
theorem En(hc:X.calm=true)(hi:PI X (.Name x px) iter wi)(RG:closureFor sc X.env=pure cl)(NG:∀y∈sc.names,y.2≠.cell)(L_:sc.kind=.function)(OP:∀y∈sc.names,y.2=.local->sc.names.lookup y.1=some .local)(hx:sc.names.lookup x=some .local)(JI:IA X.env.cells cl)(has:∀y,((relabel sc X.env).names.lookup y=some .cell\/(relabel sc X.env).names.lookup y=some .free)->∃c,cl.lookup y=some c)(SG:J' X sc cl caps)(hN:(x::Gc caps).Nodup)(ht:∀C s1 H1 fp AA,fk (QT X sc cl C (x::Gc caps) s1 H1 fp AA) ifs tt)(he:∀C s1 H1 fp AA,PE (QT X sc cl C (x::Gc caps) s1 H1 fp AA) elt te)(hs:∀v,foldedSetIterable iter X.env v=pure v:=by intro _;rfl):PE X (.ListComp elt [⟨.Name x px,iter,ifs,0⟩] sc pos) (ni wi caps tt te):=by intro AA s σ H Q I h;rw[eval_ListComp];refine Qq (use:=none) hc hi RG NG L_ OP hx JI has SG hN ht he I h (?_) hs;rintro C D H' s1 s' H1 hC I1 I' hn ⟨m,hm⟩ q;subst hC;exact⟨m,hm,λh' lN=>⟨.ref D,H',Ze (s':=s') I1 I' hn lN,rfl,q⟩⟩
theorem Hn{i:Nat}{y:Str}{py gH:Pos}(bC:X.N.Nodup)(SY:X.N[i]?=some y)(hy:X.env.scope.names.lookup y=some .local)(yL:swapsWith (.ListComp elt [⟨.Name x px,iter,ifs,0⟩] sc pos) (some (.Name y py)) gH.line X.env=pure true)(hc:X.calm=true)(hi:PI X (.Name x px) iter wi)(RG:closureFor sc X.env=pure cl)(NG:∀y∈sc.names,y.2≠.cell)(L_:sc.kind=.function)(OP:∀y∈sc.names,y.2=.local->sc.names.lookup y.1=some .local)(hx:sc.names.lookup x=some .local)(JI:IA X.env.cells cl)(has:∀y,((relabel sc X.env).names.lookup y=some .cell\/(relabel sc X.env).names.lookup y=some .free)->∃c,cl.lookup y=some c)(SG:J' X sc cl caps)(hN:(x::Gc caps).Nodup)(ht:∀C s1 H1 fp AA,fk (QT X sc cl C (x::Gc caps) s1 H1 fp AA) ifs tt)(he:∀C s1 H1 fp AA,PE (QT X sc cl C (x::Gc caps) s1 H1 fp AA) elt te)(hs:∀v,foldedSetIterable iter X.env v=pure v:=by intro _;rfl) :
 PS X (.Assign [.Name y py] (.ListComp elt [⟨.Name x px,iter,ifs,0⟩] sc pos) gH) (λD σ H=>ni wi caps tt te σ H λv H'=>D.nx (σ.set i (some v)) H'):=by
 intro AA s σ H D I h
 rw[exec_Assign_Name_used _ _ _ _ yL]
 refine ZR (wpAny_standAt (ZR ?_))
 show wpAny _ X.A (do let _ <-comprehension (.ListComp elt [⟨.Name x px,iter,ifs,0⟩] sc pos) sc X.env _ (newList []) false (eval iter X.env) (some (assign (.Name y py) X.env))) _ _ s
 refine ZR (DW (Qq (use:=some (assign (.Name y py) X.env)) (RQ:=λ_ s'=>SP X AA D .next s') hc hi RG NG L_ OP hx JI has SG hN ht he I h (λC Dd H' s1 s' H1 hC I1 I' hn ⟨m,hm⟩ q=>?_) hs) (λ_ s' hq=>ZS (ZS hq)) λ_ _ e=>e)
 subst hC
 show wpAny _ _ (assign (.Name y py) X.env (.ref Dd)) _ _ _
 refine wpAny_assign_Name (Pl I' bC SY (.inl hy) (show RelV (.ref Dd) (.ref Dd) from rfl) (λs2 I2 ⟨a,jV,ha⟩=>?_) (.inr hy))
 have yq:s1.heap.objs.size≠a:=by
  rcases ha with z|z
  .rw[z];exact EN I1.lt
  .intro z2
   obtain⟨v,qc⟩:=I1.cell y a z
   exact absurd qc.lt (by rw[<-z2];exact C_ _)
 exact⟨m,hm.sameBut jV yq,λh' lN=>⟨_,H',Ze (s':=s') I1 I2 hn lN,q⟩⟩
end
def KS(h:Heap)(d:Addr)(es:Array DictEntry)(ep:Nat):Prop:=∃o,h.get? d=some o/\o.ExactDict/\o.data=.dict es ep
theorem KS.at(x:KS h d es ep)(k:∀o,h.get? d=some o->h'.get? d=some o):KS h' d es ep:=let⟨o,e,r⟩:=x;⟨o,k o e,r⟩
section
theorem Uq(xB:(d==sysModules)=false)(hm:KS s.heap d es ep)(hQ:Q (.ref s.heap.objs.size) { s with heap:=s.heap.push { cls:=.type "dict_keyiterator",data:=.fields #[.ref d,.int 0 0,.int es.size 0,.int ep 0] } }):wpAny (model prog w) A (pyIter (.ref d)) Q E s:=by obtain⟨ob,g1,g2,g3⟩:=id hm;have tD:s.TypeIs (.ref d) "dict":=⟨ob,g1,g2.1⟩;refine wpAny_pyIter_slot tD F.slot_dict_iter (CY F.slot_dict_iter tD F.entry_dict_iter ?_ (F.args_dict_iter_1 _));unfold Builtin.«dict.__iter__»;refine ZR ?_;unfold Builtin.Dict.dictSlotNone;refine ZR (HJ tD ?_);show wpAny _ _ (pure (Value.ref d)) _ _ s;refine ZS ?_;show wpAny _ _ (Builtin.Dict.showsAll d >>= _) _ _ s;unfold Builtin.Dict.showsAll;rw[AB (by rw[xB];exact AL)];refine ZR (ZS ?_);refine ZR (BX g1 g3 (ZR (EB g1 g3 ?_)));refine ZR (DX (ZS ⟨_,rfl,"dict_keyiterator",_,⟨_,ZU _ rfl,rfl⟩,F.slot_dict_keyiterator_next.lookup,by simpa [rawInt] using hQ⟩))
theorem Uo(hit:s.heap.IsKeyIter it d i es.size ep)(hm:KS s.heap d es ep)(hx:es[i]?=some e)(hQ:∀h',h'.IsKeyIter it d (i+1) es.size ep->Heap.SameBut it s.heap h'->Q (some e.key) { s with heap:=h' }):wpAny (model prog w) A (pyNext (.ref it)) Q E s:=by
 obtain⟨oi,i1,i2,i3⟩:=id hit;obtain⟨ob,g1,g2,g3⟩:=id hm;have tI:=hit.typeIs;unfold pyNext;refine ZR (wpAny_attempt (IX (name:=Str.ofString "__next__") tI HE (CY HE tI F.entry_dict_keyiterator_next ?_ (F.args_dict_keyiterator_next_1 _))));refine ZR (ZS (ZR (ZR ?_)));first|refine ZR (GK tI (ZS ?_))|refine ZR (IM tI (ZS ?_))
 refine ZR (wpAny_fieldsOf i1 i3 ?_);have SN:Builtin.Dict_items.ownsTuple "dict_keyiterator"=false:=by decide
 simp only[SN,CB,DV];show wpAny _ _ (if(Value.ref d==Value.none)=true then _ else _) _ _ s;rw[AB (show ¬((Value.ref d==Value.none)=true) from AL)];refine ZR (ZS (ZR (BX g1 g3 ?_)));rw[AB (by simp)];refine ZR (ZS (ZR (EB g1 g3 ?_)));rw[AB (by simp)];refine ZS ?_;have lt:i<es.size:=(LA.mp hx).1;have ee:es[i]=e:=(LA.mp hx).2;simp only[show ¬((i:Int)<0) from by lia,DV,DF,Array.getElem?_eq_getElem lt];refine ZR ?_;first|refine ZR (GK tI (ZS ?_))|refine ZR (IM tI (ZS ?_))
 refine ZR (wpAny_isOneOf_keyiter tI ?_);show wpAny _ _ (setField (.ref it) 1 (rawInt ((i:Int)+1)) >>= _) _ _ s;refine ZR (wpAny_setField i1 i3 (by simp) ?_);have gU:(s.heap.update it (Obj.mapFields (·.setIfInBounds 1 (rawInt ((i:Int)+1))))).IsKeyIter it d (i+1) es.size ep :=⟨_,FD _ i1 (Obj.isFreed_of_fields (M_ i3 _)),(Obj.cls_mapFields ..).trans i2,by rw[M_ i3];simp[rawInt]⟩;refine ZR (EI ?_);refine ZR (wpAny_isOneOf_keyiter (s:={ s with heap:=s.heap.update it (Obj.mapFields (·.setIfInBounds 1 (rawInt ((i:Int)+1)))) }) gU.typeIs ?_);show wpAny _ _ (pure es[i].key) _ _ _;rw[ee];exact ZS (ZS ⟨_,rfl,ZS (hQ _ gU (Heap.SameBut.update ..))⟩)
theorem Yk(hh:A.handled=none)(hit:s.heap.IsKeyIter it d i es.size ep)(hm:KS s.heap d es ep)(hx:es.size<=i)(hQ:∀h',Heap.ExtBut it s.heap h'->Q none { s with heap:=h' }):wpAny (model prog w) A (pyNext (.ref it)) Q E s:=by
 obtain⟨oi,i1,i2,i3⟩:=id hit;obtain⟨ob,g1,g2,g3⟩:=id hm;have tI:=hit.typeIs;unfold pyNext;refine ZR (wpAny_attempt (IX (name:=Str.ofString "__next__") tI HE (CY HE tI F.entry_dict_keyiterator_next ?_ (F.args_dict_keyiterator_next_1 _))));refine ZR (ZS (ZR (ZR ?_)));first|refine ZR (GK tI (ZS ?_))|refine ZR (IM tI (ZS ?_))
 refine ZR (wpAny_fieldsOf i1 i3 ?_);have SN:Builtin.Dict_items.ownsTuple "dict_keyiterator"=false:=by decide
 simp only[SN,CB,DV];show wpAny _ _ (if(Value.ref d==Value.none)=true then _ else _) _ _ s;rw[AB (show ¬((Value.ref d==Value.none)=true) from AL)];refine ZR (ZS (ZR (BX g1 g3 ?_)));rw[AB (by simp)];refine ZR (ZS (ZR (EB g1 g3 ?_)));rw[AB (by simp)];refine ZS ?_;simp only[show ¬((i:Int)<0) from by lia,DV,DF,Array.getElem?_eq_none hx];refine ZR ?_;first|refine ZR (GK tI (ZS ?_))|refine ZR (IM tI (ZS ?_))
 show wpAny _ _ (setField (.ref it) 0 .none >>= _) _ _ s;refine ZR (wpAny_setField i1 i3 (by simp) ?_);show wpAny _ _ (newExc (.type "StopIteration") [] >>= _) _ _ _;refine ZR ?_;simp only[newExc,newTuple];refine ZR (DX ?_ (by size_fits));refine ZR (m:=firstArgMember _ _) (wpAny_of_eq (a:=Value.none) (by first|rfl|(simp only[firstArgMember];rfl)) ?_);refine DX ?_ (by size_fits);simp only[raiseNew];refine ZR (wpAny_handled ?_);rw[show A.in1.handled=none from hh];refine ZR (ZS (wpAny_throw ?_));refine ZR (wpAny_isInstance (T:="StopIteration") (b:=true) ⟨_,ZU _ rfl,rfl⟩ isSubtype_stop ?_);exact ZS (hQ _ (((Heap.SameBut.update ..).extBut.push _).push _))
end
def jn(H:Hp)(kvs:List (List Key×V))(as:List Addr):Prop:=Paired (λ(p:List Key×V)(a:Addr)=>H a=some (.BC (p.1.map kV))) kvs as
section
theorem Yy:∀{kvs:List (List Key×V)} {xs:List (List Key×Addr×Value)},KT H kvs xs->jn H kvs (xs.map (·.2.1))
 | _,_,.nil=>.nil
 | _,_,.cons r t=>.cons r.2.1 (Yy t)
theorem Ts(I:Inv X AA σ H s)(e:Rd H d (.dT kvs)):kvs.length<=sizeLine/\(d==sysModules)=false/\∃(es:Array DictEntry)(ep:Nat)(as:List Addr),KS s.heap d es ep/\es.size=kvs.length/\jn H kvs as/\∀j (h:j<es.size),∃a,as[j]?=some a/\es[j].key=.ref a:=by
 obtain⟨z,lo,xs,rel,o,es,ep,g1,g2,g3,g4,g5⟩:=(show CZ X.prog X.w H s.heap d (.dT kvs) from e.ok I.CT);have hl:es.size=xs.length:=by have:=congrArg List.length g4;simpa using this
 refine⟨z,lo,es,ep,xs.map (·.2.1),⟨o,g1,g2,g3⟩,by rw[hl];exact(Paired.length rel).symm,Yy rel,λj h=>?_⟩;have hj:j<xs.length:=by lia
 have e1:es.toList[j]?=some es[j]:=by simp[h]
 rw[g4,ZH] at e1;have e2:xs[j]?=some xs[j]:=by simp[hj]
 rw[e2] at e1;refine⟨xs[j].2.1,by rw[ZH,e2];rfl,?_⟩;have e3:entryOfKey (tupleKind (Bp X.prog X.w)) xs[j]=es[j]:=ZO e1;rw[<-e3];rfl
end
section
theorem Iu(I:Inv X AA σ H s)(hd:∃o,H d=some o)(nt:∀xs,H d≠some (.BC xs))(no:∀y,H d≠some (.own y))(nf:∀o v,X.ON d≠some (.FJ o v))(wy:∀ps,H d≠some (.XE ps))(new:CZ X.prog X.w (upd H d u) s.heap d u):Inv X AA σ (upd H d u) s:=by
 obtain⟨o,hd⟩:=hd;have fr:∀b,H b=none->(upd H d u) b=none:=λb n=>by rw[Ab λz=>by rw[z,hd] at n;cases n];exact n
 refine⟨I.ok,I.os,I.bare,⟨I.base.keep,I.base.slot,λb ob e n hx=>fr b (I.base.free b ob e n hx),I.base.there,λb xs e=>?_,λb ob v e=>?_,λb ps e=>?_⟩,I.loc,I.cell,fr _ I.free,λy c e=>fr _ (I.HX y c e),λp hp=>?_,λb v e=>?_,I.len⟩;.have:=I.base.NM b xs e;rw[Ab λz=>nt xs (by rw[<-z];exact this)];exact this
 .have:=I.base.LF b ob v e;rw[Ab λz=>nf ob v (by rw[<-z];exact e)];exact this
 .obtain⟨more,q⟩:=I.base.NN b ps e;exact⟨more,by rw[Ab λz=>wy _ (by rw[<-z];exact q)];exact q⟩
 .obtain⟨a1,a2,a3⟩:=I.pin p hp;exact⟨a1,fr _ a2,a3⟩
 .by_cases hb:b=d;(.subst hb;rw[Ac] at e;cases e;exact new);.rw[Ab hb] at e;refine(I.CT b v e).OJ (λc w' _ q=>q) (λc q=>?_) λc xs q=>?_;(.rw[Ab λz=>no _ (by rw[<-z];exact q)];exact q);.rw[Ab λz=>nt _ (by rw[<-z];exact q)];exact q
theorem Xg(I:Inv X AA σ H s)(e:H d=some (.dT kvs)):∃o,s.heap.get? d=some o/\Inv X AA σ (upd H d (.FJ o (.dT kvs))) s:=by
 have ok:=I.CT d _ e;obtain⟨_,_,xs,_,o,es,ep,g,_⟩:=id ok;refine⟨o,g,Iu I ⟨_,e⟩ (λxs z=>by rw[e] at z;cases z) (λy z=>by rw[e] at z;cases z) (λob v z=>by have:=I.base.LF d ob v z;rw[e] at this;cases this) (λps z=>by rw[e] at z;cases z) ⟨g,?_⟩⟩;refine ok.OJ (λc w' _ q=>q) (λc q=>?_) λc xs q=>?_;.rw[Ab λz=>by rw[z,e] at q;cases q];exact q
 .rw[Ab λz=>by rw[z,e] at q;cases q];exact q
theorem Vj(I:Inv X AA σ H s)(e:H d=some (.FJ o u))(nf:∀o v,X.ON d≠some (.FJ o v)):Inv X AA σ (upd H d u) s:=by
 obtain⟨g,ok⟩:=(show CZ X.prog X.w H s.heap d (.FJ o u) from I.CT d _ e);refine Iu I ⟨_,e⟩ (λxs z=>by rw[e] at z;cases z) (λy z=>by rw[e] at z;cases z) nf (λps z=>by rw[e] at z;cases z) ?_;refine ok.OJ (λc w' _ q=>q) (λc q=>?_) λc xs q=>?_;.rw[Ab λz=>by rw[z,e] at q;cases q];exact q
 .rw[Ab λz=>by rw[z,e] at q;cases q];exact q
def ub(ON H H':Hp):Prop:=∃d o u,H d=some (.FJ o u)/\(∀o v,ON d≠some (.FJ o v))/\H'=upd H d u
theorem PE.RZ(h:PE X e t):PE X e (λσ H Q=>t σ H λv H1=>∃H2,ub X.ON H1 H2/\Q v H2):=λAA s σ H Q I hw =>DU (h AA s σ H _ I hw) λu s' ⟨v,H1,I1,r,H2,⟨d,o,w',e1,e2,e3⟩,q⟩=>⟨v,H2,by rw[e3];exact Vj I1 e1 e2,r,q⟩
theorem N'.RZ(h:N' X FE t):N' X FE (λD σ H=>∃H2,ub X.ON H H2/\t D σ H2):=λAA s σ H D I ⟨H2,⟨d,o,w',e1,e2,e3⟩,q⟩=>by subst e3;exact h AA s σ _ D (Vj I e1 e2) q
end
def YN(d:Addr)(kvs:List (List Key×V))(o:Obj):It :=
 ⟨λi H=>H d=some (.FJ o (.dT kvs))/\i<kvs.length,λi H x H'=>H'=H/\∃a k v,x=.ref a/\kvs[i]?=some (k,v)/\H a=some (.BC (k.map kV)),λi H=>H d=some (.FJ o (.dT kvs))/\kvs.length<=i⟩
theorem Zo{P:Program}{w:World}{K:W.Frag}{tg:Expr}(d it:Addr)(kvs:List (List Key×V))(o:Obj)(es:Array DictEntry)(ep:Nat)(ho:o.ExactDict)(hd:o.data=.dict es ep)(hz:es.size=kvs.length):Turn P w K tg (YN d kvs o) [it] it (λi h=>h.IsKeyIter it d i es.size ep) where
 mem:=by simp
 obj:=λi h st b hb=>by
  have e:b=it:=by simpa using hb
  subst e
  obtain⟨oi,e,c,q⟩:=st
  exact⟨oi,e,λv z=>by rw[q] at z;cases z⟩
 keep:=λi h h' ⟨oi,e,r⟩ k=>⟨oi,k it (by simp) oi e,r⟩
 item:=by
  intro X hP hw hK hc i AA s σ H E I hf st ⟨hg,hi⟩
  subst hP hw hK
  obtain⟨f0,f1,f2,f3,f4,f5⟩:=hf it (by simp)
  have g:s.heap.get? d=some o:=(show CZ X.prog X.w H s.heap d (.FJ o (.dT kvs)) from I.CT d _ hg).1
  obtain⟨_,_,bE,bF,as,⟨o',g',q1,q2⟩,z',ks,at_⟩:=Ts I (.inr ⟨o,hg⟩)
  rw[g] at g';cases g'
  rw[hd] at q2
  injection q2 with q2 q3
  subst q2;subst q3
  have lt:i<es.size:=by lia
  obtain⟨a,ha,hk⟩:=at_ i lt
  have hx:kvs[i]?=some kvs[i]:=by simp[hi]
  refine Uo st ⟨o,g,ho,hd⟩ (e:=es[i]) (by simp[lt]) λh' OY sb=>?_
  have I1:Inv X AA σ H { s with heap:=h' }:=I.turned (t':=s.toks) (λb ob hb e=>(sb.2 b hb).trans e) f0 f1 f3 f4 f5
  obtain⟨oi,e,c,q⟩:=id OY
  refine⟨_,rfl,Vo (s:={ s with heap:=h' }) e c q (by decide) ⟨.ref a,H,I1,hk,⟨rfl,a,kvs[i].1,kvs[i].2,rfl,hx,Ax ks i kvs[i] a hx ha⟩,OY,λb hb=>(hf b hb).1⟩⟩
 done:=by
  intro X hP hw hK hc i AA s σ H E I hf st ⟨hg,hi⟩
  subst hP hw hK
  obtain⟨f0,f1,f2,f3,f4,f5⟩:=hf it (by simp)
  have g:s.heap.get? d=some o:=(show CZ X.prog X.w H s.heap d (.FJ o (.dT kvs)) from I.CT d _ hg).1
  exact Yk (I.ok.hd hc) st ⟨o,g,ho,hd⟩ (by lia) λh' eb=>⟨rfl,I.turned (t':=s.toks) (λb ob hb e=>eb b ob hb e) f0 f1 f3 f4 f5⟩
 self:=λ_ _ _ _ _ st h=>wpAny_pyIter_keyiter st h
section
def Jin(td:TE):TI:=λσ H R=>td σ H λx H1=>∃d kvs,x=.ref d/\H1 d=some (.dT kvs)/\∀o,R (YN d kvs o) (upd H1 d (.FJ o (.dT kvs)))
theorem Mm{l:Expr}{td:TE}(hl:PE X l td):PI X tg l (Jin td):=by
 intro AA s σ H R I h;refine DU (hl AA s σ H _ I h) ?_;rintro v s1 ⟨x,H1,I1,r1,d,kvs,ex,hd,hR⟩;subst ex;cases r1;obtain⟨o,g,I2⟩:=Xg I1 hd;obtain⟨_,lo,es,ep,as,⟨o',g',q1,q2⟩,z,ks,at_⟩:=Ts I1 (.inl hd);rw[g] at g';cases g';refine Uq lo ⟨o,g,q1,q2⟩ ?_;have fresh:=I2.CT.fresh (ZG _);have I3:Inv X AA σ (upd H1 d (.FJ o (.dT kvs))) { s1 with heap:=s1.heap.push { cls:=.type "dict_keyiterator",data:=.fields #[.ref d,.int 0 0,.int es.size 0,.int ep 0] } }:=I2.kept (t':=s1.toks) λb ob e=>ZT _ e;refine⟨s1.heap.objs.size,[s1.heap.objs.size],_,YN d kvs o,_,rfl,I3,Zo d _ kvs o es ep q1 q2 z,⟨_,ZU _ rfl,rfl,rfl⟩,λb hb=>?_,hR o⟩;have e:b=s1.heap.objs.size:=by simpa using hb
 subst e;exact I2.UM (ZG _) fresh
end
end FX
namespace FhS
open PySem PyProof.Rows PySem.W
def KU(cmp:Nat->Nat->(Bool->Shared->Prop)->Shared->Prop)(lt:Nat->Nat->Bool)(n:Nat)(s:Shared):Prop :=
 ∀i j,i<n->j<n->∀C:Bool->Shared->Prop,C (lt i j) s->cmp i j C s
structure iW(lt:Nat->Nat->Bool)(n:Nat):Prop where
 tr:∀i j k,i<n->j<n->k<n->lt i j=true->lt j k=true->lt i k=true
 vx:∀i j,i<n->j<n->i≠j->lt i j=false->lt j i=true
structure Pm(p:Array Nat)(n:Nat):Prop where
 pm:p.toList.Perm (List.range n)
theorem Pm.size(h:Pm p n):p.size=n:=by have:=h.pm.length_eq;simpa using this
theorem Pm.lt(h:Pm p n)(hi:i<n):p.getD i 0<n:=by
 have hs:=h.size;have SY:i<p.size:=by lia
 have e:p.getD i 0=p[i]:=by simp[Array.getD,SY]
 rw[e];have:p[i]∈List.range n:=h.pm.mem_iff.mp (by simp);exact BQ.mp this
theorem Pm.inj(h:Pm p n)(hi:i<n)(hj:j<n)(e:p.getD i 0=p.getD j 0):i=j:=by
 have hs:=h.size;have SY:i<p.size:=by lia
 have W_:j<p.size:=by lia
 have nd:p.toList.Nodup:=h.pm.nodup_iff.mpr List.nodup_range;have e1:p.getD i 0=p[i]:=by simp[Array.getD,SY]
 have e2:p.getD j 0=p[j]:=by simp[Array.getD,W_]
 rw[e1,e2] at e;have:=(JE (xs:=p.toList) (i:=i) (j:=j) (h₀:=by simpa using SY) (h₁:=by simpa using W_) nd).mp (by simpa using e);exact this
theorem Pm.TV(h:Pm p n)(hq:q.Perm p):Pm q n:=⟨(Array.perm_iff_toList_perm.mp hq).trans h.pm⟩
theorem Jbr(n:Nat):Pm (List.toArray (List.range n)) n:=⟨by simp⟩
def Up(lt:Nat->Nat->Bool)(p:Array Nat)(m:Nat):Prop:=∀i j,i<j->j<m->lt (p.getD i 0) (p.getD j 0)=true
def Dn(lt:Nat->Nat->Bool)(p:Array Nat)(m:Nat):Prop:=∀i j,i<j->j<m->lt (p.getD j 0) (p.getD i 0)=true
section
variable (O:iW lt n)
include O
theorem other(h:Pm p n)(hi:i<n)(hj:j<n)(SX:i≠j)(e:lt (p.getD i 0) (p.getD j 0)=false):lt (p.getD j 0) (p.getD i 0)=true :=O.vx _ _ (h.lt hi) (h.lt hj) (λz=>SX (h.inj hi hj z)) e
theorem Up.snoc(h:Pm p n)(h1:1<=a)(ha:a<n)(u:Up lt p a)(e:lt (p.getD (a-1) 0) (p.getD a 0)=true):Up lt p (a+1):=by
 intro i j SX hj;by_cases eY:j=a;.subst eY;by_cases hi:i=j-1;(.rw[hi];exact e);.exact O.tr _ _ _ (h.lt (by lia)) (h.lt (by lia)) (h.lt ha) (u i (j-1) (by lia) (by lia)) e
 .exact u i j SX (by lia)
theorem Dn.snoc(h:Pm p n)(h1:1<=a)(ha:a<n)(u:Dn lt p a)(e:lt (p.getD a 0) (p.getD (a-1) 0)=true):Dn lt p (a+1):=by
 intro i j SX hj;by_cases eY:j=a;.subst eY;by_cases hi:i=j-1;(.rw[hi];exact e);.exact O.tr _ _ _ (h.lt ha) (h.lt (by lia)) (h.lt (by lia)) e (u i (j-1) (by lia) (by lia))
 .exact u i j SX (by lia)
theorem Xp(K:KU cmp lt n s)(h:Pm p n):∀(f a:Nat)(G:Nat->Shared->Prop),1<=a->a+f<=n->Up lt p a -> (∀m,a<=m->m<=a+f->Up lt p m->(m=a+f\/lt (p.getD m 0) (p.getD (m-1) 0)=true)->G m s)->(kas_asc p f a).kasWp cmp G s
 | 0,a,G,_,_,u,k=>k a (ZG _) (ZG _) u (.inl rfl)
 | f+1,a,G,h1,hn,u,k=>by unfold kas_asc;refine K _ _ (h.lt (by lia)) (h.lt (by lia)) _ ?_;cases e:lt (p.getD a 0) (p.getD (a-1) 0) with | true =>simp only[GJ];exact k a (ZG _) (by lia) u (.inr e) | false =>simp only[CB,DV];exact Xp K h f (a+1) G (by lia) (by lia) (Up.snoc O h h1 (by lia) u (other O h (by lia) (by lia) (by lia) e)) λm a1 a2 a3 a4=>k m (by lia) (by lia) a3 (a4.imp (λz=>by lia) λz=>z)
theorem Za(K:KU cmp lt n s)(h:Pm p n):∀(f a:Nat)(G:Array Nat×Nat×Nat->Shared->Prop),1<=a->a+f<=n->Dn lt p a -> (∀m,a<=m->m<=a+f->Dn lt p m->G (p,m,0) s)->(kas_desc f p a 0).kasWp cmp G s
 | 0,a,G,_,_,u,k=>k a (ZG _) (ZG _) u
 | f+1,a,G,h1,hn,u,k=>by unfold kas_desc;refine K _ _ (h.lt (by lia)) (h.lt (by lia)) _ ?_;cases e:lt (p.getD a 0) (p.getD (a-1) 0) with | true =>simp only[GJ,C_,gt_iff_lt,DV];exact Za K h f (a+1) G (by lia) (by lia) (Dn.snoc O h h1 (by lia) u e) λm a1 a2 a3=>k m (by lia) (by lia) a3 | false =>simp only[CB,DV];refine K _ _ (h.lt (by lia)) (h.lt (by lia)) _ ?_;simp only[other O h (by lia) (by lia) (by lia) e,GJ];exact k a (ZG _) (by lia) u
omit O in
theorem Mq{p q:Array Nat}{i j:Nat}(e:p[i]?=q[j]?):p.getD i 0=q.getD j 0:=by
 rw[Array.getD_eq_getD_getElem?,Array.getD_eq_getD_getElem?,e]
omit O in
theorem Jgh{p:Array Nat}{m:Nat}(hm:m<=p.size)(d:Dn lt p m):Up lt (kas_rev p 0 m) m:=by
 intro i j SX hj
 have g:∀k,k<m->(kas_rev p 0 m).getD k 0=p.getD (m-1-k) 0:=λk hk=>by
  refine Mq ?_
  unfold kas_rev
  rw[getElem?_mirror_all hm,AE ⟨BF _,hk⟩]
  congr 1;lia
 rw[g i (by lia),g j hj]
 exact d _ _ (by lia) (by lia)
theorem Jde(K:KU cmp lt n s)(hn:1<=n)(h:Pm p n)(G:Nat×Array Nat->Shared->Prop)(k:∀m q,1<=m->m<=n->Pm q n->Up lt q m->G (m,q) s):(kas_count n p).kasWp cmp G s:=by
 unfold kas_count;rw[MF];have up1:Up lt p 1:=λi j h1 h2=>by lia
 refine Xp O K h (n-1) 1 _ (ZG _) (by lia) up1 λa a1 a2 a3 a4=>?_;by_cases ha:(a==n)=true;.rw[AE ha];exact k a p a1 (by lia) h a3
 .rw[AB ha];(have l7:a≠n:=by simpa using ha);by_cases h1:a > 1;(.rw[AE h1];refine K _ _ (h.lt (by lia)) (h.lt (by lia)) _ ?_;simp only[a3 0 (a-1) (by lia) (by lia),GJ];exact k a p a1 (by lia) h a3);.rw[AB h1];(have e1:a=1:=by lia);subst e1;unfold kas_descPart;rw[MF];have e2:lt (p.getD 1 0) (p.getD 0 0)=true:=a4.elim (λz=>by lia) λz=>z;(have d2:Dn lt p (1+1):=by intro i j SX hj;(have e3:i=0:=by lia);(have e4:j=1:=by lia);rw[e3,e4];exact e2);refine Za O K h (n-(1+1)) (1+1) _ (by lia) (by lia) d2 λm q2 q3 q4=>?_;simp only[gt_iff_lt,C_,DV];unfold kas_tail3;rw[MF];have hr:Pm (kas_rev p 0 m) n:=h.TV (mirror_perm _ _ _ _);refine Xp O K hr (n-m) m _ (by lia) (by lia) (Jgh (by rw[h.size];lia) q4) λb b1 b2 b3 _=>?_;exact k b _ (by lia) (by lia) hr b3
theorem Nj(K:KU cmp lt n s)(h:Pm p n)(hk:k<n)(u:Up lt p k):∀(f l r:Nat)(G:Nat->Shared->Prop),l<=r->r<=k->r-l<=f->(∀i,i<l->lt (p.getD i 0) (p.getD k 0)=true)->(∀i,r<=i->i<k->lt (p.getD k 0) (p.getD i 0)=true) -> (∀m,m<=k->(∀i,i<m->lt (p.getD i 0) (p.getD k 0)=true)->(∀i,m<=i->i<k->lt (p.getD k 0) (p.getD i 0)=true)->G m s)->(kas_place p k f l r).kasWp cmp G s
 | 0,l,r,G,h1,h2,h3,lo,hi,g=>g l (by lia) lo λi a b=>hi i (by lia) b
 | f+1,l,r,G,h1,h2,h3,lo,hi,g=>by unfold kas_place;by_cases q:l ≥ r;(.rw[AE q];exact g l (by lia) lo λi a b=>hi i (by lia) b);.rw[AB q];refine K _ _ (h.lt hk) (h.lt (by lia)) _ ?_;cases e:lt (p.getD k 0) (p.getD ((l+r) / 2) 0) with | true =>simp only[GJ];refine Nj K h hk u f l ((l+r) / 2) G (by lia) (by lia) (by lia) lo (λi a b=>?_) g;by_cases z:i=(l+r) / 2;(.rw[z];exact e);.exact O.tr _ _ _ (h.lt hk) (h.lt (by lia)) (h.lt (by lia)) e (u _ _ (by lia) b) | false =>simp only[CB,DV];have e':=other O h hk (by lia) (by lia) e;refine Nj K h hk u f ((l+r) / 2+1) r G (by lia) h2 (by lia) (λi a=>?_) hi g;by_cases z:i=(l+r) / 2;(.rw[z];exact e');.exact O.tr _ _ _ (h.lt (by lia)) (h.lt (by lia)) (h.lt hk) (u _ _ (by lia) (by lia)) e'
omit O in
theorem Jhg{p:Array Nat}(h:Pm p n){k l:Nat}(hk:k<n)(hl:l<=k)(u:Up lt p k)(lo:∀i,i<l->lt (p.getD i 0) (p.getD k 0)=true)(hi:∀i,l<=i->i<k->lt (p.getD k 0) (p.getD i 0)=true) :
 Up lt (bubble p k (k-l)) (k+1):=by
 have g:∀j,j<k+1->(bubble p k (k-l)).getD j 0=if j=l then p.getD k 0 else if l<j then p.getD (j-1) 0 else p.getD j 0:=λj hj=>by
  have e:=getElem?_bubble (xs:=p) (src:=k) (by rw[h.size];exact hk) (k-l) (by lia) j
  rw[show k-(k-l)=l by lia] at e
  by_cases c1:j=l
  .rw[AE c1] at e ⊢;exact Mq e
  .rw[AB c1] at e ⊢
   by_cases c2:l<j
   .rw[AE ⟨c2,by lia⟩] at e;rw[AE c2];exact Mq e
   .rw[AB (by lia)] at e;rw[AB c2];exact Mq e
 intro i j SX hj
 rw[g i (by lia),g j hj]
 repeat' split
 all_goals first
  | (exfalso;lia)
  | exact lo _ (by lia)
  | exact hi _ (by lia) (by lia)
  | exact u _ _ (by lia) (by lia)
theorem vC(K:KU cmp lt n s):∀(f:Nat)(p:Array Nat)(k:Nat)(G:Array Nat->Shared->Prop),Pm p n->k+f=n->Up lt p k->(∀q,Pm q n->Up lt q n->G q s)->(kas_bin f p k).kasWp cmp G s
 | 0,p,k,G,h,hk,u,g=>by (have e:k=n:=by lia);subst e;exact g p h u
 | f+1,p,k,G,h,hk,u,g=>by unfold kas_bin;rw[MF];exact Nj O K h (k:=k) (by lia) u k 0 k _ (BF _) (ZG _) (by lia) (λi a=>by lia) (λi a b=>by lia) λm c1 c2 c3 =>vC K f _ (k+1) G (h.TV (bubble_perm _ _ _)) (by lia) (Jhg h (by lia) c1 u c2 c3) g
theorem YZ(K:KU cmp lt n s)(hn:1<=n)(G:Array Nat->Shared->Prop)(g:∀q,Pm q n->Up lt q n->G q s):(kas_sort n).kasWp cmp G s:=by
 unfold kas_sort;rw[MF];refine Jde O K hn (Jbr n) _ λm q h1 h2 h3 h4=>?_;by_cases c:m<n;.rw[AE c];(have e2:max m 1=m:=by lia);show(kas_bin (n-max m 1) q (max m 1)).kasWp cmp G s;rw[e2];exact vC O K _ q m G h3 (by lia) h4 g
 .rw[AB c];(have e2:m=n:=by lia);subst e2;exact g q h3 h4
end
end FhS
namespace FX
open PySem PySem.Spec PyProof.Rows L2
section
theorem Zw(hh:A.handled=none)(I d:Addr)(XU:d≠I)(es:Array DictEntry)(ep:Nat):Walks prog w A I [I,d] [I] es.size (λi v=>∃e,es[i]?=some e/\v=e.key) (λi h=>h.IsKeyIter I d i es.size ep/\KS h d es ep) where
 sub:=λb hb=>by simp at hb;simp[hb]
 frame:=λ_ _ _ st hk=>⟨let⟨o,e,r⟩:=st.1;⟨o,hk I (by simp) o e,r⟩,st.2.at λo e=>hk d (by simp) o e⟩
 item:=λi s0 Q E0 hi st hQ=>Uo st.1 st.2 (e:=es[i]) (by simp[hi]) λh' x4 sb =>
  hQ _ h' s0.toks ⟨es[i],by simp[hi],rfl⟩ ⟨x4,st.2.at λo e=>(sb.2 d XU).trans e⟩ λb o hb e=>(sb.2 b λz=>hb (by simp[z])).trans e
 done:=λs0 Q E0 st hQ=>Yk hh st.1 st.2 (ZG _) λh' eb=>hQ h' s0.toks λb o hb e=>eb b o (λz=>hb (by simp[z])) e
 self:=λ_ _ _ _ st hQ=>wpAny_pyIter_keyiter st.1 hQ
theorem R5(lo:(d==sysModules)=false):W.KdlSrc prog w "dict" d d es.size (λi v=>∃e,es[i]?=some e/\v=e.key) (λh=>KS h d es ep) where
 type:=λ_ ⟨o,e,x,_⟩=>⟨o,e,x.1⟩
 there:=λ_ ⟨o,e,_⟩=>⟨AU e,AU e⟩
 keep:=λ_ _ hm hk=>hm.at λo e=>hk d (.inl rfl) o e
 notList:=by decide
 notTuple:=by decide
 hint:=λ_ _ _ _ ⟨o,e,x,_⟩ hq=>W.kdl_hint_dict ⟨o,e,x.1⟩ hq
 iter:=λ_ s0 hh hm=>⟨_,_,(λ_ _ hq=>Uq lo hm hq),Zw hh _ d (let⟨o,e,_⟩:=hm;BK (AU e)) es ep,⟨⟨_,ZU _ rfl,rfl,rfl⟩,hm.at λo e=>ZT _ e⟩⟩
end
theorem Ky:∀as:List Addr,Vals (as.map V.ref) (as.map Value.ref)
 | []=>.nil
 | _::as=>.cons rfl (Ky as)
theorem V3{es:Array DictEntry}{acc:Array Value}{as:List Addr}(ha:ItemsOf (λi v=>∃e,es[i]?=some e/\v=e.key) acc es.size)(eX:as.length=es.size)(at_:∀j (h:j<es.size),∃a,as[j]?=some a/\es[j].key=.ref a):acc.toList=as.map Value.ref:=by
 refine LV λj=>?_;by_cases hj:j<es.size;·(have h1:j<acc.size:=by rw[ha.1];exact hj);obtain⟨e2,e3,e4⟩:=ha.2 j acc[j] (by simp[h1]);obtain⟨a,e5,e6⟩:=at_ j hj;(have e7:e2=es[j]:=by (have:es[j]?=some es[j]:=by simp[hj]);rw[this] at e3;exact(ZO e3).symm);rw[ZH,e5];(have:acc.toList[j]?=some acc[j]:=by simp[h1]);rw[this,e4,e7,e6];rfl
 ·(have h1:acc.toList.length<=j:=by rw[CF,ha.1];lia);(have h2:(as.map Value.ref).length<=j:=by rw[ZA];lia);rw[CC h1,CC h2]
section
variable {X:Cx}
theorem O1(hc:X.calm=true):Fm X (.type "list") (λxs H Q=>∃d kvs,xs=[.ref d]/\Rd H d (.dT kvs)/\∀l as,H l=none->jn H kvs as->Q (.ref l) (upd H l (.BI (as.map V.ref)))):=by intro AA s σ H xs us Q I r h;obtain⟨d,kvs,rfl,hd,q⟩:=h;obtain⟨u,rfl,rx⟩:=vals1 r;cases rx;obtain⟨z,lo,es,ep,as,raw,hz,ks,at_⟩:=Ts I hd;refine W.kdl_call (R5 lo (es:=es) (ep:=ep)) (I.ok.hd hc) raw (by rw[hz];exact z) λh' tk acc c kp e ha=>?_;have hn:H s.heap.objs.size=none:=I.CT.fresh (ZG _);have eX:as.length=kvs.length:=(Paired.length ks).symm;have e1:acc.toList=as.map Value.ref:=V3 ha (by lia) at_;refine⟨.ref s.heap.objs.size,_,I.laid (t':=tk) kp (ZG _) (show CZ X.prog X.w _ h' _ (.BI (as.map V.ref)) from⟨by rw[ZA];lia,acc.toList,c,?_,by simpa using e⟩),rfl,q _ as hn ks⟩;rw[e1];exact Ky as
end
theorem Mn:∀xs:List Int,HT.lexLt xs xs=false
 | []=>rfl
 | x::xs=>by rw[HT.FG,AE rfl];exact Mn xs
theorem Sw:∀{xs ys zs:List Int},HT.lexLt xs ys=true->HT.lexLt ys zs=true->HT.lexLt xs zs=true
 | [],[],_,h,_=>by cases h
 | [],_::_,[],_,h=>by cases h
 | [],_::_,_::_,_,_=>rfl
 | _::_,[],_,h,_=>by cases h
 | _::_,_::_,[],_,h=>by cases h
 | x::xs,y::ys,z::zs,h1,h2=>by rw[HT.FG] at h1 h2 ⊢;by_cases e1:x=y;(.rw[AE e1] at h1;by_cases e2:y=z;(.rw[AE e2] at h2;rw[AE (e1.trans e2)];exact Sw h1 h2);.rw[AB e2] at h2;rw[AB (by rw[e1];exact e2),e1];exact h2);.rw[AB e1] at h1;have h1:=BL h1;by_cases e2:y=z;(.rw[AB (by rw[<-e2];exact e1),<-e2];exact AJ h1);.rw[AB e2] at h2;have h2:=BL h2;rw[AB (by lia)];exact AJ (by lia)
theorem Sx:∀{xs ys:List Int},xs≠ys->HT.lexLt xs ys=false->HT.lexLt ys xs=true
 | [],[],h,_=>absurd rfl h
 | [],_::_,_,h=>by cases h
 | _::_,[],_,_=>rfl
 | x::xs,y::ys,XU,h=>by rw[HT.FG] at h ⊢;by_cases e:x=y;(.rw[AE e] at h;rw[AE e.symm];exact Sx (λz=>XU (by rw[e,z])) h);.rw[AB e] at h;have h:=of_decide_eq_false h;rw[AB (Ne.symm e)];exact AJ (by lia)
theorem Ij{α:Type}{lt:α->α->Prop}(x5:∀a,¬lt a a)(iT:∀a b,lt a b->¬lt b a):∀{PZ l₂:List α},PZ.Perm l₂->PZ.Pairwise lt->l₂.Pairwise lt->PZ=l₂
 | [],l₂,p,_,_=>(List.Perm.nil_eq p)
 | a::PZ,[],p,_,_=>by have:=p.length_eq;simp at this
 | a::PZ,b::l₂,p,h1,h2=>by have sL:=EA.mp h1;have aJ:=EA.mp h2;(have e:a=b:=by have ha:a∈b::l₂:=p.mem_iff.mp (ZL ..);have hb:b∈a::PZ:=p.mem_iff.mpr (ZL ..);rcases ZM ha with e|ha;(.exact e);.rcases ZM hb with e|hb;(.exact e.symm);.exact absurd (aJ.1 a ha) (iT _ _ (sL.1 b hb)));subst e;rw[Ij x5 iT (List.Perm.cons_inv p) sL.2 aJ.2]
section
theorem P2(ho:s.heap.get? a=some (seqObj "list" vs.toArray n))(UA:vs.length<64)(O:FhS.iW lt vs.length)(K:2<=vs.length->∀h',(∀b o,b≠a->s.heap.get? b=some o->h'.get? b=some o)->∀Q:SortKind->Shared->Prop,(∀κ,FhS.KU (W.kas_ask prog w A κ vs) lt vs.length { s with heap:=h' }->Q κ { s with heap:=h' })->wpAny (model prog w) A (keyKind' vs.toArray) Q E { s with heap:=h' })(h:∀q:List Nat,q.Perm (List.range vs.length)->q.Pairwise (λi j=>lt i j=true)->∀h' c,(∀b o,b≠a->s.heap.get? b=some o->h'.get? b=some o)->h'.get? a=some (seqObj "list" (q.map λi=>vs.getD i .none).toArray c)->P (.done (.ret .none)) { s with heap:=h' }) :
 wpAny (model prog w) A (Builtin.«list.sort» ⟨[.ref a],[]⟩) P E s:=by
 rw[list_sort_plain]
 have al:a<s.heap.objs.size:=AU ho
 have small:∀{k:Nat},k<=63->k<=sizeLine:=λhk=>by rw[DL];lia
 refine ZR (listItems_at ho rfl (ZR (listUpdate_at ho rfl ?_ (by rw[A_];exact small (by lia)) (BF _))))
 obtain⟨e1,g1⟩:∃e1,(s.heap.update a (Obj.mapSeq λ_=>(#[]:Array Value))).get? a=some (seqObj "list" #[] e1):=⟨_,JU ho λ_=>#[]⟩
 refine ZR (seqEpoch_at g1 rfl (ZR (wpAny_newTuple (ZR (wpAny_newList (EI ?_) (BF _))) (by show vs.length<=_;exact small (by lia)))))
 have g2:(((s.heap.update a (Obj.mapSeq λ_=>(#[]:Array Value))).push (seqObj "tuple" vs.toArray 0)).push (seqObj "list" #[] 0)).get? a=some (seqObj "list" #[] e1):=ZT _ (ZT _ g1)
 have kp:∀b o,b≠a->s.heap.get? b=some o->(((s.heap.update a (Obj.mapSeq λ_=>(#[]:Array Value))).push (seqObj "tuple" vs.toArray 0)).push (seqObj "list" #[] 0)).get? b=some o:=λb o hb e =>
  ZT _ (ZT _ ((CS _ _ (Ne.symm hb)).trans e))
 show wpAny (model prog w) A _ P E { s with heap:=((s.heap.update a (Obj.mapSeq λ_=>(#[]:Array Value))).push (seqObj "tuple" vs.toArray 0)).push (seqObj "list" #[] 0) }
 generalize ((s.heap.update a (Obj.mapSeq λ_=>(#[]:Array Value))).push (seqObj "tuple" vs.toArray 0)).push (seqObj "list" #[] 0)=hh at g2 kp
 dsimp only
 have fin:∀(st:SortSt)(q:List Nat),(arrOf st).map (·.2)=(q.map λi=>vs.getD i .none).toArray->failedOf st=none->q.Perm (List.range vs.length)->q.Pairwise (λi j=>lt i j=true) ->
  wpAny (model prog w) A (do
   let touched:=(<-seqEpoch a) != e1
   Builtin.List.listUpdate (.ref a) λ_=>(arrOf st).map (·.2)
   if let some e:=failedOf st then rule "list.sort.comparison-raised";throw e
   if touched then rule "list.sort.modified";raiseError "ValueError" "list modified during sort"
   ret .none) P E { s with heap:=hh }:=λst q ea ef qp qo=>by
  have hl:q.length=vs.length:=by rw[qp.length_eq,BV]
  refine ZR (seqEpoch_at g2 rfl ?_)
  rw[ea]
  refine ZR (listUpdate_at g2 rfl ?_ (BF _) (by show(q.map λi=>vs.getD i Value.none).toArray.size<=sizeLine+1;rw[A_,ZA,hl];exact LR (small (by lia))))
  rw[ef]
  simp only[bne_self_eq_false,CB,DV]
  refine ZS (h q qp qo _ _ (λb o hb e=>(CS _ _ (Ne.symm hb)).trans (kp b o hb e)) (JU g2 _))
 by_cases h2:vs.toArray.size<2
 .rw[AE h2,AE h2]
  refine ZR (ZS ?_)
  rw[StateT.run_pure]
  refine ZR (ZS ?_)
  have aJ:vs.length<2:=by simpa using h2
  refine fin (SortSt.mk' general' (vs.toArray.zip vs.toArray) #[] 7 none) (List.range vs.length) ?_ rfl (List.Perm.refl _) ?_
  .show(vs.toArray.zip vs.toArray).map (·.2)=_
   match vs,aJ with
   | [],_=>simp
   | [v],_=>simp
  .match vs,aJ with
   | [],_=>exact List.Pairwise.nil
   | [v],_=>exact List.pairwise_singleton _ _
 .rw[AB h2,AB h2]
  have aJ:2<=vs.length:=by simpa using h2
  refine ZR (K aJ hh kp _ λκ ask=>?_)
  refine ZR (DW (W.kat_run (E:=E) (vs:=vs) (ks:=vs) (κ:=κ) (s:={ s with heap:=hh }) (Q:=λOY s'=>s'={ s with heap:=hh }/\∃q:List Nat,(arrOf OY).map (·.2)=(q.map λi=>vs.getD i .none).toArray/\failedOf OY=none/\q.Perm (List.range vs.length)/\q.Pairwise (λi j=>lt i j=true))
   (G:=λp s'=>s'={ s with heap:=hh }/\FhS.Pm p vs.length/\FhS.Up lt p vs.length) rfl aJ UA (λp OY s' hp ha hf ⟨e,pm,up⟩=>?_) (FhS.YZ O ask (by lia) _ λq pm up=>⟨rfl,pm,up⟩)) (λr s' hr=>?_) λ_ _ e=>e)
  .refine⟨e,p.toList,W.kat_snds rfl ha,hf,pm.pm,?_⟩
   rw[List.pairwise_iff_getElem]
   intro i j hi hj SX
   have hs:=pm.size
   have:=up i j SX (by rw[<-hs];simpa using hj)
   have gi:p.getD i 0=p.toList[i]:=by simp[Array.getD,show i<p.size by simpa using hi]
   have gj:p.getD j 0=p.toList[j]:=by simp[Array.getD,show j<p.size by simpa using hj]
   rw[gi,gj] at this
   exact this
  .obtain⟨u,OY⟩:=r
   obtain⟨e,q,q1,q2,q3,q4⟩:=hr
   dsimp only at e q1 q2 ⊢
   subst e
   exact fin OY q q1 q2 q3 q4
end
section
theorem Vi:∀{us ws:List Value} {ns ms:List Int} (i:Nat) (s:Shared),IntsAre us ns->IntsAre ws ms->fin=decide (ns.length<ms.length)->Q (HT.lexLt ns ms) s->W.KatLex prog w A b fin Q (us.zip ws) i s
 | _,_,_,_,i,s,.nil,.nil,hf,h=>by rw[List.zip_nil_left];refine W.kat_nil ?_;rw[hf];exact h
 | _,_,_,_,i,s,.nil,.cons (ns:=ms) m t r,hf,h=>by rw[List.zip_nil_left];refine W.kat_nil ?_;rw[hf];(have:decide (([]:List Int).length<(m::ms).length)=true:=by simp);rw[this];exact h
 | _,_,_,_,i,s,.cons (ns:=ns) n t r,.nil,hf,h=>by rw[List.zip_nil_right];refine W.kat_nil ?_;rw[hf];(have:decide ((n::ns).length<([]:List Int).length)=false:=by simp);rw[this];exact h
 | _,_,_,_,i,s,.cons (ns:=ns) n t r,.cons (ns:=ms) m u q,hf,h=>by rw[List.zip_cons_cons];refine W.kat_cons (wpAny_eqBool_int (W.kat_go (λe=>W.kat_yes ?_) λe=>W.kat_no ?_));(·(have e:n=m:=by simpa using e);rw[HT.FG,AE e] at h;exact Vi (i+1) s r q (by rw[hf];simp) h);·(have e:n≠m:=by simpa using e);rw[HT.FG,AB e] at h;cases hb:(b&&i==0) with | true=>exact oneLt_int h | false=>exact W.kat_one _ _ (lt_int h)
def JP(h:Heap):List Addr->List (List Int)->Prop:=Paired λa ns=>ns≠[]/\∃its,IsTup h a its/\IntsAre its.toList ns
theorem Lq:∀{as:List Addr} {OV:List (List Int)},JP h as OV->∃fs:List Value,W.KatTups h (as.map Value.ref) fs/\fs.length=as.length/\∀v∈fs,∃n t,v=Value.int n t
 | _,_,.nil=>⟨[],trivial,rfl,λv hv=>by simp at hv⟩
 | _,_,.cons (a:=a) (b:=ns) r t=>by obtain⟨fs,a1,a2,a3⟩:=Lq t;obtain⟨XU,its,⟨o,ho,hc,n,hd⟩,hi⟩:=r;cases hL:its.toList with | nil=>rw[hL] at hi;cases hi;exact absurd rfl XU | cons f fr =>rw[hL] at hi;cases hi with | cons n0 t0 hr =>refine⟨Value.int n0 t0::fs,W.KatTups.cons ho hc hd ?_ a1,by simp[a2],λv hv=>?_⟩;(·(have:its[0]?=its.toList[0]?:=by simp);rw[this,hL];rfl);.rcases ZM hv with rfl|hv;(.exact⟨_,_,rfl⟩);.exact a3 v hv
theorem JP.keep(k:∀b o,h.get? b=some o->(∃ts n,o.data=.seq ts n/\o.cls=.type "tuple")->h'.get? b=some o)(t:JP h as OV):JP h' as OV :=As (λa ns ⟨h1,its,⟨o,ho,hc,n,hd⟩,hi⟩=>⟨h1,its,⟨o,k a o ho ⟨_,_,hd,hc⟩,hc,n,hd⟩,hi⟩) t
theorem Zp(x9:∃b,κ=tuples' b)(t:JP s.heap as OV) : FhS.KU (W.kas_ask prog w A κ (as.map Value.ref)) (λi j=>HT.lexLt (OV.getD i []) (OV.getD j [])) (as.map Value.ref).length s:=by
 obtain⟨b,rfl⟩:=x9;intro i j hi hj C hC;rw[ZA] at hi hj;have get:∀k,k<as.length->∃a ns its,(as.map Value.ref).getD k .none=.ref a/\OV.getD k []=ns/\IsTup s.heap a its/\IntsAre its.toList ns:=λk hk=>by have hl:=Paired.length t;(have h1:as[k]?=some as[k]:=by simp[hk]);(have h2:OV[k]?=some (OV[k]'(by lia)):=by simp[show k<OV.length by lia]);obtain⟨_,its,q1,q2⟩:=Ax t k _ _ h1 h2;exact⟨as[k],_,its,by simp[hk],by simp[show k<OV.length by lia],q1,q2⟩
 obtain⟨a,ns,its,e1,e2,⟨o,ho,hc,n,hd⟩,r4⟩:=get i hi;obtain⟨a',av,its',aM,dE,⟨o',XT,lu,n',QR⟩,gX⟩:=get j hj;unfold W.kas_ask;rw[e1,aM];refine W.kat_lt ho hd XT QR (Vi 0 s r4 gX ?_ (by dsimp only at hC;rw[e2,dE] at hC;exact hC));have l1:=r4.length;have l2:=gX.length;simp only[CF] at l1 l2;rw[l1,l2]
theorem Xc(ho:s.heap.get? a=some (seqObj "list" (as.map Value.ref).toArray n))(UA:as.length<64)(t:JP s.heap as OV)(nd:OV.Nodup)(h:∀q:List Nat,q.Perm (List.range as.length)->q.Pairwise (λi j=>HT.lexLt (OV.getD i []) (OV.getD j [])=true)->∀h' c,(∀b o,b≠a->s.heap.get? b=some o->h'.get? b=some o)->h'.get? a=some (seqObj "list" (q.map λi=>(as.map Value.ref).getD i .none).toArray c)->P (.done (.ret .none)) { s with heap:=h' }) : wpAny (model prog w) A (Builtin.«list.sort» ⟨[.ref a],[]⟩) P E s:=by
 have hl:=Paired.length t;have a_:(as.map Value.ref).length=as.length:=ZA ..;refine P2 (lt:=λi j=>HT.lexLt (OV.getD i []) (OV.getD j [])) ho (by rw[a_];exact UA) ⟨λi j k _ _ _=>Sw,λi j hi hj SX e=>Sx (λz=>SX ?_) e⟩ (λh2 h' kp Q hQ=>?_) (by rw[a_];exact h);·(have SY:i<OV.length:=by lia);(have W_:j<OV.length:=by lia);(have e1:OV[i]=OV[j]:=by simpa [SY,W_] using z);exact(JE nd).mp e1
 .have t':JP h' as OV:=t.keep λb o e ⟨ts,k,q,qc⟩=>kp b o (λz=>by rw[z,ho] at e;cases e;have qc:Value.type "list"=Value.type "tuple":=qc;injection qc with qc;exact absurd qc (by decide)) e;obtain⟨fs,f1,f2,f3⟩:=Lq t';refine W.kat_kind (s:={ s with heap:=h' }) (T:=.type "int") f1 (by rw[f2];rw[a_] at h2;lia) (λv hv=>?_) rfl (hQ _ (Zp ⟨_,rfl⟩ t'));obtain⟨m,tk,rfl⟩:=f3 v hv;exact W.Looks.of_pure rfl
end
theorem Nh(g:α->V)(f:α->Addr)(h:∀x,g x=V.ref (f x)):∀as:List α,Vals (as.map g) ((as.map f).map Value.ref)
 | []=>.nil
 | a::as=>.cons (by rw[h a];exact rfl) (Nh g f h as)
section
variable {X:Cx}
theorem Lj(hc:X.calm=true):Fm X (.builtin "sorted") (λxs H Q=>∃d,∃L:List (List Int×V),xs=[.ref d]/\Rd H d (.dT (L.map λp=>(p.1.map Sum.inl,p.2)))/\L.length<64/\(L.map (·.1)).Nodup/\(∀p∈L,p.1≠[]) /\ ∀(l:Addr)(M:List (List Int×Addr)),H l=none->(M.map (·.1)).Perm (L.map (·.1))->M.Pairwise (λp q=>HT.lexLt p.1 q.1=true)->(∀p∈M,H p.2=some (.BC (p.1.map V.int)))->Q (.ref l) (upd H l (.BI (M.map λp=>V.ref p.2)))):=by
 intro AA s σ H xs us Q I r h;obtain⟨d,L,rfl,hd,UA,nd,XU,q⟩:=h;obtain⟨u,rfl,rx⟩:=vals1 r;cases rx;obtain⟨z,lo,es,ep,as,raw,hz,ks,at_⟩:=Ts I hd;have yX:(L.map λp=>((p.1.map Sum.inl:List Key),p.2)).length=L.length:=ZA ..;have eX:as.length=L.length:=by rw[<-yX];exact(Paired.length ks).symm
 have key:∀(j:Nat)(p:List Int×V),L[j]?=some p->∃a,as[j]?=some a/\H a=some (.BC (p.1.map V.int)):=λj p hp=>by have hj:j<L.length:=(ZJ hp).1;obtain⟨a,ha⟩:=Au (xs:=as) (j:=j) (by lia);have:=Ax ks j ((p.1.map Sum.inl:List Key),p.2) a (by rw[ZH,hp];rfl) ha;refine⟨a,ha,?_⟩;rw[this,AR];rfl
 have t0:JP s.heap as (L.map (·.1)):=Ei (by rw[ZA,eX]) λj a ns e1 e2=>by rw[ZH] at e2;cases hp:L[j]? with | none=>rw[hp] at e2;cases e2 | some p =>rw[hp] at e2;have e3:p.1=ns:=ZO e2;obtain⟨a',h1,h2⟩:=key j p hp;rw[e1] at h1;cases h1;obtain⟨its,rv,it,_⟩:=I.tuple (CL.of (K:=X.K) h2);exact⟨by rw[<-e3];exact XU p (ZP hp),its.toArray,it,by rw[<-e3];simpa using intsAre_of rv⟩
 refine NU kind_sorted plain_sorted entry_sorted (args_sorted1 _) (by unfold Builtin.«sorted»;refine ZR (m:=checkCount "sorted" 1 1 _) (ZS (ZR (W.kdu_collect (R5 lo (es:=es) (ep:=ep)) (show _ from I.ok.hd hc) raw (by rw[hz];exact z) λh1 tk acc kp ha=>?_)));have e1:acc.toList=as.map Value.ref:=V3 ha (by lia) at_;rw[e1];have I1:Inv X AA σ H { s with heap:=h1,toks:=tk }:=I.kept kp;refine ZR (wpAny_newList ?_ (by rw[ZA,DL];lia));have g1:(h1.push (seqObj "list" (as.map Value.ref).toArray 0)).get? h1.objs.size=some (seqObj "list" (as.map Value.ref).toArray 0):=ZU _ rfl;have t1:JP (h1.push (seqObj "list" (as.map Value.ref).toArray 0)) as (L.map (·.1)):=t0.keep λb o e _=>ZT _ (kp b o e);refine ZR (EI (CY slot_list_sort ⟨_,g1,rfl⟩ entry_list_sort (Xc g1 (by lia) t1 nd λp pp po h2 c kh e=>⟨_,rfl,?_⟩) (args_list_sort _)));have hn:H h1.objs.size=none:=I1.CT.fresh (ZG _);have inr:∀i∈p,i<as.length:=λi hi=>BQ.mp (pp.mem_iff.mp hi);(have eM:(p.map λi=>(as.map Value.ref).getD i .none)=(p.map λi=>as.getD i 0).map Value.ref:=by rw[AR];refine BY λi hi=>?_;have:=inr i hi;simp[this]);refine ZS ⟨_,rfl,.ref h1.objs.size,_,I1.laid (a:=h1.objs.size) (o:=.BI ((p.map λi=>((L.map (·.1)).getD i [],as.getD i 0)).map λq=>V.ref q.2)) (t':=tk) (λb o hb=>kh b o (BK (AU hb)) (ZT _ hb)) (ZG _) ⟨?_,(p.map λi=>as.getD i 0).map Value.ref,c,?_,?_⟩,rfl,q _ _ hn ?_ ?_ ?_⟩;(.rw[ZA,ZA,pp.length_eq,BV,DL];lia);(.rw[AR];exact Nh _ (λi=>as.getD i 0) (λ_=>rfl) p);(.rw[<-eM];exact e);(.rw[AR];(have e2:(List.range as.length).map (λi=>(L.map (·.1)).getD i [])=L.map (·.1):=by refine LV λj=>?_;rw[ZH];by_cases hj:j<L.length;(·(have h3:(List.range as.length)[j]?=some j:=by simp[eX,hj]);rw[h3];simp[hj]);·(have h3:(List.range as.length)[j]?=none:=by simp[eX];lia);rw[h3,CC (by rw[ZA];lia)];rfl);have e7:=pp.map λi=>(L.map (·.1)).getD i [];rw[e2] at e7;exact e7);(.rw[EG];exact po);.intro r hr;obtain⟨i,hi,e3⟩:=ZN hr;have JL:=inr i hi;obtain⟨p0,rY⟩:=Au (xs:=L) (j:=i) (by lia);obtain⟨a,h3,h4⟩:=key i p0 rY;rw[<-e3];(have e5:as.getD i 0=a:=by rw[HD,h3];rfl);(have e6:(L.map (·.1)).getD i []=p0.1:=by rw[HD,ZH,rY];rfl);show H (as.getD i 0)=some (.BC (((L.map (·.1)).getD i []).map V.int));rw[e5,e6];exact h4)
end
section
def Jka(K:W.Frag):List V->Hp->VK->Prop:=λxs H Q=>∃x n t b,xs=[x,.ty n]/\LG K H x t/\W.kitOne K t (.type n)=some b/\Q (.bl b) H
theorem V2:Fm X (.builtin "isinstance") (Jka X.K):=by
 intro AA s σ H xs us Q I r h;obtain⟨x,n,t,b,rfl,ty,e,q⟩:=h;obtain⟨u1,u2,rfl,r1,r2⟩:∃u1 u2,us=[u1,u2]/\RelV x u1/\RelV (.ty n) u2:=by cases r with | cons r1 t1=>cases t1 with | cons r2 t2=>cases t2;exact⟨_,_,rfl,r1,r2⟩
 cases (show u2=Value.type n from r2);exact Jad I r1 ty e λtk=>⟨.bl b,H,I.tok tk,rfl,q⟩
theorem Jcs{K:W.Frag}{n:String}:W.kitOne K (.type n) (.type n)=some true:=by unfold W.kitOne;rw[AE (by simp)]
theorem Tc{K:W.Frag}:W.kitOne K (.type "int") (.type "bool")=some false:=by unfold W.kitOne;rw[AB (by decide)];show(if W.kitMeta "bool"=true then(fastBuiltinMro "int").map (·.contains (.type "bool")) else none)=some false;rw[AE ZV];decide +kernel
end
abbrev T2:=Int×Int
def tk(t:T2):List Key:=[.inl t.1,.inl t.2]
def tv(t:T2):List V:=[.int t.1,.int t.2]
theorem nq(t:T2):(tk t).map kV=tv t:=rfl
theorem V7(h:tk a=tk b):a=b:=by obtain⟨a1,a2⟩:=a;obtain⟨b1,b2⟩:=b;unfold tk at h;simp only[List.cons.injEq,Sum.inl.injEq,and_true] at h;rw[h.1,h.2]
structure BS where
 BP:Int
 AY:Int
 AZ:Int
 h:Addr
 o:Addr
 l:Addr
 r:Addr
 hand:List T2
 AF:List (T2×Int)
 holds:List (T2×Addr×List T2)
 AM:List (T2×Int)
theorem F7{k:Str}{v:V}{r:List (Str×V)}:List.lookup k ((k,v)::r)=some v:=by rw[NA];have:(k==k)=true:=beq_self_eq_true k;rw[this]
theorem Bn{k j:Str}{v:V}{r:List (Str×V)}(h:¬k=j):List.lookup k ((j,v)::r)=List.lookup k r:=by rw[NA];have:(k==j)=false:=DD.mpr h;rw[this]
theorem D4:Aq f v []=[(f,v)]:=rfl
theorem uy:Aq f v ((f,x)::r)=(f,v)::r:=by grind [Aq,V]
theorem Bv(h:¬k=f):Aq f v ((k,x)::r)=(k,x)::Aq f v r:=by grind [Aq,V]
theorem Fp:¬(("number":Str)="made"):=ZV
theorem G8:¬(("number":Str)="ticks"):=ZV
theorem Pb:¬(("number":Str)="hand"):=ZV
theorem Pa:¬(("number":Str)="outs"):=ZV
theorem Nx:¬(("number":Str)="holds"):=ZV
theorem K3:¬(("number":Str)="records"):=ZV
theorem Pc:¬(("made":Str)="number"):=ZV
theorem J8:¬(("made":Str)="ticks"):=ZV
theorem U9:¬(("made":Str)="hand"):=ZV
theorem U8:¬(("made":Str)="outs"):=ZV
theorem Sm:¬(("made":Str)="holds"):=ZV
theorem Ny:¬(("made":Str)="records"):=ZV
theorem Nr:¬(("ticks":Str)="number"):=ZV
theorem Sh:¬(("ticks":Str)="made"):=ZV
theorem Si:¬(("ticks":Str)="hand"):=ZV
theorem Sg:¬(("ticks":Str)="outs"):=ZV
theorem O8:¬(("ticks":Str)="holds"):=ZV
theorem L5:¬(("ticks":Str)="records"):=ZV
theorem Pe:¬(("hand":Str)="number"):=ZV
theorem Vb:¬(("hand":Str)="made"):=ZV
theorem Sr:¬(("hand":Str)="ticks"):=ZV
theorem Va:¬(("hand":Str)="outs"):=ZV
theorem Ss:¬(("hand":Str)="holds"):=ZV
theorem N0:¬(("hand":Str)="records"):=ZV
theorem O9:¬(("outs":Str)="number"):=ZV
theorem U6:¬(("outs":Str)="made"):=ZV
theorem Sk:¬(("outs":Str)="ticks"):=ZV
theorem U7:¬(("outs":Str)="hand"):=ZV
theorem Sl:¬(("outs":Str)="holds"):=ZV
theorem Nw:¬(("outs":Str)="records"):=ZV
theorem Nz:¬(("holds":Str)="number"):=ZV
theorem So:¬(("holds":Str)="made"):=ZV
theorem Pd:¬(("holds":Str)="ticks"):=ZV
theorem Sq:¬(("holds":Str)="hand"):=ZV
theorem Sn:¬(("holds":Str)="outs"):=ZV
theorem L8:¬(("holds":Str)="records"):=ZV
theorem K2:¬(("records":Str)="number"):=ZV
theorem Nu:¬(("records":Str)="made"):=ZV
theorem L6:¬(("records":Str)="ticks"):=ZV
theorem Nv:¬(("records":Str)="hand"):=ZV
theorem Nt:¬(("records":Str)="outs"):=ZV
theorem L7:¬(("records":Str)="holds"):=ZV
def Bx(G:BS):List (Str×V):=[("number",.int G.BP),("made",.int G.AY),("ticks",.int G.AZ),("hand",.ref G.h),("outs",.ref G.o),("holds",.ref G.l),("records",.ref G.r)]
theorem Qb(G:BS):(Bx G).lookup ("number":Str)=some (.int G.BP):=by unfold Bx;rw[F7]
theorem Y3(G:BS):(Bx G).lookup ("made":Str)=some (.int G.AY):=by unfold Bx;rw[Bn Pc,F7]
theorem B7(G:BS):(Bx G).lookup ("ticks":Str)=some (.int G.AZ):=by unfold Bx;rw[Bn Nr,Bn Sh,F7]
theorem E4(G:BS):(Bx G).lookup ("hand":Str)=some (.ref G.h):=by unfold Bx;rw[Bn Pe,Bn Vb,Bn Sr,F7]
theorem C0(G:BS):(Bx G).lookup ("outs":Str)=some (.ref G.o):=by unfold Bx;rw[Bn O9,Bn U6,Bn Sk,Bn U7,F7]
theorem Dw(G:BS):(Bx G).lookup ("holds":Str)=some (.ref G.l):=by unfold Bx;rw[Bn Nz,Bn So,Bn Pd,Bn Sq,Bn Sn,F7]
theorem Cw(G:BS):(Bx G).lookup ("records":Str)=some (.ref G.r):=by unfold Bx;rw[Bn K2,Bn Nu,Bn L6,Bn Nv,Bn Nt,Bn L7,F7]
theorem Vl(G:BS)(y:Int):Aq "made" (.int y) (Bx G)=Bx { G with AY:=y }:=by unfold Bx;rw[Bv Fp,uy]
theorem Bc(G:BS)(y:Int):Aq "ticks" (.int y) (Bx G)=Bx { G with AZ:=y }:=by unfold Bx;rw[Bv G8,Bv J8,uy]
theorem Jg8(G:BS):Aq "records" (.ref G.r) (Aq "holds" (.ref G.l) (Aq "outs" (.ref G.o) (Aq "hand" (.ref G.h) (Aq "ticks" (.int G.AZ) (Aq "made" (.int G.AY) (Aq "number" (.int G.BP) []))))))=Bx G:=by unfold Bx;rw[D4];rw[Bv Fp,D4];rw[Bv G8,Bv J8,D4];rw[Bv Pb,Bv U9,Bv Si,D4];rw[Bv Pa,Bv U8,Bv Sg,Bv Va,D4];rw[Bv Nx,Bv Sm,Bv O8,Bv Ss,Bv Sl,D4];rw[Bv K3,Bv Ny,Bv L5,Bv N0,Bv Nw,Bv L8,D4]
theorem By(G:BS){m:Str}(h:(["number","made","ticks","hand","outs","holds","records"]:List Str).contains m=false):(Bx G).lookup m=none:=by simp only[KZ,Bool.or_eq_false_iff,DD] at h;obtain⟨h1,h2,h3,h4,h5,h6,h7,_⟩:=h;unfold Bx;rw[Bn h1,Bn h2,Bn h3,Bn h4,Bn h5,Bn h6,Bn h7];rfl
theorem Di(G:BS):(Bx G).length<1000:=by show 7<1000;decide
def A9(l:List T2):HO:=.dT (l.map λt=>(tk t,V.bl true))
def Cf(l:List (T2×Int)):HO:=.dT (l.map λq=>(tk q.1,V.int q.2))
def Ec(l:List (T2×Addr×List T2)):HO:=.dT (l.map λq=>(tk q.1,V.ref q.2.1))
theorem Dk(l:List α)(k:α->T2)(f:α->V)(t:T2):B9 (l.map λq=>(tk (k q),f q)) (tk t)=(l.find? λq=>decide (k q=t)).map f:=by
 unfold B9;rw[List.find?_map,Option.map_map];congr 1;congr 1;funext q;show decide (tk (k q)=tk t)=decide (k q=t);by_cases e:k q=t;.rw[e];simp
 .rw[AG e,AG λz=>e (V7 z)]
theorem Qv{α:Type}{l:List α}{k:α->T2}{f:α->V}{t:T2}(h:∀q∈l,k q≠t):B9 (l.map λq=>(tk (k q),f q)) (tk t)=none:=by rw[Dk,BA.mpr λq hq=>by simpa using h q hq];rfl
theorem Hm{α:Type}{l:List α}{k:α->T2}{f:α->V}{t:T2}(v:V)(h:∀q∈l,k q≠t):putK (l.map λq=>(tk (k q),f q)) (tk t) v=(l.map λq=>(tk (k q),f q))++[(tk t,v)]:=Fz v (Qv h)
def BG(G:BS):List Addr:=G.h::G.o::G.l::G.r::G.holds.map (·.2.1)
structure AQ(C:Addr)(H:Hp)(p:Addr)(G:BS):Prop where
 ob:∃dx,H p=some (.ins C dx (Bx G))
 dh:H G.h=some (A9 G.hand)
 dO:H G.o=some (Cf G.AF)
 dl:H G.l=some (Ec G.holds)
 dr:H G.r=some (Cf G.AM)
 hl:∀q∈G.holds,H q.2.1=some (A9 q.2.2)
 nd:(BG G).Nodup
def Q_(p:Addr)(G:BS)(H H':Hp):Prop:=∀b o,H b=some o->b≠p->b∉BG G->H' b=some o
section
variable {C p:Addr}{H H':Hp}{G:BS}
theorem AQ.keep(x:AQ C H p G)(k:∀b o,(b=p\/b∈BG G)->H b=some o->H' b=some o):AQ C H' p G:=by
 have m0:G.h∈BG G:=by simp[BG]
 have m1:G.o∈BG G:=by simp[BG]
 have m2:G.l∈BG G:=by simp[BG]
 have m3:G.r∈BG G:=by simp[BG]
 refine⟨let⟨dx,e⟩:=x.ob;⟨dx,k _ _ (.inl rfl) e⟩,k _ _ (.inr m0) x.dh,k _ _ (.inr m1) x.dO,k _ _ (.inr m2) x.dl,k _ _ (.inr m3) x.dr,λq hq=>k _ _ (.inr ?_) (x.hl q hq),x.nd⟩;unfold BG;exact ZD _ (ZD _ (ZD _ (ZD _ (BD hq))))
theorem AQ.same(x:AQ C H p G)(s:Bi H H'):AQ C H' p G:=x.keep λb o _ e=>s b o e
theorem AQ.KO(x:AQ C H p G)(hb:b∈BG G):∃kvs,H b=some (.dT kvs):=by
 unfold BG at hb;rcases ZM hb with rfl|hb;.exact⟨_,x.dh⟩
 rcases ZM hb with rfl|hb;.exact⟨_,x.dO⟩
 rcases ZM hb with rfl|hb;.exact⟨_,x.dl⟩
 rcases ZM hb with rfl|hb;.exact⟨_,x.dr⟩
 obtain⟨q,hq,e⟩:=ZN hb;rw[<-e];exact⟨_,x.hl q hq⟩
theorem AQ.OK(x:AQ C H p G)(hb:b∈BG G):b≠p:=by obtain⟨kvs,e⟩:=x.KO hb;obtain⟨dx,e'⟩:=x.ob;exact Np e e' (by intro z;cases z)
theorem AQ.tup_ne(x:AQ C H p G)(hb:H b=some (.BC xs)):b≠p/\b∉BG G:=by obtain⟨dx,e'⟩:=x.ob;refine⟨Np hb e' (by intro z;cases z),λm=>?_⟩;obtain⟨kvs,e⟩:=x.KO m;rw[hb] at e;cases e
theorem AQ.QF(x:AQ C H p G)(hb:H b=some (.BI xs)):b≠p/\b∉BG G:=by obtain⟨dx,e'⟩:=x.ob;refine⟨Np hb e' (by intro z;cases z),λm=>?_⟩;obtain⟨kvs,e⟩:=x.KO m;rw[hb] at e;cases e
theorem AQ.TY(x:AQ C H p G):(G.h≠G.o/\G.h≠G.l/\G.h≠G.r)/\(G.o≠G.l/\G.o≠G.r)/\G.l≠G.r/\∀q∈G.holds,q.2.1≠G.h/\q.2.1≠G.o/\q.2.1≠G.l/\q.2.1≠G.r:=by have nd:=x.nd;unfold BG at nd;simp only[AV,BZ,not_or] at nd;obtain⟨⟨a1,a2,a3,a4⟩,⟨b1,b2,b3⟩,⟨c1,c2⟩,d1,_⟩:=nd;refine⟨⟨a1,a2,a3⟩,⟨b1,b2⟩,c1,λq hq=>?_⟩;have m:q.2.1∈G.holds.map (·.2.1):=BD hq;exact⟨λz=>a4 (z▸m),λz=>b3 (z▸m),λz=>c2 (z▸m),λz=>d1 (z▸m)⟩
theorem AQ.fld(x:AQ C H p G)(dx:Addr)(m t:Int):AQ C (upd H p (.ins C dx (Bx { G with AY:=m,AZ:=t }))) p { G with AY:=m,AZ:=t }:=by
 have n:∀{b},b∈BG G->b≠p:=λhb=>x.OK hb;have m0:G.h∈BG G:=by simp[BG]
 have m1:G.o∈BG G:=by simp[BG]
 have m2:G.l∈BG G:=by simp[BG]
 have m3:G.r∈BG G:=by simp[BG]
 refine⟨⟨dx,Ac⟩,by rw[Ab (n m0)];exact x.dh,by rw[Ab (n m1)];exact x.dO,by rw[Ab (n m2)];exact x.dl,by rw[Ab (n m3)];exact x.dr,λq hq=>?_,x.nd⟩;rw[Ab (n (by unfold BG;exact ZD _ (ZD _ (ZD _ (ZD _ (BD hq))))))];exact x.hl q hq
theorem AQ.IT(x:AQ C H p G)(l:List (T2×Int)):AQ C (upd H G.o (Cf l)) p { G with AF:=l }:=by obtain⟨⟨a1,a2,a3⟩,⟨b1,b2⟩,c1,d1⟩:=x.TY;have np:=x.OK (b:=G.o) (by simp[BG]);obtain⟨dx,e⟩:=x.ob;exact⟨⟨dx,by rw[Ab np.symm];exact e⟩,by rw[Ab a1];exact x.dh,Ac,by rw[Ab b1.symm];exact x.dl,by rw[Ab b2.symm];exact x.dr,λq hq=>by rw[Ab (d1 q hq).2.1];exact x.hl q hq,x.nd⟩
theorem AQ.MA(x:AQ C H p G)(l:List T2):AQ C (upd H G.h (A9 l)) p { G with hand:=l }:=by obtain⟨⟨a1,a2,a3⟩,⟨b1,b2⟩,c1,d1⟩:=x.TY;have np:=x.OK (b:=G.h) (by simp[BG]);obtain⟨dx,e⟩:=x.ob;exact⟨⟨dx,by rw[Ab np.symm];exact e⟩,Ac,by rw[Ab a1.symm];exact x.dO,by rw[Ab a2.symm];exact x.dl,by rw[Ab a3.symm];exact x.dr,λq hq=>by rw[Ab (d1 q hq).1];exact x.hl q hq,x.nd⟩
theorem AQ.QI(x:AQ C H p G)(l:List (T2×Int)):AQ C (upd H G.r (Cf l)) p { G with AM:=l }:=by obtain⟨⟨a1,a2,a3⟩,⟨b1,b2⟩,c1,d1⟩:=x.TY;have np:=x.OK (b:=G.r) (by simp[BG]);obtain⟨dx,e⟩:=x.ob;exact⟨⟨dx,by rw[Ab np.symm];exact e⟩,by rw[Ab a3];exact x.dh,by rw[Ab b2];exact x.dO,by rw[Ab c1];exact x.dl,Ac,λq hq=>by rw[Ab (d1 q hq).2.2.2];exact x.hl q hq,x.nd⟩
theorem AQ.Y_(x:AQ C H p G)(t:T2)(ha:H a=some (A9 []))(hf:a∉BG G):AQ C (upd H G.l (Ec (G.holds++[(t,a,[])]))) p { G with holds:=G.holds++[(t,a,[])] }:=by
 obtain⟨⟨a1,a2,a3⟩,⟨b1,b2⟩,c1,d1⟩:=x.TY;have np:=x.OK (b:=G.l) (by simp[BG]);obtain⟨dx,e⟩:=x.ob;refine⟨⟨dx,by rw[Ab np.symm];exact e⟩,by rw[Ab a2];exact x.dh,by rw[Ab b1];exact x.dO,Ac,by rw[Ab c1.symm];exact x.dr,λq hq=>?_,?_⟩;.rcases ZI hq with hq|hq;(.rw[Ab (d1 q hq).2.2.1];exact x.hl q hq);·(have e2:q=(t,a,[]):=by simpa using hq);subst e2;have:a≠G.l:=λz=>hf (by rw[z];simp[BG]);rw[Ab this];exact ha
 ·(have e2:BG { G with holds:=G.holds++[(t,a,[])] }=BG G++[a]:=by simp[BG]);rw[e2];exact Fi x.nd hf
end
def OX(t:T2):PyData:=.tuple [.int t.1,.int t.2]
theorem Ig(t:T2):(OX t).canLay0=true/\(OX t).depth<=2:=by
 unfold OX;constructor;.simp[PyData.canLay0,PyData.canLayAll0]
 .simp[PyData.depth,PyData.depthAll]
theorem Qx(t:T2):aP (OX t):=⟨(Ig t).1,BE (Ig t).2 (by decide)⟩
def BB(H:Hp):List Addr->List T2->Prop:=Paired λa t=>H a=some (.BC (tv t))
theorem Mx{K:W.Frag}{H:Hp}{a:Addr}{t:T2}(e:H a=some (.BC (tv t))):IW K H (.ref a) (OX t):=.tupP (CL.of e) (.cons (.int _) (.cons (.int _) .nil))
theorem Mb{K:W.Frag}{H:Hp}:∀{as:List Addr} {ts:List T2},BB H as ts->Paired (IW K H) (as.map V.ref) (ts.map OX)
 | _,_,.nil=>.nil
 | _,_,.cons e t=>.cons (Mx e) (Mb t)
def IS(a b:T2):Prop:=HT.lexLt [a.1,a.2] [b.1,b.2]=true
theorem E3(a b:T2):IS a b↔(a.1<b.1\/(a.1=b.1/\a.2<b.2)):=by
 unfold IS;rw[HT.FG,HT.FG];by_cases h1:a.1=b.1;.rw[AE h1];by_cases h2:a.2=b.2;(.rw[AE h2,HT.LC];constructor;(.intro z;cases z);.intro z;lia);.rw[AB h2];constructor;(.intro z;exact .inr ⟨h1,BL z⟩);.intro z;exact AJ (by lia)
 .rw[AB h1];constructor;(.intro z;exact .inl (BL z));.intro z;exact AJ (by lia)
section
theorem Cm(hc:X.calm=true):Fm X (.builtin "sorted") (λxs H Q=>∃d,∃l:List (T2×V),∃ss:List T2,xs=[.ref d]/\Rd H d (.dT (l.map λq=>(tk q.1,q.2)))/\l.length<64/\ss.Perm (l.map (·.1))/\ss.Pairwise IS /\ ∀(r:Addr)(as:List Addr),H r=none->BB H as ss->Q (.ref r) (upd H r (.BI (as.map V.ref)))):=by
 intro AA s σ H xs us Q I rv h;obtain⟨d,l,ss,rfl,hd,UA,pm,pw,q⟩:=h;refine Lj hc AA s σ H _ us Q I rv ⟨d,l.map λq=>([q.1.1,q.1.2],q.2),rfl,?_,by rw[ZA];exact UA,?_,?_,λr M hr mp mw ma=>?_⟩;·(have e:((l.map λq=>(([q.1.1,q.1.2]:List Int),q.2)).map λp=>((p.1.map Sum.inl:List Key),p.2))=l.map λq=>(tk q.1,q.2):=by rw[AR];rfl);rw[e];exact hd
 ·(have nd:ss.Nodup:=pw.imp λ{a b} h z=>by rw[E3,z] at h;lia);have cY:(l.map (·.1)).Nodup:=pm.nodup_iff.mp nd;(have e:(l.map λq=>(([q.1.1,q.1.2]:List Int),q.2)).map (·.1)=(l.map (·.1)).map λt=>[t.1,t.2]:=by rw[AR,AR];rfl);rw[e];exact List.Pairwise.map _ (λa b h z=>h (by obtain⟨a1,a2⟩:=a;obtain⟨b1,b2⟩:=b;simp at z;rw[z.1,z.2])) cY
 .intro p hp;obtain⟨q,_,e⟩:=ZN hp;rw[<-e];simp
 ·(have e:(l.map λq=>(([q.1.1,q.1.2]:List Int),q.2)).map (·.1)=(l.map (·.1)).map λt=>[t.1,t.2]:=by rw[AR,AR];rfl);rw[e] at mp;(have e2:M.map (·.1)=ss.map λt=>[t.1,t.2]:=by refine Ij (lt:=λa b=>HT.lexLt a b=true) (λa z=>by rw[Mn] at z;cases z) (λa b h1 h2=>by have:=Sw h1 h2;rw[Mn] at this;cases this) (mp.trans (pm.symm.map _)) ?_ ?_;(.rw[EG];exact mw);.rw[EG];exact pw);(have hl:M.length=ss.length:=by have:=congrArg List.length e2;simpa using this);(have e3:(M.map λp=>V.ref p.2)=(M.map (·.2)).map V.ref:=by rw[AR];rfl);rw[e3];refine q r _ hr (Ei (by rw[ZA];exact hl) λj a t e4 e5=>?_);rw[ZH] at e4;cases hm:M[j]? with | none=>rw[hm] at e4;cases e4 | some m =>rw[hm] at e4;cases e4;(have e6:(M.map (·.1))[j]?=some m.1:=by rw[ZH,hm];rfl);rw[e2,ZH,e5] at e6;have e7:[t.1,t.2]=m.1:=ZO e6;have:=ma m (ZP hm);rw[<-e7] at this;exact this
end
theorem Y4(h:H d=some (A9 l)):Rd H d (.dT ((l.map λt=>(t,V.bl true)).map λq=>(tk q.1,q.2))):=by
 have e:((l.map λt=>(t,V.bl true)).map λq=>(tk q.1,q.2))=l.map λt=>(tk t,V.bl true):=by rw[AR];rfl
 rw[e];exact .inl h
theorem vG(h:H d=some (Cf l)):Rd H d (.dT ((l.map λq=>(q.1,V.int q.2)).map λq=>(tk q.1,q.2))):=by
 have e:((l.map λq=>(q.1,V.int q.2)).map λq=>(tk q.1,q.2))=l.map λq=>(tk q.1,V.int q.2):=by rw[AR];rfl
 rw[e];exact .inl h
theorem Gb{K:W.Frag}{a p:Addr}{xs:List V}{tt:TT}{te:TE}{caps:List (Str×Nat)}{σ:L2.St}{H:Hp}{Q:Hp->Prop}(Pv:Nat->List V->Hp->Prop)(h0:Pv 0 [] (upd H p (.BI [])))(hl:∀i ys H2,i<=xs.length->Pv i ys H2->EC K H2 a xs/\H2 p=some (.BI ys))(hs:∀i x ys H2 (N:List V->Hp->Prop),xs[i]?=some x->Pv i ys H2->(∀ys H,Pv (i+1) ys H->N ys H)->tt (some x::Ds σ caps) H2 λb H4 =>if b=true then te (some x::Ds σ caps) H4 λv H5=>H5 p=some (.BI ys)/\ys.length<sizeLine/\N (ys++[v]) (upd H5 p (.BI (ys++[v]))) else N ys H4)(hd:∀ys H2,Pv xs.length ys H2->Q H2) : ∃W:Nat->Nat->List V->Hp->Prop,(∃m,W 0 m [] (upd H p (.BI [])))/\∀i m ys H2,W i m ys H2->H2 p=some (.BI ys) /\ (((VR K a).stop i H2/\Q H2)\/((VR K a).go i H2/\∀x H3,(VR K a).SU i H2 x H3->tt (some x::Ds σ caps) H3 λb H4 =>if b=true then te (some x::Ds σ caps) H4 λv H5=>H5 p=some (.BI ys)/\ys.length<sizeLine/\∃m',m'<m/\W (i+1) m' (ys++[v]) (upd H5 p (.BI (ys++[v]))) else ∃m',m'<m/\W (i+1) m' ys H4)):=by
 refine⟨λi m ys H=>m=xs.length-i/\i<=xs.length/\Pv i ys H,⟨xs.length,by simp,BF _,h0⟩,?_⟩;rintro i m ys H2 ⟨rfl,hi,pv⟩;obtain⟨q1,q2⟩:=hl i ys H2 hi pv;refine⟨q2,?_⟩;by_cases JL:i<xs.length;.refine .inr ⟨⟨xs,xs[i],q1,by simp[JL]⟩,λx H3 y=>?_⟩;obtain⟨e,y⟩:=y;subst e;exact hs i x ys _ (λzs H'=>∃m',m'<xs.length-i/\(m'=xs.length-(i+1)/\i+1<=xs.length/\Pv (i+1) zs H')) (y xs q1) pv λzs H' pz=>⟨_,by lia,rfl,JL,pz⟩
 ·(have e:i=xs.length:=by lia);subst e;exact .inl ⟨⟨xs,q1,ZG _⟩,hd ys H2 pv⟩
theorem Oz{lo:Int}{n:Nat}{p:Addr}{tt:TT}{te:TE}{caps:List (Str×Nat)}{σ:L2.St}{H:Hp}{Q:Hp->Prop}(Pv:Nat->List V->Hp->Prop)(h0:Pv 0 [] (upd H p (.BI [])))(hl:∀i ys H2,i<=n->Pv i ys H2->H2 p=some (.BI ys))(hs:∀i ys H2 (N:List V->Hp->Prop),i<n->Pv i ys H2->(∀ys H,Pv (i+1) ys H->N ys H)->tt (some (.int (lo+i))::Ds σ caps) H2 λb H4 =>if b=true then te (some (.int (lo+i))::Ds σ caps) H4 λv H5=>H5 p=some (.BI ys)/\ys.length<sizeLine/\N (ys++[v]) (upd H5 p (.BI (ys++[v]))) else N ys H4)(hd:∀ys H2,Pv n ys H2->Q H2) : ∃W:Nat->Nat->List V->Hp->Prop,(∃m,W 0 m [] (upd H p (.BI [])))/\∀i m ys H2,W i m ys H2->H2 p=some (.BI ys) /\ (((YM lo n).stop i H2/\Q H2)\/((YM lo n).go i H2/\∀x H3,(YM lo n).SU i H2 x H3->tt (some x::Ds σ caps) H3 λb H4 =>if b=true then te (some x::Ds σ caps) H4 λv H5=>H5 p=some (.BI ys)/\ys.length<sizeLine/\∃m',m'<m/\W (i+1) m' (ys++[v]) (upd H5 p (.BI (ys++[v]))) else ∃m',m'<m/\W (i+1) m' ys H4)):=by
 refine⟨λi m ys H=>m=n-i/\i<=n/\Pv i ys H,⟨n,by simp,BF _,h0⟩,?_⟩;rintro i m ys H2 ⟨rfl,hi,pv⟩;refine⟨hl i ys H2 hi pv,?_⟩;by_cases JL:i<n;.refine .inr ⟨JL,λx H3 y=>?_⟩;obtain⟨e,y⟩:=y;subst e y;exact hs i ys _ (λzs H'=>∃m',m'<n-i/\(m'=n-(i+1)/\i+1<=n/\Pv (i+1) zs H')) JL pv λzs H' pz=>⟨_,by lia,rfl,JL,pz⟩
 ·(have e:i=n:=by lia);subst e;exact .inl ⟨ZG _,hd ys H2 pv⟩
def Ti(p d:Addr):HO:=.ext λh=>h.IsItemsView p d
theorem L9(d:Addr)(hd:(d==sysModules)=false) : MeetsIn prog w (Builtin.«dict.items» ⟨[.ref d],[]⟩) (λ_ R s=>s.TypeIs (.ref d) "dict"/\R (.ok (.ret (.ref s.heap.objs.size))) { s with heap:=s.heap.push { cls:=.type "dict_items",data:=.fields #[.ref d] } }) :=.of_wp λA R s ⟨ht,h⟩=>by unfold Builtin.«dict.items»;refine ZR ?_;unfold Builtin.Dict.noArgs;refine ZR (HJ ht ?_);show wpAny _ _ (pure d) _ _ s;refine ZS ?_;show wpAny _ _ (Builtin.Dict.showsAll d >>= _) _ _ s;unfold Builtin.Dict.showsAll;rw[AB (by rw[hd];exact AL)];refine ZR (ZS ?_);exact ZR (DX (ZS ⟨_,rfl,h⟩))
section
theorem Jcn:jm X "dict.items" (λx xs H Q=>∃d kvs,x=.ref d/\xs=[]/\H d=some (.dT kvs)/\∀p,H p=none->Q (.ref p) (upd H p (Ti p d))):=by intro AA s σ H x xs v us Q I rx rs h;obtain⟨d,kvs,rfl,rfl,hd,q⟩:=h;cases rx;cases rs;obtain⟨z,lo,ys,rel,o,es,ep,g1,g2,g3,g4,g5⟩:=(show CZ X.prog X.w H s.heap d (.dT kvs) from I.CT d _ hd);refine PySem.call_meetsIn PySem.F.slot_dict_items ⟨o,g1,g2.1⟩ PySem.F.entry_dict_items (PySem.F.args_dict_items_1 _) (L9 d lo) ⟨⟨o,g1,g2.1⟩,?_⟩;have hn:H s.heap.objs.size=none:=I.CT.fresh (ZG _);refine⟨.ref s.heap.objs.size,_,I.laid (a:=s.heap.objs.size) (o:=Ti s.heap.objs.size d) (t':=s.toks) (λb o e=>ZT _ e) (ZG _) ?_,rfl,q _ hn⟩;have g:(s.heap.push { cls:=.type "dict_items",data:=.fields #[.ref d] }).get? s.heap.objs.size=some { cls:=.type "dict_items",data:=.fields #[.ref d] }:=ZU _ rfl;exact⟨⟨_,g,rfl,rfl⟩,⟨_,g⟩,λh1 h2 ⟨o,e,r⟩ k=>⟨o,k o e,r⟩⟩
end
def dJ(h:Heap)(g:Addr->Prop)(e:Addr)(cls:Value):Prop:=g e/\∃oe vs a0,h.get? e=some oe/\oe.cls=cls/\oe.data=.fields vs/\vs[0]?=some a0 /\
 (vs[1]?=some .none\/∃T oT ts,vs[1]?=some (.ref T)/\g T/\T≠e/\h.get? T=some oT/\oT.data=.fields ts/\ts[3]?=some .none)
theorem dJ.mono(x:dJ h g e cls)(k:∀b,g b->g' b):dJ h g' e cls:=by obtain⟨g1,oe,vs,a0,h1,h2,h4,h5,h6⟩:=x;refine⟨k _ g1,oe,vs,a0,h1,h2,h4,h5,h6.imp (λz=>z) ?_⟩;rintro⟨T,oT,ts,t1,t2,t3⟩;exact⟨T,oT,ts,t1,k _ t2,t3⟩
def aO(h:Heap)(g:Addr->Prop)(e:Addr)(cls:Value):Prop:=g e/\∃oe vs a0 T oT ts,h.get? e=some oe/\oe.cls=cls/\oe.data=.fields vs/\vs[0]?=some a0/\vs[1]?=some (.ref T)/\g T/\T≠e/\h.get? T=some oT/\oT.data=.fields ts/\ts[3]?=some .none
theorem aO.at(x:aO h g e cls):dJ h g e cls:=by obtain⟨g1,oe,vs,a0,T,oT,ts,h1,h2,h3,h4,h5⟩:=x;exact⟨g1,oe,vs,a0,h1,h2,h3,h4,.inr ⟨T,oT,ts,h5⟩⟩
def RW(P:Program)(w:World):UG:=λouter H s E e s'=>∃ex cls H',e=.ref ex/\aO s'.heap (λb=>s.heap.get? b=none/\H' b=none) ex cls/\E cls none H'/\s'.os=s.os/\AllBare s'.gens/\Un (KI outer) [] H H' s.heap s'.heap/\KL P w H' s'.heap
theorem Lc(ok:KL P w H h)(e:H a=some o):∃ob,h.get? a=some ob:=by have x:=ok a o e;cases o with | BI xs=>obtain⟨_,_,_,_,e⟩:=x;exact⟨_,e⟩ | BC xs=>obtain⟨_,_,_,o,e,_⟩:=x;exact⟨_,e⟩ | dK kvs=>obtain⟨_,_,_,_,o,_,_,e,_⟩:=x;exact⟨_,e⟩ | dT kvs=>obtain⟨_,_,_,_,o,_,_,e,_⟩:=x;exact⟨_,e⟩ | set S n=>obtain⟨o,_,_,_,e,_⟩:=x;exact⟨_,e⟩ | ins C dx fs=>obtain⟨_,_,_,e,_⟩:=x;exact⟨_,e⟩ | own y=>obtain⟨_,e⟩:=x;exact⟨_,e⟩ | xd fs=>obtain⟨_,⟨_,_,_,e,_⟩,_⟩:=x;exact⟨_,e⟩ | jE lo hi=>obtain⟨_,_,_,e⟩:=x;exact⟨_,e⟩ | FJ ob u=>obtain⟨e,_⟩:=x;exact⟨_,e⟩ | XE ps=>exact⟨_,(show h.get? a=some _ from x)⟩ | met f y=>exact⟨_,(show h.get? a=some _ from x)⟩ | ext φ=>obtain⟨_,⟨_,e⟩,_⟩:=x;exact⟨_,e⟩
structure JZ(fr:List Addr)(g:Addr->Prop)(h h':Heap):Prop where
 keep:∀b o,h.get? b=some o->b∉fr->¬g b->h'.get? b=some o
 slot:∀b o,h.get? b=some o->b∈fr->∃sl,h'.get? b=some { o with slots:=sl }
theorem JZ.trans(a:JZ fr g h h1)(b:JZ fr g h1 h2):JZ fr g h h2 :=⟨λc o e n1 n2=>b.keep c o (a.keep c o e n1 n2) n1 n2,λc o e m=>by obtain⟨sl,e1⟩:=a.slot c o e m;obtain⟨ZW,e2⟩:=b.slot c _ e1 m;exact⟨ZW,e2⟩⟩
section
variable {M:Model}{A:Around}{E:Value->Shared->Prop}{s:Shared}{base:Heap}{env:Env}{outer:List Env}{L e:Addr}{cls:Value}{g:Addr->Prop}
theorem O3(hl:h.FunFrames base (env::outer))(hd:∀b∈Hd,b∈KI (env::outer)\/g b)(k1:(W.hideAll h Hd).StaysIn h')(k4:∀b o,h.get? b=some o->(∀vs,o.data≠.fields vs)->∃sl,h'.get? b=some { o with slots:=sl }):JZ (KI (env::outer)) g h h':=by
 refine⟨λb o e n1 n2=>k1 b o (W.hideAll_get _ e λm=>?_),λb o e m=>?_⟩;.rcases hd b m with z|z;(.exact n1 z);.exact n2 z
 .obtain⟨_,o',e',hn⟩:=hl.mem m;rw[e] at e';cases e';exact k4 b o e hn
theorem K1{h h':Heap}{Hd:List Addr}{T:Addr}{oT:Obj}{ts:Array Value}(hl:h.FunFrames base (env::outer))(hd:∀b∈Hd,b∈KI (env::outer)\/g b)(k4:∀b o,h.get? b=some o->(∀vs,o.data≠.fields vs)->∃sl,h'.get? b=some { o with slots:=sl })(hT:(W.hideAll h Hd).get? T=none)(eT:h'.get? T=some oT)(dT:oT.data=.fields ts)(fresh:∀b,h.get? b=none->g b):g T:=by cases q:h.get? T with | none=>exact fresh T q | some o =>(have m:T∈Hd:=by apply Classical.byContradiction;intro n;rw[W.hideAll_get _ q n] at hT;cases hT);rcases hd T m with z|z;(.exfalso;obtain⟨_,o',e',hn⟩:=hl.mem z;rw[q] at e';cases e';obtain⟨sl,e2⟩:=k4 T o q hn;rw[eT] at e2;cases e2;exact hn ts dT);.exact z
theorem Le:∀en∈l,∀a,en.frame=some a->a∈KI l:=λen he a ha=>IC.mpr ⟨en,he,ha⟩
theorem Je0{Q:Unit->Shared->Prop}(aG:A.frames=some (env::outer))(hl:s.heap.FunFrames base (env::outer))(hf:env.frame=some L)(x:dJ s.heap g e cls)(fresh:∀b,s.heap.get? b=none->g b)(h:∀h',aO h' g e cls->JZ (KI (env::outer)) g s.heap h'->Q () { s with heap:=h' }):wpAny M A (leaving env (.ref e)) Q E s:=by
 obtain⟨ge,oe,vs,a0,h1,h2,h3,h4,h5⟩:=x;subst h2;rcases h5 with h5|⟨T,oT,ts,t1,t2,t3,t4,t5,t6⟩;·(have hd:∀b∈KI (env::outer)++[e],b∈KI (env::outer)\/g b:=λb hb=>by rcases ZI hb with z|z;(.exact .inl z);·(have:b=e:=by simpa using z);rw[this];exact .inr ge);refine wpAny_leaving_firstW (base:=W.hideAll s.heap (KI (env::outer)++[e])) (a0:=a0) aG (W.funFrames_hide hl λen he a ha=>ZB _ (Le en he a ha)) hf h1 (λb o q=>W.of_hideAll _ q) (JQ _ (by simp)) h3 h5 h4 λh' hL=>?_;obtain⟨k1,k2,⟨du,dg,T',dv,cO,b1,⟨b2,b3⟩,b4,b5,b6,b7,b8,b9,bJ⟩,k4⟩:=hL;exact h h' ⟨ge,du,dg,a0,T',dv,cO,b1,b2,b4,b3,b5,K1 hl hd k4 b6 b8 b9 fresh,b7,b8,b9,bJ⟩ (O3 hl hd k1 k4)
 ·(have hd:∀b∈KI (env::outer)++[e,T],b∈KI (env::outer)\/g b:=λb hb=>by rcases ZI hb with z|z;(.exact .inl z);·(have:b=e\/b=T:=by simpa using z);rcases this with rfl|rfl;(.exact .inr ge);.exact .inr t2);refine wpAny_leaving_nextW (base:=W.hideAll s.heap (KI (env::outer)++[e,T])) (cls:=oe.cls) (a0:=a0) aG (W.funFrames_hide hl λen he a ha=>ZB _ (Le en he a ha)) hf ⟨oe,vs,T,oT,ts,h1,⟨rfl,h4⟩,h3,t1,JQ _ (by simp),t3,t4,t5,t6⟩ (λb o q=>W.of_hideAll _ q) (JQ _ (by simp)) λh' hL=>?_;obtain⟨k1,k2,⟨du,dg,T',dv,cO,b1,⟨b2,b3⟩,b4,b5,b6,b7,b8,b9,bJ⟩,k4⟩:=hL;exact h h' ⟨ge,du,dg,a0,T',dv,cO,b1,b2,b4,b3,b5,K1 hl hd k4 b6 b8 b9 fresh,b7,b8,b9,bJ⟩ (O3 hl hd k1 k4)
theorem Jgz{Q:Unit->Shared->Prop}(aG:A.frames=some (env::outer))(hl:s.heap.FunFrames base (env::outer))(hf:env.frame=some L)(x:aO s.heap g e cls)(fresh:∀b,s.heap.get? b=none->g b)(h:∀h',aO h' g e cls->JZ (KI (env::outer)) g s.heap h'->Q () { s with heap:=h' }):wpAny M A (noteFrame (.ref e) env) (λ_ s2=>wpAny M A (setFlight (.ref e) none) Q E s2) E s:=by
 obtain⟨ge,oe,vs,a0,T,oT,ts,h1,h2,h3,h4,t1,t2,t3,t4,t5,t6⟩:=x;subst h2;have hd:∀b∈KI (env::outer)++[e,T],b∈KI (env::outer)\/g b:=λb hb=>by rcases ZI hb with z|z;(.exact .inl z);·(have:b=e\/b=T:=by simpa using z);rcases this with rfl|rfl;(.exact .inr ge);.exact .inr t2
 refine wpAny_noteFrame_onW (base:=W.hideAll s.heap (KI (env::outer)++[e,T])) (cls:=oe.cls) (a0:=a0) aG (W.funFrames_hide hl λen he a ha=>ZB _ (Le en he a ha)) hf ⟨oe,vs,T,oT,ts,h1,⟨rfl,h4⟩,h3,t1,JQ _ (by simp),t3,t4,t5,t6⟩ (λb o q=>W.of_hideAll _ q) (JQ _ (by simp)) λh' hN=>?_;obtain⟨k1,k2,k3,k4⟩:=hN;refine wpAny_setFlight_noneW (s:={ s with heap:=h' }) k1 k2 k3 λh2 j1 j2 j3 j4=>?_;obtain⟨du,dg,T',dv,cO,b1,⟨b2,b3⟩,b4,b5,b6,b7,b8,b9,bJ⟩:=j3;have kk:∀b o,s.heap.get? b=some o->(∀vs,o.data≠.fields vs)->∃sl,h2.get? b=some { o with slots:=sl }:=λb o q n=>by obtain⟨sl,q2⟩:=k4 b o q n;exact⟨sl,j4 b _ q2 n⟩
 exact h h2 ⟨ge,du,dg,a0,T',dv,cO,b1,b2,b4,b3,b5,K1 hl hd kk b6 b8 b9 fresh,b7,b8,b9,bJ⟩ (O3 hl hd j1 kk)
theorem Jg1(x:aO s.heap g e cls)(hg:∀b∈fr,¬g b)(h:∀h',aO h' g e cls->JZ fr g s.heap h'->Q () { s with heap:=h' }):wpAny M A (setFlight (.ref e) none) Q E s:=by
 obtain⟨ge,oe,vs,a0,T,oT,ts,h1,h2,h3,h4,t1,t2,t3,t4,t5,t6⟩:=x;subst h2;have hsz:3<ts.size:=(LA.mp t6).1;refine wpAny_setFlight_none h1 h3 t1 t4 t5 hsz (h _ ⟨ge,oe,vs,a0,T,_,_,(CS _ _ t3).trans h1,rfl,h3,h4,t1,t2,t3,FD _ t4 (Obj.isFreed_of_fields (M_ t5 _)),M_ t5 _,by simp[hsz]⟩ ⟨λb o q _ n=>?_,λb o q m=>?_⟩);.exact(CS _ _ (λz=>n (by rw[<-z];exact t2))).trans q
 .refine⟨o.slots,(CS _ _ (λz=>hg b m (by rw[<-z];exact t2))).trans q⟩
end
section
variable {X:Cx}{AA:List (Addr×Obj)}{σ:L2.St}{H H1:Hp}{s s1:Shared}{h':Heap}{g:Addr->Prop}{ex:Addr}{cls:Value}
theorem Qa(ok:KL P w H1 h)(a:JZ fr g h h')(hf:∀b∈fr,H1 b=none)(hg:∀b,g b->H1 b=none):KL P w H1 h':=λb o e =>(ok b o e).OJ (λc u hc q=>a.keep c u q (λm=>by have:=hf c m;rcases hc with rfl|hc;(.rw[this] at e;cases e);.rw[this] at hc;cases hc) (λm=>by have:=hg c m;rcases hc with rfl|hc;(.rw[this] at e;cases e);.rw[this] at hc;cases hc)) (λ_ q=>q) λ_ _ q=>q
theorem T3(u:Un fs [] H0 H1 s0 h)(a:JZ fr g h h')(hg:∀b o,s0.get? b=some o->¬g b)(aG:∀b o,s0.get? b=some o->b∈fr->b∈fs)(hH:∀b∈fr,H1 b=none):Un fs [] H0 H1 s0 h' where
 keep:=λb o e n1 n2 n3=>a.keep b o (u.keep b o e n1 n2 n3) (λm=>n2 (aG b o e m)) (hg b o e)
 slot:=λb o e n1 m n3=>by
  obtain⟨sl,q⟩:=u.slot b o e n1 m n3
  by_cases hm:b∈fr
  .obtain⟨ZW,q2⟩:=a.slot b _ q hm
   exact⟨ZW,q2⟩
  .exact⟨sl,a.keep b _ q hm (hg b o e)⟩
 free:=u.free
 there:=λb o e n=>by
  obtain⟨o',q⟩:=u.there b o e n
  by_cases hm:b∈fr
  .obtain⟨ZW,q2⟩:=a.slot b _ q hm
   exact⟨_,q2⟩
  .exact⟨_,a.keep b _ q hm (hg b o e)⟩
 NM:=u.NM
 LF:=u.LF
 NN:=u.NN
end
def vB(X:Cx)(E:XK):Prop:=∀(AA:List (Addr×Obj))(σ:L2.St)(H1:Hp)(s1:Shared)(ex:Addr)(cls:Value),Inv X AA σ H1 s1->dJ s1.heap (λb=>X.GQ.heap.get? b=none/\H1 b=none) ex cls->E cls none H1->X.xe (.ref ex) s1
section
variable {P:Program}{w:World}{K:W.Frag}{mg:Str->Option Value}{base:Heap}{N:List Str}{qual:Str}{scope:Scope}{f:Addr}{cd:Value}{A:Around}{outer:List Env}{s:Shared}{H:Hp}{E:XK}
theorem Gj:vB (Iz (RW P w) P w K mg base N qual scope f cd A outer s H E) E:=by
 intro AA σ H1 s1 ex cls I x hE;have rU:∀b o,s.heap.get? b=some o->∃o',s1.heap.get? b=some o':=λb o e=>I.base.there b o e (by simp[Iz]);refine Je0 (base:=base) (L:=s.heap.objs.size) I.ok.frames I.stack rfl x (λb q=>?_) λh' x' as=>?_;.constructor;(.cases q2:s.heap.get? b with | none=>exact q2 | some o =>obtain⟨o',e⟩:=rU b o q2;rw[q] at e;cases e);.cases q2:H1 b with | none=>rfl | some o =>obtain⟨ob,e⟩:=Lc I.CT q2;rw[q] at e;cases e
 .have NF:∀b∈KI (envOfC qual scope s.heap.objs.size f cd::outer),H1 b=none:=λb hb=>I.OA b hb;refine⟨ex,cls,H1,rfl,x',hE,I.os,I.bare,T3 (fs:=KI outer) I.base as (λb o e z=>?_) (λb o e m=>?_) NF,Qa I.CT as NF λb z=>z.2⟩;(.have:=z.1;have e':s.heap.get? b=some o:=e;rw[show(Iz (RW P w) P w K mg base N qual scope f cd A outer s H E).GQ.heap.get? b=s.heap.get? b from rfl,e'] at this;cases this);.rcases ZM (show b∈s.heap.objs.size::KI outer from m) with z|z;(.have:=AU (show s.heap.get? b=some o from e);rw[z] at this;exact absurd this (C_ _));.exact z
theorem Bm:Gr (RW P w) (Iz (RW P w) P w K mg base N qual scope f cd A outer s H E) E:=by intro AA σ H0 s0 e s' I ⟨ex,cls,H',he,x,hE,ho,hg,u,ok⟩;subst he;have I':Inv (Iz (RW P w) P w K mg base N qual scope f cd A outer s H E) AA σ H' s':=I.TM (ch:=[]) ho u ok hg (λb hb=>by simp at hb);refine Gj AA σ H' s' ex cls I' (x.at.mono λb z=>⟨?_,z.2⟩) hE;cases q:s.heap.get? b with | none=>exact q | some o =>obtain⟨o',e⟩:=I.base.there b o q (by simp[Iz]);rw[z.1] at e;cases e
end
section
variable {P:Program}{w:World}{K:W.Frag}{mg:Str->Option Value}{base:Heap}
theorem qd{x qual:Str}{st:Stmt}{f:Addr}{fd:FuncData}{N ps:List Str}{k:Nat}{sp:Sp}(F:EK K x qual st f fd)(S:Ao N ps (Aj st))(len:∀vs H Q E,sp vs H Q E->vs.length=ps.length)(RH:∀(DP:Value) (A:Around) (outer:List Env) (s:Shared) (H:Hp) (vs:List V) (Q:VK) (E:XK),CU k (A.deeper (envOfC qual (Aj st) s.heap.objs.size f DP))->sp vs H Q E -> ∃t,N' (Iz (RW P w) P w K mg base N qual (Aj st) f DP A outer s H E) (Gq st) t/\t { nx:=λ_ H'=>Q .EE H',rt:=Q } (start N vs) H):DZ P w K mg base (RW P w) (k+1) f fd ps sp:=by obtain⟨oc,od,kV,doc,pm,an,DP,ct,ar,rfl,lk,T_⟩:=F.ex;exact uu lk T_ S len λA outer s H vs Q E hr WX=>RH DP A outer s H vs Q E hr WX
theorem F5{x qual:Str}{st:Stmt}{f:Addr}{fd:FuncData}{N ps:List Str}{k:Nat}{sp:Sp}(F:EK K x qual st f fd)(S:Ao N ps (Aj st))(h:∀vs H Q E,sp vs H Q E->Bd P w K mg base (RW P w) false N ps qual st f k vs H Q E):DZ P w K mg base (RW P w) (k+1) f fd ps sp :=qd F S (λvs H Q E z=>(h vs H Q E z).1) λDP A outer s H vs Q E hr z=>(h vs H Q E z).2 DP A outer s hr
theorem DZ.RO{k:Nat}{f:Addr}{fd:FuncData}{ps:List Str}{sp:Sp}(F:DZ P w K mg base VS k f fd ps sp):DZ P w K mg base (RW P w) k f fd ps sp :=⟨F.len,λA outer s H args us vs Q E hr he hb hv hs=>GX (F.run A outer s H args us vs Q E hr he hb hv hs) λr s' h=>by cases r with | ok fl=>cases fl<;>exact h | error e=>exact False.elim h⟩
end
def dZ:List Value:=[.type "ValueError",.type "Exception",.type "BaseException",.type "object"]
structure Tv(K:W.Frag)(mg:Str->Option Value)(x:Str)(C:Addr):Prop where
 mg:mg x=some (.ref C)
 ex:W.excIn K C dZ "ValueError.__new__"=true
section
variable {X:Cx}{x:Str}{C:Addr}{E:XK}{np FV pos p1:Pos}{msg:Str}{j:Nat}
theorem Y7{K:W.Frag}{h:Heap}{C:Addr}(XK:K.In h)(q:W.excIn K C dZ "ValueError.__new__"=true):∃nm q N bs bm hdct sn sub ab col dd k0 k1 k2 k3 k5 mN,h.get? C=some (excClassObj nm q C N bs bm hdct sn sub ab col dd k0 k1 k2 k3 k5 "ValueError.__new__")/\h.Ns N mN/\mN "__init__"=none/\OwnTail h dZ bm:=by
 unfold W.excIn at q;split at q;.rename_i dd cd sl ho;split at q;(.rename_i C' bm k0 k1 k2 k3 n k5 hm hs;simp only[JG,KY,Bool.not_eq_true'] at q;obtain⟨⟨⟨⟨⟨rfl,rfl⟩,gh⟩,ht⟩,CT⟩,eW⟩:=q;obtain⟨nm,bs,mro,ns,qn,hd,sn,sub,ab,col,del⟩:=cd;dsimp only at hm gh CT eW;subst hm gh;(have WY:sl=#[k0,k1,k2,k3,some (.builtin "ValueError.__new__"),k5]:=by obtain⟨l⟩:=sl;simp only at hs;rw[hs]);subst WY;exact⟨nm,qn,ns,bs,bm,hd,sn,sub,ab,col,dd,k0,k1,k2,k3,k5,_,XK _ _ ho,.of_isNs (W.isNs_of_in XK CT),W.nsMap_none_of_in XK CT eW,W.tail_of_in XK ht⟩);.cases q
 .cases q
theorem Jau{h:Heap}{mg:Str->Option Value}(XK:X.K.In h)(c:Tv X.K mg x C):∃nm q N bs bm hdct sn sub ab col dd k0 k1 k2 k3 k5 mN,h.get? C=some (excClassObj nm q C N bs bm hdct sn sub ab col dd k0 k1 k2 k3 k5 "ValueError.__new__")/\h.Ns N mN/\mN "__init__"=none/\OwnTail h dZ bm:=Y7 XK c.ex
theorem F1(hc:X.calm=true)(hg:Gl X x)(c:Tv X.K X.mg x C)(hx:vB X E)(hex:X.ex=[]:=by rfl)(hd:(x==("__debug__":Str))=false:=by decide)(SQ:(backTo FV (starEach [.Constant (.str msg) j p1] X.env)).any (·.1)=false:=by rfl)(hs:starEach [.Constant (.str msg) j p1] X.env=[(false,eval (.Constant (.str msg) j p1) X.env)]:=by rfl) : PS X (.Raise (some (.Call (.Name x np) [.Constant (.str msg) j p1] [] FV)) none pos) (λ_ _ H=>E (.ref C) none H):=by
 intro AA s σ H D I h;obtain⟨nm,q,N,bs,bm,hdct,sn,sub,ab,col,dd,k0,k1,k2,k3,k5,mN,hC,hN,eW,tl⟩:=Jau (X:=X) I.mod.US c;refine wpAny_Raise_call_subU (C:=C) (nm:=nm) (q:=q) (N:=N) (bs:=bs) (bm:=bm) (hdct:=hdct) (sn:=sn) (sub:=sub) (ab:=ab) (col:=col) (dd:=dd) (k0:=k0) (k1:=k1) (k2:=k2) (k3:=k3) (k5:=k5) F.excBase_ValueError (bmB:=dZ) ZV F.excBase_ValueError (tl.hasType ZV) (I.ok.hd hc) SQ eW ?_;refine Hu I hg c.mg ⟨rfl,?_⟩ hd;have ha:PA X [.Constant (.str msg) j p1] (De (tC (.str msg)) Kv):=Aa Bk Af hs;have hA:=ha FV AA s σ H (λvs H1=>vs=[.str msg]/\H1=H) I ⟨rfl,rfl⟩;rw[hs] at hA ⊢;refine FR (DU hA ?_);rintro us s2 ⟨vs,H2,I2,r2,e1,e2⟩;subst e1 e2;refine⟨rfl,by show us.length<=sizeLine;rw[<-r2.length];show 1<=sizeLine;decide,I2.bk _ _ hC,(let⟨o,es,ep,e,r⟩:=hN;⟨o,es,ep,I2.bk _ _ e,r⟩),tl.keeps I2.bk,λh' e hm=>?_⟩;obtain⟨t,ht,_⟩:=hm.there;have none_:∀b,s2.heap.get? b=none->X.GQ.heap.get? b=none/\H2 b=none:=λb q=>by constructor;(.cases q2:X.GQ.heap.get? b with | none=>rfl | some o =>obtain⟨o',e'⟩:=I2.base.there b o q2 (by rw[hex];simp);rw[q] at e';cases e');.cases q2:H2 b with | none=>rfl | some o =>obtain⟨ob,e'⟩:=Lc I2.CT q2;rw[q] at e';cases e'
 have I3:Inv X AA σ H2 { s2 with heap:=h' }:=I2.kept (t':=s2.toks) hm.keeps;exact hx AA σ H2 _ e (.ref C) I3 ⟨none_ e hm.new,_,_,_,ht,rfl,rfl,rfl,.inl rfl⟩ h
end
section
end
def P9(X:Cx)(AA:List (Addr×Obj))(E:Value->Shared->Prop):Cx:={ X with pn:=X.pn++AA,xe:=E }
def eE(X:Cx)(ex:Addr):Cx:={ X with A:=X.A.mark (some (.ref ex)),calm:=false,xe:=λ_ _=>False }
section
theorem Cx.Ok.iX(ok:X.Ok):(P9 X AA E).Ok:=⟨ok.mod,ok.kind,ok.glob,ok.blt,ok.above,ok.inj,ok.has,ok.YJ,ok.hd,ok.frames,ok.Y',ok.U',ok.bs,ok.UE,ok.PY,ok.P_,ok.KR,ok.VL⟩
theorem Cx.Ok.iZ(ok:(P9 X AA E).Ok):X.Ok:=⟨ok.mod,ok.kind,ok.glob,ok.blt,ok.above,ok.inj,ok.has,ok.YJ,ok.hd,ok.frames,ok.Y',ok.U',ok.bs,ok.UE,ok.PY,ok.P_,ok.KR,ok.VL⟩
theorem Cx.Ok.vy(ok:X.Ok):(eE X ex).Ok:=⟨ok.mod,ok.kind,ok.glob,ok.blt,ok.above,ok.inj,ok.has,ok.YJ,λz=>(by cases z),ok.frames,ok.Y',ok.U',ok.bs,ok.UE,ok.PY,ok.P_,ok.KR,ok.VL⟩
theorem Jaf(I:Inv X AA σ H s):Inv (P9 X AA E) [] σ H s:=⟨Cx.Ok.iX I.ok,I.os,I.bare,I.base,I.loc,I.cell,I.free,I.HX,λp hp=>I.pin p (by have a9:p∈(X.pn++AA)++[]:=hp;rwa [AH] at a9),I.CT,I.len⟩
theorem F8(I:Inv (P9 X AA E) RE σ H s):Inv X AA σ H s:=⟨Cx.Ok.iZ I.ok,I.os,I.bare,I.base,I.loc,I.cell,I.free,I.HX,λp hp=>I.pin p (ZB _ hp),I.CT,I.len⟩
theorem Y0(I:Inv X AA σ H s):Inv (eE X ex) AA σ H s:=⟨Cx.Ok.vy I.ok,I.os,I.bare,I.base,I.loc,I.cell,I.free,I.HX,I.pin,I.CT,I.len⟩
theorem Mo(I:Inv (eE X ex) AA σ H s)(ok:X.Ok):Inv X AA σ H s:=⟨ok,I.os,I.bare,I.base,I.loc,I.cell,I.free,I.HX,I.pin,I.CT,I.len⟩
theorem Jae(I:Inv X AA σ H s)(hn:H a=none)(h0:X.GQ.heap.get? a=none)(h1:a≠X.env.locals)(h2:∀x c,X.env.cells.lookup x=some c->c≠a)(h3:∀p∈X.pn++AA,p.1≠a)(ok:CZ X.prog X.w (upd H a o) s.heap a o):Inv X AA σ (upd H a o) s:=by
 have ne:∀{b:Addr} {u:HO},H b=some u->b≠a:=λe=>Ak e hn;refine⟨I.ok,I.os,I.bare,⟨I.base.keep,I.base.slot,λb ob e n hx=>?_,I.base.there,λb xs e=>?_,λb ob u e=>?_,λb ps e=>?_⟩,I.loc,I.cell,by rw[Ab (Ne.symm h1)];exact I.free,λx c e=>by rw[Ab (h2 x c e)];exact I.HX x c e,λp hp=>?_,λb u e=>?_,I.len⟩;.rw[Ab (λz=>by rw[z,h0] at e;cases e)];exact I.base.free b ob e n hx
 .have:=I.base.NM b xs e;rw[Ab (ne this)];exact this
 .have:=I.base.LF b ob u e;rw[Ab (ne this)];exact this
 .obtain⟨more,q⟩:=I.base.NN b ps e;exact⟨more,by rw[Ab (ne q)];exact q⟩
 .obtain⟨a1,a2,a3⟩:=I.pin p hp;exact⟨a1,by rw[Ab (h3 p hp)];exact a2,a3⟩
 .by_cases hb:b=a;(.subst hb;rw[Ac] at e;cases e;exact ok);.rw[Ab hb] at e;exact(I.CT b u e).OJ (λc w' _ q=>q) (λc q=>by rw[Ab (ne q)];exact q) λc xs q=>by rw[Ab (ne q)];exact q
end
def Tw(X:Cx)(ES:L2.St->XK):Prop:=∀(AA:List (Addr×Obj))(σ:L2.St)(H:Hp)(s:Shared)(e:Value)(s':Shared),Inv X AA σ H s->RW X.prog X.w X.stack H s (ES σ) e s'->X.xe e s'
section
theorem Jd8(F:DZ X.prog X.w X.K X.mg X.base (RW X.prog X.w) k f fd ps sp)(hr:CU k X.A)(hb:Binds X.K fd ps [])(hx:Tw X ES)(I:Inv X AA σ H s)(r:Vals vs us)(h:sp vs H Q (ES σ)):wpAny (model X.prog X.w) X.A (call (.ref f) us) (EP X AA σ Q) X.xe s:=by
 have hl:us.length=ps.length:=by rw[<-r.length];exact F.len _ _ _ _ h
 refine wpAny_call (GX (F.run X.A X.stack s H ⟨us,[]⟩ us vs Q (ES σ) hr I.bz (by have:=hb s us I.LX (by rw[AH];exact hl);rwa [AH] at this) r h) λr s' hq=>?_);cases r with | error e=>exact hx AA σ H s e s' I hq | ok fl =>cases fl with | ret u=>exact I.after hq | next=>exact hq.elim | brk=>exact hq.elim | cont=>exact hq.elim
def Jge(sp:Sp)(ES:L2.St->XK)(t:TA):TE:=λσ H Q=>t σ H λvs H1=>sp vs H1 Q (ES σ)
theorem Jbx(F:DZ X.prog X.w X.K X.mg X.base (RW X.prog X.w) k f fd ps sp)(hr:CU k X.A)(hg:Gl X x)(hm:X.mg x=some (.ref f))(hk:W.keepIn X.K (.ref f)=true)(hb:Binds X.K fd ps [])(hx:Tw X ES)(ha:PA X (e::es) t)(VI:(x==("__debug__":Str))=false:=by decide)(he:starEach (e::es) X.env=(false,eval e X.env)::starEach es X.env:=by rfl)(QQ:(backTo pos (starEach es X.env)).any (·.1)=false:=by rfl):PE X (.Call (.Name x p) (e::es) [] pos) (Jge sp ES t):=by intro AA s σ H Q I h;refine GY (Hu I hg hm (W.callWith_K (h₀:=X.base) I.ok.mod.US hk (DU (ha pos AA s σ H _ I h) λus s1 ⟨vs,H1,I1,r,q⟩=>⟨I1.LX,Jd8 F hr hb hx I1 r q⟩) he QQ) VI)
end
theorem Jf2{M:Model}{A:Around}{E:Value->Shared->Prop}{s:Shared}{K:W.Frag}{C D e:Addr}{oe:Obj}{Q:Bool->Shared->Prop}(XK:K.In s.heap)(cD:W.excIn K D dZ "ValueError.__new__"=true)(bp:W.mroIn K C (.ref D)=some true)(he:s.heap.get? e=some oe)(VY:oe.cls=.ref C)(hq:Q true s):wpAny M A (excMatches (.ref e) (.ref D)) Q E s:=by
 obtain⟨h,g,d,t,os⟩:=s
 obtain⟨nm,q,N,bs,bm,hdct,sn,sub,ab,col,dd,k0,k1,k2,k3,k5,mN,hD,hN,eW,tl⟩:=Y7 XK cD
 have hB:(Value.ref D::bm).contains (.type "BaseException")=true:=by rw[KZ,tl.hasType (b:=true) ZV,Bool.or_true]
 have f:=tc_notTuple
 have LS:=W.looks_mroIn (M:=M) XK bp
 unfold excMatches
 repeat (first|(with_reducible refine wpAny_loadPart_at he ?_;rw[VY])|with_reducible refine wpAny_loadPart_at hD ?_|(with_reducible refine wpAny_isSubtype_exc hD ?_;rw[hB])|with_reducible refine LS.at ?_|wp_step)
 exact hq
def gone(D:Ends)(i:Nat):Ends:={ nx:=λσ H=>D.nx (σ.set i none) H,bk:=λσ H=>D.bk (σ.set i none) H,ct:=λσ H=>D.ct (σ.set i none) H,rt:=D.rt }
def Jhp(K:W.Frag)(D:Addr)(cls:Value)(C:Addr):Prop:=cls=.ref C/\W.mroIn K C (.ref D)=some true
section
end
end FX
namespace FX
open PySem PySem.Spec PySem.Calls PyProof.Rows L2 Builtin Builtin.ObjectAttr Builtin.Getset_descriptor
set_option maxHeartbeats 400000
section
variable {prog:Program}{w:World}{A:Around}{E:Value->Shared->Prop}{s:Shared}{K:W.Frag}{x C:Addr}
end
section
end
end FX
namespace FX
open PySem PySem.Spec PyProof.Rows L2
theorem DZ.no{P:Program}{w:World}{K:W.Frag}{mg:Str->Option Value}{base:Heap}{k:Nat}{f:Addr}{fd:FuncData}{ps:List Str}{sp:Sp}(F:DZ P w K mg base (RW P w) k f fd ps sp):DZ P w K mg base VS k f fd ps (λvs H Q _=>sp vs H Q E0) :=⟨λvs H Q E q=>F.len vs H Q E0 q,λA outer s H args us vs Q E hr he hb hv hs=>GX (F.run A outer s H args us vs Q E0 hr he hb hv hs) λr s' h=>by cases r with | ok fl=>cases fl<;>exact h | error e=>obtain⟨_,_,_,_,_,z,_⟩:=h;exact z.elim⟩
end FX
namespace FX
open PySem L2
end FX
namespace FX
open PySem PySem.Spec PyProof.Rows L2
def RN(h:Heap)(it d:Addr)(i n ep:Nat):Prop :=
 ∃(own ok ov:Value)(f:Bool),(own=.none\/∃a:Nat,own=rawInt a)/\h.get? it=some { cls:=.type "dict_itemiterator",dict:=none,data:=.fields #[own,.bool f,.ref d,.int i 0,.int n 0,.int ep 0,ok,ov],slots:=#[] }
def V4(h:Heap)(a:Addr)(k v:Value):Prop:=h.get? a=some { cls:=.type "tuple",data:=.seq #[k,v] }
section
variable {prog:Program}{w:World}{A:Around}{E:Value->Shared->Prop}{s:Shared}{it d:Addr}{i n ep:Nat}
theorem RN.ty(x:RN s.heap it d i n ep):s.TypeIs (.ref it) "dict_itemiterator":=let⟨_,_,_,_,_,e⟩:=x;⟨_,e,rfl⟩
theorem RN.to(x:RN h it d i n ep)(k:∀o,h.get? it=some o->h'.get? it=some o):RN h' it d i n ep:=let⟨a,b,c,f,g,e⟩:=x;⟨a,b,c,f,g,k _ e⟩
theorem Jfl(h:Q (s.heap.get? a) s):wpAny (model prog w) A (loadIfAlive a) Q E s:=λ_ _ _=>h
theorem Ja7(h:∀h' e,Shared.TypeIs { s with heap:=h' } (.ref e) "StopIteration"->(∀b o,s.heap.get? b=some o->h'.get? b=some o)->Q (.ref e) { s with heap:=h' }):wpAny (model prog w) A (newExc (.type "StopIteration") []) Q E s:=by
 have first:firstArgMember (.type "StopIteration") []=pure .none:=by unfold firstArgMember;cases (Manifest.find? "StopIteration").elim false λt=>t.mro.contains "StopIteration" || t.mro.contains "SystemExit" <;> rfl
 unfold newExc newTuple;rw[first];refine ZR (DX (ZR (ZS (DX (h _ _ ⟨_,ZU _ rfl,rfl⟩ λb o e=>ZT _ (ZT _ e)) (by size_fits)))) (by size_fits))
theorem Jby(hw:RN s.heap it d i n ep)(hQ:∀h',RN h' it d i n ep->V4 h' s.heap.objs.size k v->(∀b o,b≠it->s.heap.get? b=some o->h'.get? b=some o)->Q (.ref s.heap.objs.size) { s with heap:=h' }) :
 wpAny (model prog w) A (Builtin.Dict_items.pairFromOwner (.ref it) 6 k v) Q E s:=by
 obtain⟨own,ok,ov,f,ho,e0⟩:=hw
 have il:it<s.heap.objs.size:=AU e0
 have o5:s.heap.objs.size≠it:=EN il
 obtain⟨h1,eh⟩:∃h1,h1=s.heap.push { cls:=.type "tuple",data:=.seq ([k,v]:List Value).toArray }:=⟨_,rfl⟩
 have p1:V4 h1 s.heap.objs.size k v:=by rw[eh];exact ZU _ rfl
 have k1:∀b o,s.heap.get? b=some o->h1.get? b=some o:=λb o e=>by rw[eh];exact ZT _ e
 have e1:=k1 it _ e0
 have fin:∀h2,RN h2 it d i n ep->Heap.SameBut it h1 h2->Q (.ref s.heap.objs.size) { s with heap:=h2 }:=λh2 x y =>
  hQ h2 x ((y.2 _ o5).trans p1) λb o hb e=>(y.2 b hb).trans (k1 b o e)
 have free:wpAny (model prog w) A (do
  let old:=[<-field (.ref it) 6,<-field (.ref it) (6+1)]
  setField (.ref it) 6 k;setField (.ref it) (6+1) v
  setField (.ref it) 0 (rawInt s.heap.objs.size);setField (.ref it) 1 (.bool false)
  letGo old [.ref s.heap.objs.size]
  return .ref s.heap.objs.size) Q E { s with heap:=h1 }:=by
  refine ZR (wpAny_field (x:=ok) e1 rfl rfl (ZR (wpAny_field (x:=ov) e1 rfl rfl ?_)))
  refine ZR (FA e1 (by simp) λg2 q2 b2=>ZR (FA q2 (by simp) λg3 q3 b3=>ZR (FA q3 (by simp) λg4 q4 b4=>ZR (FA q4 (by simp) λg5 q5 b5=>?_))))
  refine ZR (wpAny_letGo (ZS (fin g5 ⟨_,_,_,_,.inr ⟨s.heap.objs.size,rfl⟩,q5⟩ ⟨?_,λb hb=>?_⟩)))
  .rw[b5.1,b4.1,b3.1,b2.1]
  .rw[b5.2 b hb,b4.2 b hb,b3.2 b hb,b2.2 b hb]
 unfold Builtin.Dict_items.pairFromOwner
 refine ZR (wpAny_newTuple ?_)
 rw[<-eh]
 refine ZR ?_
 unfold Builtin.Dict_items.ownedTupleIsFree
 refine ZR (wpAny_field (x:=own) e1 rfl rfl ?_)
 rcases ho with rfl|⟨a,rfl⟩
 .exact ZS free
 .show wpAny _ _ (loadIfAlive ((a:Int).toNat) >>= _) _ _ _
  refine ZR (Jfl ?_)
  cases ha:h1.get? (a:Int).toNat with
  | none=>exact ZS free
  | some oa =>
    refine ZR (wpAny_field (x:=.bool f) e1 rfl rfl ?_)
    cases f with
    | true=>exact ZS (ZS (fin h1 ⟨_,_,_,_,.inr ⟨a,rfl⟩,e1⟩ (Heap.SameBut.refl _ _)))
    | false=>exact ZR (FA e1 (by simp) λg2 q2 b2=>ZS (ZS (fin g2 ⟨_,_,_,_,.inr ⟨a,rfl⟩,q2⟩ b2)))
theorem Xe(hv:s.heap.IsItemsView v d)(hm:KS s.heap d es ep)(hQ:∀h',RN h' s.heap.objs.size d 0 es.size ep->(∀b o,s.heap.get? b=some o->h'.get? b=some o)->Q (.ref s.heap.objs.size) { s with heap:=h' }):wpAny (model prog w) A (pyIter (.ref v)) Q E s:=by
 obtain⟨o1,e1,c1,f1⟩:=id hv;obtain⟨o2,e2,c2,f2⟩:=hm;refine wpAny_pyIter_slot hv.typeIs F.slot_dict_items_iter (CY F.slot_dict_items_iter hv.typeIs F.entry_dict_items_iter ?_ (F.args_dict_items_iter_1 _));unfold Builtin.«dict_items.__iter__» Builtin.Dict_items.dictOf Builtin.Dict_items.newIterator;refine ZR (ZS (ZR (ZR (wpAny_field (x:=.ref d) e1 f1 rfl (ZS (ZR (ZR (BX e2 f2 (ZR (EB e2 f2 ?_))))))))));have own:Builtin.Dict_items.ownsTuple "dict_itemiterator"=true:=by decide
 simp only[own,GJ,CB,DV];refine DX (ZS ⟨_,rfl,"dict_itemiterator",_,⟨_,ZU _ rfl,rfl⟩,F.slot_dict_itemiterator_next.lookup,?_⟩) (by simp[sizeOk,Builtin.Dict_items.ownedTupleFields,DL]);exact hQ _ ⟨.none,.none,.none,false,.inl rfl,(ZU _ rfl).trans (by simp[rawInt,Builtin.Dict_items.ownedTupleFields])⟩ λb o e=>ZT _ e
theorem Xd{es:Array DictEntry}{Q:Option Value->Shared->Prop}(hw:RN s.heap it d i es.size ep)(hm:KS s.heap d es ep)(hi:i<es.size)(hQ:∀h',RN h' it d (i+1) es.size ep->V4 h' s.heap.objs.size es[i].key es[i].val->(∀b o,b≠it->s.heap.get? b=some o->h'.get? b=some o)->Q (some (.ref s.heap.objs.size)) { s with heap:=h' }):wpAny (model prog w) A (pyNext (.ref it)) Q E s:=by
 have ty:=hw.ty;obtain⟨own,ok,ov,f,ho,e0⟩:=hw;obtain⟨o2,e2,c2,f2⟩:=hm;have bc:Builtin.Dict_items.ownsTuple "dict_itemiterator"=true:=by decide
 unfold pyNext;refine ZR (wpAny_attempt (IX (name:=Str.ofString "__next__") ty GN (CY GN ty F.entry_dict_itemiterator_next (ZR (ZS (ZR ?_))) (F.args_dict_itemiterator_next_1 _))));refine ZR (ZR (GA ty (ZS (ZR (wpAny_fieldsOf e0 rfl ?_)))));simp only[bc,GJ];refine(show wpAny (model prog w) _ (if(Value.ref d==Value.none)=true then _ else _) _ _ s from ?_);rw[AB (show ¬((Value.ref d==Value.none)=true) from AL)];refine ZR (ZS (ZR (BX e2 f2 ?_)));rw[AB (by simp)];refine ZR (ZS (ZR (EB e2 f2 ?_)));rw[AB (by simp)];refine ZS ?_;simp only[show ¬((i:Int)<0) by lia,DV,DF,Array.getElem?_eq_getElem hi];refine ZR (ZR (GA ty (ZS (ZR (QM ty ?_)))));refine(show wpAny (model prog w) _ (setField (.ref it) 3 (rawInt ((i:Int)+1)) >>= _) _ _ s from ?_);refine ZR (FA e0 (by simp) λh1 q1 b1=>?_);have w1:RN h1 it d (i+1) es.size ep:=⟨own,ok,ov,f,ho,by rw[show((i+1:Nat):Int)=(i:Int)+1 by lia];simpa [rawInt] using q1⟩;have qC:Shared.TypeIs { s with heap:=h1 } (.ref it) "dict_itemiterator":=RN.ty (s:={ s with heap:=h1 }) w1;refine ZR (EI (ZR (QM qC (ZR (QM qC ?_)))));refine Jby (s:={ s with heap:=h1 }) w1 λh2 w2 p2 k2=>?_;have z1:h1.objs.size=s.heap.objs.size:=b1.1;dsimp only at p2 k2 ⊢;rw[z1] at p2 ⊢;exact ZS ⟨_,rfl,ZS (hQ h2 w2 p2 λb o hb e=>k2 b o hb ((b1.2 b hb).trans e))⟩
theorem Jac{es:Array DictEntry}{Q:Option Value->Shared->Prop}(hh:A.handled=none)(hw:RN s.heap it d i es.size ep)(hm:KS s.heap d es ep)(hi:es.size<=i)(hQ:∀h',(∀b o,b≠it->s.heap.get? b=some o->h'.get? b=some o)->Q none { s with heap:=h' }):wpAny (model prog w) A (pyNext (.ref it)) Q E s:=by
 have ty:=hw.ty;obtain⟨own,ok,ov,f,ho,e0⟩:=hw;obtain⟨o2,e2,c2,f2⟩:=hm;have bc:Builtin.Dict_items.ownsTuple "dict_itemiterator"=true:=by decide
 unfold pyNext;refine ZR (wpAny_attempt (IX (name:=Str.ofString "__next__") ty GN (CY GN ty F.entry_dict_itemiterator_next (ZR (ZS (ZR ?_))) (F.args_dict_itemiterator_next_1 _))));refine ZR (ZR (GA ty (ZS (ZR (wpAny_fieldsOf e0 rfl ?_)))));simp only[bc,GJ];refine(show wpAny (model prog w) _ (if(Value.ref d==Value.none)=true then _ else _) _ _ s from ?_);rw[AB (show ¬((Value.ref d==Value.none)=true) from AL)];refine ZR (ZS (ZR (BX e2 f2 ?_)));rw[AB (by simp)];refine ZR (ZS (ZR (EB e2 f2 ?_)));rw[AB (by simp)];refine ZS ?_;simp only[show ¬((i:Int)<0) by lia,DV,DF,Array.getElem?_eq_none hi];refine ZR (ZR (GA ty (ZS ?_)));refine ZR (FA (k:=2) e0 (by simp) λh1 q1 b1=>?_);refine ZR (Ja7 λh2 x t2 k2=>wpAny_raiseNew_none hh (ZR (wpAny_isInstance t2 isSubtype_stop (ZS (hQ h2 λb o hb e=>k2 b o ((b1.2 b hb).trans e))))))
end
def VA(h:Heap)(it:Addr)(es:Array DictEntry)(as:List Addr):Prop:=∀(j:Nat)(a:Addr),as[j]?=some a->it<a/\∃e:DictEntry,es[j]?=some e/\V4 h a e.key e.val
theorem VA.to(x:VA h it es as)(k:∀b o,it<b->h.get? b=some o->h'.get? b=some o):VA h' it es as :=λj a e=>let⟨l,d,e1,e2⟩:=x j a e;⟨l,d,e1,k a _ l e2⟩
theorem VA.more(x:VA h it es as)(hi:as.length<es.size)(l:it<a)(p:V4 h a es[as.length].key es[as.length].val):VA h it es (as++[a]):=λj b e=>by rcases Nat.lt_trichotomy j as.length with hj|hj|hj;(.rw[LO hj] at e;exact x j b e);(.subst hj;(have e':a=b:=by simpa using e);subst e';exact⟨l,_,by simp[hi],p⟩);.rw[CC (by simp;lia)] at e;cases e
section
theorem Od(hh:A.handled=none)(l1:S<it)(n1:d≠S)(n2:d≠it)(hz:es.size<=sizeLine)(res:Value) : ∀(k:Nat)(s:Shared)(as:List Addr)(c:Nat),as.length+k=es.size->RN s.heap it d as.length es.size ep->KS s.heap d es ep->s.heap.get? S=some (seqObj "list" (as.map Value.ref).toArray c)->VA s.heap it es as->as.Nodup -> (∀h' KJ c',KJ.length=es.size->KJ.Nodup->(∀b o,b≠S->b≠it->s.heap.get? b=some o->h'.get? b=some o)->h'.get? S=some (seqObj "list" (KJ.map Value.ref).toArray c')->VA h' it es KJ->R (.ok (.ret res)) { s with heap:=h' }) -> codeAny (model prog w) A (.builtin "list.extend.loop" ⟨[.ref S,.ref it,res],[]⟩) R s
 | 0,s,as,c,hk,iw,rd,hS,ps,nd,q=>by refine QV PySem.F.entry_extend_loop ?_;rw[K' EZ _];refine(ZR (m:=pyNext (.ref it)) (Jac hh iw rd (by lia) λh' kp=>ZS (q h' as c (by lia) nd (λb o _ hb e=>kp b o hb e) (kp S _ (BK l1) hS) (ps.to λb o hb e=>kp b o (EN hb) e))))
 | k+1,s,as,c,hk,iw,rd,hS,ps,nd,q=>by (have hi:as.length<es.size:=by lia);have al:it<s.heap.objs.size:=let⟨_,_,_,_,_,e⟩:=iw;AU e;refine QV PySem.F.entry_extend_loop ?_;rw[K' EZ _];refine ZR (m:=pyNext (.ref it)) (Xd iw rd hi λh1 xq p1 k1=>?_);have ja:=k1 S _ (BK l1) hS;(have sz:(as.map Value.ref).toArray.size=as.length:=by simp);refine ZR (m:=updateSeq S (·.push (Value.ref s.heap.objs.size))) (wpAny_updateSeq ja rfl (ZS ⟨plainId_quiet EZ _,?_⟩) (by rw[sz];lia) (by rw[Array.size_push,sz];lia));have up:∀b o,b≠S->h1.get? b=some o->(h1.update S (Obj.mapSeq (·.push (Value.ref s.heap.objs.size)))).get? b=some o:=λb o hb e=>(CS _ _ (Ne.symm hb)).trans e;refine Od hh l1 n1 n2 hz res k { s with heap:=h1.update S (Obj.mapSeq (·.push (Value.ref s.heap.objs.size))) } (as++[s.heap.objs.size]) (c+1) (by simp;lia) (by rw[ZE];exact xq.to λo e=>up it o (EN l1) e) (rd.at λo e=>up d o n1 (k1 d o n2 e)) ?_ ?_ ?_ λh' KJ c' a1 a0 a2 a3 a4=>q h' KJ c' a1 a0 (λb o hb hc e=>a2 b o hb hc (up b o hb (k1 b o hc e))) a3 a4;(.refine(JU ja _).trans ?_;simp[seqObj]);(.exact VA.more (ps.to λb o hb e=>up b o (EN (NR l1 hb)) (k1 b o (EN hb) e)) hi al (up _ _ (EN (NR l1 al)) p1));.refine AO.mpr ⟨nd,by simp,λa ha b hb z=>?_⟩;(have e:b=s.heap.objs.size:=by simpa using hb);obtain⟨j,hj⟩:=OT.mp ha;obtain⟨_,_,_,e2⟩:=ps j a hj;exact absurd (AU e2) (by rw[z,e];exact C_ _)
end
section
theorem Pf(hh:A.handled=none)(hv:s.heap.IsItemsView v d)(hm:KS s.heap d es ep)(hz:es.size<=sizeLine)(h:∀h' as it,as.length=es.size->as.Nodup->s.heap.objs.size<=it->(∀b o,s.heap.get? b=some o->h'.get? b=some o)->VA h' it es as->R (as.map Value.ref) { s with heap:=h' }) : wpAny (model prog w) A (collect (.ref v)) R E s:=by
 have lv:v<s.heap.objs.size:=let⟨_,e,_⟩:=hv;AU e;have ld:d<s.heap.objs.size:=let⟨_,e,_⟩:=hm;AU e;unfold collect;refine ZR (wpAny_runValue (QV PySem.F.entry_proto_collect ?_));rw[K' PySem.F.plain_proto_collect _];refine ZR (m:=newList []) (DX (ZS ⟨plainId_quiet PySem.F.plain_list_iadd _,QV PySem.F.entry_list_iadd ?_⟩) (by size_fits));rw[K' PySem.F.plain_list_iadd _];generalize l8:s.heap.push { cls:=.type "list",data:=.seq ([]:List Value).toArray }=h0;have gS:h0.get? s.heap.objs.size=some (seqObj "list" #[] 0):=by rw[<-l8];exact ZU _ rfl
 have k0:∀b o,s.heap.get? b=some o->h0.get? b=some o:=λb o e=>by rw[<-l8];exact ZT _ e
 have lG:h0.IsItemsView v d:=let⟨o,e,r⟩:=hv;⟨o,k0 v o e,r⟩;have lV:KS h0 d es ep:=hm.at λo e=>k0 d o e;have z0:h0.objs.size=s.heap.objs.size+1:=by rw[<-l8,Heap.size_push]
 have low:∀b o,s.heap.get? b=some o->b<s.heap.objs.size:=λb o e=>AU e;obtain⟨S,hS⟩:∃S:Addr,S=s.heap.objs.size:=⟨_,rfl⟩;rw[<-hS] at gS z0 lv ld low ⊢;have lS:S<h0.objs.size:=by rw[z0];exact JD _
 refine(show wpAny (model prog w) _ (Builtin.List.listExtendWith (.ref S) (.ref v) (.ref S)) _ _ { s with heap:=h0 } from ?_);have fin:∀(R':Result->Shared->Prop),(∀h' KJ c',KJ.length=es.size->KJ.Nodup->(∀b o,s.heap.get? b=some o->h'.get? b=some o)->h'.get? S=some (seqObj "list" (KJ.map Value.ref).toArray c')->VA h' h0.objs.size es KJ->R' (.ok (.ret (.ref S))) { s with heap:=h' }) -> ∀h1 c1,RN h1 h0.objs.size d 0 es.size ep->KS h1 d es ep->h1.get? S=some (seqObj "list" #[] c1)->(∀b o,s.heap.get? b=some o->h1.get? b=some o)->codeAny (model prog w) A (.builtin "list.extend.loop" ⟨[.ref S,.ref h0.objs.size,.ref S],[]⟩) R' { s with heap:=h1 }:=λR' q h1 c1 a1 a2 a3 a4 =>Od hh lS (BK ld) (BK (NR ld lS)) hz _ es.size { s with heap:=h1 } [] c1 (by simp) a1 a2 (by simpa using a3) (λj a e=>by simp at e) CN λh' KJ c' q1 q0 q2 q3 q4=>q h' KJ c' q1 q0 (λb o e=>q2 b o (BK (low b o e)) (BK (NR (low b o e) lS)) (a4 b o e)) q3 q4;unfold Builtin.List.listExtendWith;refine ZR (wpAny_typeOf (T:="dict_items") (Heap.IsItemsView.typeIs (s:={ s with heap:=h0 }) lG) ?_);have n1:Builtin.List.listSameRef (.ref S) (.ref v)=false:=by simp[Builtin.List.listSameRef,EN lv]
 have n2:(Value.type "dict_items" == Value.type "list")=false:=by decide
 have n3:(Value.type "dict_items" == Value.type "tuple")=false:=by decide
 simp only[n1,n2,n3,Bool.or_false,CB,DV];refine ZR (Xe (s:={ s with heap:=h0 }) lG lV λh1 iw k1=>?_);refine ZR (EI (W.kdx_hint (s:={ s with heap:=h1 }) (let⟨o,e,c,_⟩:=lG;⟨o,k1 v o e,c⟩) ?_));have jb:=k1 _ _ gS;have loop:∀h2 c2,(∀b o,b≠S->h1.get? b=some o->h2.get? b=some o)->h2.get? S=some (seqObj "list" #[] c2) -> codeAny (model prog w) A (.builtin "list.extend.loop" ⟨[.ref S,.ref h0.objs.size,.ref S],[]⟩) (λq s'=>∃h' KJ c',q=.ok (.ret (.ref S))/\s'={ s with heap:=h' }/\KJ.length=es.size/\KJ.Nodup/\(∀b o,s.heap.get? b=some o->h'.get? b=some o)/\h'.get? S=some (seqObj "list" (KJ.map Value.ref).toArray c')/\VA h' h0.objs.size es KJ) { s with heap:=h2 }:=λh2 c2 k2 g2 =>fin _ (λh' KJ c' a1 a0 a2 a3 a4=>⟨h',KJ,c',rfl,rfl,a1,a0,a2,a3,a4⟩) h2 c2 (iw.to λo e=>k2 _ o (EN lS) e) (lV.at λo e=>k2 d o (BK ld) (k1 d o e)) g2 λb o e=>k2 b o (BK (low b o e)) (k1 b o (k0 b o e));refine wpAny_ite_split (λ_=>?_) (λ_=>ZS ⟨plainId_quiet EZ _,?_⟩);.refine ZR (wpAny_rule (ZR (m:=updateSeq S (·.push .none) >>= λ_=>updateSeq S (·.pop)) (ZR (wpAny_updateSeq jb rfl (wpAny_updateSeq (JU jb _) rfl (ZS ⟨plainId_quiet EZ _,?_⟩) ?_ ?_) ?_ ?_))));(.refine GX (loop _ _ (λb o hb e=>(CS _ _ (Ne.symm hb)).trans ((CS _ _ (Ne.symm hb)).trans e)) (JU (JU jb _) _)) λq s' y=>?_;obtain⟨h',KJ,c',rfl,rfl,a1,a0,a2,a3,a4⟩:=y;refine ZR (m:=load S) (wpAny_load a3 (ZS ?_));exact h h' KJ _ a1 a0 (by rw[<-hS];exact EO lS) a2 a4);all_goals (simp[seqObj,DL])
 .refine GX (loop h1 0 (λb o _ e=>e) jb) λq s' y=>?_;obtain⟨h',KJ,c',rfl,rfl,a1,a0,a2,a3,a4⟩:=y;refine ZR (m:=load S) (wpAny_load a3 (ZS ?_));exact h h' KJ _ a1 a0 (by rw[<-hS];exact EO lS) a2 a4
end
section
theorem Of:∀{vs:List Value} {ns:List Int},IntsAre vs ns->ItemsAre (intKind prog w) ns vs
 | _,_,.nil=>.nil
 | _,_,.cons n t r=>.cons (intKind_is prog w n t) (Of r)
theorem Xs(x:IsTup h a its)(y:IntsAre its.toList ns):IsTupleKey (intKind prog w) h ns a :=let⟨o,ho,hc,n,hd⟩:=x;⟨o,its,n,ho,hc,hd,Of y⟩
def LI(h:Heap)(a:Addr)(q:List Int×Int):Prop:=∃ka its t,V4 h a (.ref ka) (.int q.2 t)/\IsTup h ka its/\IntsAre its.toList q.1
theorem LI.to(k:∀b o,h.get? b=some o->o.cls=.type "tuple"->h'.get? b=some o)(x:LI h a q):LI h' a q :=let⟨ka,its,t,e1,⟨o,ho,hc,r⟩,e3⟩:=x;⟨ka,its,t,k _ _ e1 rfl,⟨o,k ka o ho hc,hc,r⟩,e3⟩
theorem Jed(hu:A.units<cLine)(x:LI s.heap a p)(y:LI s.heap b q)(same:p.1=q.1->p.2=q.2)(h:C (HT.lexLt p.1 q.1) s) : wpAny (model prog w) A (keyLt' (tuples' false) (.ref a) (.ref b)) C (λ_ _=>False) s:=by
 obtain⟨ka,its,t,e1,e2,e3⟩:=x;obtain⟨kb,jts,u,f1,f2,f3⟩:=y;refine W.kat_lt e1 rfl f1 rfl (W.kat_cons (wpAny_eqBool_tuple hu (Xs e2 e3) (Xs f2 f3) (W.kat_go (λe=>W.kat_yes (W.kat_cons (wpAny_eqBool_int (W.kat_go (λ_=>W.kat_yes (W.kat_nil ?_)) λz=>?_)))) λe=>W.kat_no (W.kat_one _ _ (HT.SR e2 f2 e3 f3 hu h)))));.have e:=BL e;rw[e,Mn] at h;exact h
 .rw[same (BL e)] at z;simp at z
def Hy(h:Heap):List Addr->List (List Int×Int)->Prop:=Paired (LI h)
theorem J0:∀{as:List Addr} {L:List (List Int×Int)},Hy h as L->∃fs:List Value,W.KatTups h (as.map Value.ref) fs/\fs.length=as.length/\∀v∈fs,∃ka its,v=Value.ref ka/\IsTup h ka its
 | _,_,.nil=>⟨[],trivial,rfl,λv hv=>by simp at hv⟩
 | _,_,.cons ⟨ka,its,t,e1,e2,e3⟩ r=>by obtain⟨fs,a1,a2,a3⟩:=J0 r;refine⟨.ref ka::fs,W.KatTups.cons e1 rfl rfl rfl a1,by simp[a2],λv hv=>?_⟩;rcases ZM hv with rfl|hv;(.exact⟨ka,its,rfl,e2⟩);.exact a3 v hv
theorem Pw(x:Hy h as L)(hi:i<as.length):∃a q,as[i]?=some a/\L[i]?=some q/\(as.map Value.ref).getD i .none=.ref a/\(L.map (·.1)).getD i []=q.1/\LI h a q:=by
 have hl:=Paired.length x;obtain⟨a,ha⟩:=Au (xs:=as) (j:=i) hi;obtain⟨q,hq⟩:=Au (xs:=L) (j:=i) (by lia);refine⟨a,q,ha,hq,?_,?_,Ax x i a q ha hq⟩;.rw[HD,ZH,ha];rfl
 .rw[HD,ZH,hq];rfl
theorem Ve(hu:A.units<cLine)(ho:s.heap.get? a=some (seqObj "list" (as.map Value.ref).toArray n))(UA:as.length<64)(x:Hy s.heap as L)(nd:(L.map (·.1)).Nodup)(h:∀q:List Nat,q.Perm (List.range as.length)->q.Pairwise (λi j=>HT.lexLt ((L.map (·.1)).getD i []) ((L.map (·.1)).getD j [])=true)->∀h' c,(∀b o,b≠a->s.heap.get? b=some o->h'.get? b=some o)->h'.get? a=some (seqObj "list" (q.map λi=>(as.map Value.ref).getD i .none).toArray c)->P (.done (.ret .none)) { s with heap:=h' }) : wpAny (model prog w) A (Builtin.«list.sort» ⟨[.ref a],[]⟩) P E s:=by
 have hl:=Paired.length x;have a_:(as.map Value.ref).length=as.length:=ZA ..;have key:∀i,i<as.length->∃h:i<(L.map (·.1)).length,(L.map (·.1)).getD i []=(L.map (·.1))[i]:=λi hi=>⟨by rw[ZA];lia,by simp[show i<L.length by lia]⟩;have one:∀i j,i<as.length->j<as.length->(L.map (·.1)).getD i []=(L.map (·.1)).getD j []->i=j:=λi j hi hj e=>by obtain⟨l1,e1⟩:=key i hi;obtain⟨l2,e2⟩:=key j hj;rw[e1,e2] at e;exact(JE nd).mp e
 refine P2 (lt:=λi j=>HT.lexLt ((L.map (·.1)).getD i []) ((L.map (·.1)).getD j [])) ho (by rw[a_];exact UA) ⟨λi j k _ _ _=>Sw,λi j hi hj SX e=>Sx (λz=>SX (one i j (by lia) (by lia) z)) e⟩ (λh2 h' kp Q hQ=>?_) (by rw[a_];exact h);have x':Hy h' as L:=As (λb q y=>y.to λb o e c=>kp b o (λz=>by rw[z,ho] at e;cases e;exact absurd (show Value.type "list"=Value.type "tuple" from c) (by decide)) e) x;obtain⟨fs,f1,f2,f3⟩:=J0 x';refine W.kat_kind (s:={ s with heap:=h' }) (T:=.type "tuple") f1 (by rw[f2];lia) (λv hv=>?_) rfl (hQ _ λi j hi hj C hC=>?_);.obtain⟨ka,its,rfl,o,e,c,_⟩:=f3 v hv;have z:W.Looks (model prog w) h' (typeOf (.ref ka)) o.cls:=(W.Looks.ld e).andThen .now;rw[c] at z;exact z
 .rw[a_] at hi hj;obtain⟨a1,q1,g1,g2,g3,g4,g5⟩:=Pw x' hi;obtain⟨a2,q2,k1,k2,k3,k4,k5⟩:=Pw x' hj;unfold W.kas_ask;rw[g3,k3];dsimp only at hC;rw[g4,k4] at hC;refine Jed (s:={ s with heap:=h' }) hu g5 k5 (λz=>?_) hC;have e:=one i j hi hj (by rw[g4,k4,z]);subst e;rw[g2] at k2;cases k2;rfl
end
def lay(H:Hp):List (Addr×List V)->Hp
 | []=>H
 | p::r=>upd (lay H r) p.1 (.BC p.2)
theorem Ta:∀{ps:List (Addr×List V)},b∉ps.map (·.1)->lay H ps b=H b
 | [],_=>rfl
 | p::r,h=>by have h1:b≠p.1:=λz=>h (by rw[z];exact ZL ..);show(upd (lay H r) p.1 (.BC p.2)) b=_;rw[Ab h1];exact Ta λz=>h (ZD _ z)
theorem Yu:∀{ps:List (Addr×List V)},(ps.map (·.1)).Nodup->∀p∈ps,lay H ps p.1=some (.BC p.2)
 | [],_,p,hp=>by cases hp
 | q::r,nd,p,hp=>by have KH:=AV.mp nd;rcases ZM hp with rfl|hp;(.exact Ac);.have ne:p.1≠q.1:=λz=>KH.1 (AI.mpr ⟨p,hp,z⟩);show(upd (lay H r) q.1 (.BC q.2)) p.1=_;rw[Ab ne];exact Yu KH.2 p hp
section
def uZ(X:Cx)(AA:List (Addr×Obj))(a:Addr):Prop:=X.GQ.heap.get? a=none/\a≠X.env.locals/\(∀x c,X.env.cells.lookup x=some c->c≠a)/\∀p∈X.pn++AA,p.1≠a
theorem Jl8(I:Inv X AA σ H s)(h:s.heap.objs.size<=a):uZ X AA a :=let x:=I.UM (H':=λ_=>none) h rfl;⟨Heap.get?_none_of_le (BE I.sz h),x.2.1,x.2.2.2.2.1,x.2.2.2.2.2⟩
theorem Y1:∀{ps:List (Addr×List V)},Inv X AA σ H s->(ps.map (·.1)).Nodup->(∀p∈ps,uZ X AA p.1/\H p.1=none/\∀H',CZ X.prog X.w H' s.heap p.1 (.BC p.2))->Inv X AA σ (lay H ps) s
 | [],I,_,_=>I
 | p::r,I,nd,h=>by have KH:=AV.mp nd;obtain⟨⟨a1,a2,a3,a4⟩,a5,a6⟩:=h p (ZL ..);exact Jae (Y1 I KH.2 λq hq=>h q (ZD _ hq)) (by rw[Ta KH.1];exact a5) a1 a2 a3 a4 (a6 _)
end
def RecAt(H:Hp)(a:Addr)(q:T2×Int):Prop:=∃ka,H a=some (.BC [.ref ka,.int q.2])/\H ka=some (.BC (tv q.1))
theorem vH{P:Program}{w:World}{H:Hp}{h1:Heap}{n:Nat}:∀{as:List Addr} {L:List (T2×Int)},Paired (λa q=>n<=a/\∃ka t,V4 h1 a (.ref ka) (.int q.2 t)/\H ka=some (.BC (tv q.1))) as L -> ∃ps:List (Addr×List V),ps.map (·.1)=as/\(∀p∈ps,n<=p.1/\∀H',CZ P w H' h1 p.1 (.BC p.2))/\Paired (λp q=>∃ka,p.2=[.ref ka,.int q.2]/\H ka=some (.BC (tv q.1))) ps L
 | _,_,.nil=>⟨[],rfl,λp hp=>by(cases hp),.nil⟩
 | a::_,q::_,.cons ⟨la,ka,t,e1,e2⟩ r=>by obtain⟨ps,b1,b2,b3⟩:=vH (P:=P) (w:=w) r;refine⟨(a,[.ref ka,.int q.2])::ps,by rw[AK,b1],λp hp=>?_,.cons ⟨ka,rfl,e2⟩ b3⟩;rcases ZM hp with rfl|hp;(.exact⟨la,λH'=>⟨by show 2<=sizeLine;rw[DL];lia,[.ref ka,.int q.2 t],.cons rfl (.cons ⟨t,rfl⟩ .nil),⟨_,e1,rfl,_,rfl⟩⟩⟩);.exact b2 p hp
section
variable {X:Cx}
theorem Kr(hc:X.calm=true)(hu:X.A.units+64<cLine):Fm X (.builtin "sorted") (λxs H Q=>∃v d,∃L rs:List (T2×Int),xs=[.ref v]/\H v=some (Ti v d)/\H d=some (Cf L)/\L.length<64/\rs.Perm L/\(rs.map (·.1)).Pairwise IS /\ ∀(r:Addr)(as:List Addr)(H':Hp),Bi H H'->H r=none->H' r=some (.BI (as.map V.ref))->Paired (RecAt H') as rs->Q (.ref r) H'):=by
 intro AA s σ H xs us Q I rv h;obtain⟨v,d,L,rs,rfl,hv,hd,UA,pm,pw,q⟩:=h;obtain⟨u,rfl,rx⟩:=vals1 rv;cases rx;obtain⟨z,lo,ys,rel,o,es,ep,g1,g2,g3,g4,g5⟩:=(show CZ X.prog X.w H s.heap d (Cf L) from I.CT d _ hd);have vw:s.heap.IsItemsView v d:=(I.CT v _ hv).1;have yf:es.size=ys.length:=IU g4;have yB:ys.length=L.length:=by have:=Paired.length rel;rw[ZA] at this;exact this.symm
 have ent:∀(j:Nat)(e:DictEntry)(q:T2×Int),es[j]?=some e->L[j]?=some q->∃ka t,e.key=.ref ka/\e.val=.int q.2 t/\H ka=some (.BC (tv q.1)):=λj e q h1 h2=>by rw[entry_at g4 j] at h1;cases hy:ys[j]? with | none=>rw[hy] at h1;cases h1 | some y =>rw[hy] at h1;cases h1;obtain⟨r1,r2,r3⟩:=Ax rel j (tk q.1,V.int q.2) y (by rw[ZH,h2];rfl) hy;obtain⟨t,r3⟩:=r3;exact⟨y.2.1,t,rfl,r3,r2⟩
 have xP:(L.map (·.1)).Nodup:=(pm.map (·.1)).nodup_iff.mp (List.Pairwise.imp (λ{a b} (h:IS a b) (z:a=b)=>by rw[E3,z] at h;lia) pw);refine NU kind_sorted plain_sorted entry_sorted (args_sorted1 _) (by unfold Builtin.«sorted»;refine ZR (m:=checkCount "sorted" 1 1 _) (ZS (ZR (Pf (show _ from I.ok.hd hc) vw ⟨o,g1,g2,g3⟩ (by rw[yf,yB,DL];lia) λh1 as it hl jN hit kp wU=>?_)));have I1:Inv X AA σ H { s with heap:=h1,toks:=s.toks }:=I.kept kp;(have YX:as.length=L.length:=by lia);(have sQ:Paired (λa q=>s.heap.objs.size<=a/\∃ka t,V4 h1 a (.ref ka) (.int q.2 t)/\H ka=some (.BC (tv q.1))) as L:=Ei YX λj a q e1 e2=>by obtain⟨la,e,e3,e4⟩:=wU j a e1;obtain⟨ka,t,k1,k2,k3⟩:=ent j e q e3 e2;rw[k1,k2] at e4;exact⟨EO (IB hit la),ka,t,e4,k3⟩);obtain⟨ps,b1,b2,b3⟩:=vH (P:=X.prog) (w:=X.w) sQ;have cu:∀a,s.heap.objs.size<=a->H a=none:=λa ha=>I.CT.fresh ha;have I2:Inv X AA σ (lay H ps) { s with heap:=h1,toks:=s.toks }:=Y1 I1 (by rw[b1];exact jN) λp hp=>⟨Jl8 I (b2 p hp).1,cu _ (b2 p hp).1,(b2 p hp).2⟩;(have sm:Bi H (lay H ps):=λb ob e=>by rw[Ta (λz=>?_)];(.exact e);.obtain⟨p,hp,rfl⟩:=ZN z;rw[cu _ (b2 p hp).1] at e;cases e);(have oF:Paired (RecAt (lay H ps)) as L:=by rw[<-b1];refine Ei (by rw[ZA];exact Paired.length b3) λj a q e1 e2=>?_;rw[ZH] at e1;cases hp:ps[j]? with | none=>rw[hp] at e1;cases e1 | some p =>rw[hp] at e1;cases e1;obtain⟨ka,k1,k2⟩:=Ax b3 j p q hp e2;exact⟨ka,by rw[Yu (by rw[b1];exact jN) p (ZP hp),k1],sm _ _ k2⟩);(have oJ:Hy h1 as (L.map λq=>(([q.1.1,q.1.2]:List Int),q.2)):=Ei (by rw[ZA];exact YX) λj a q e1 e2=>by rw[ZH] at e2;cases hq:L[j]? with | none=>rw[hq] at e2;cases e2 | some q0 =>rw[hq] at e2;cases e2;obtain⟨_,ka,t,k1,k2⟩:=Ax sQ j a q0 e1 hq;obtain⟨its,rv,xy,_⟩:=I1.tuple (CL.of (K:=X.K) k2);exact⟨ka,its.toArray,t,k1,xy,by simpa using intsAre_of (ns:=[q0.1.1,q0.1.2]) rv⟩);(have eK:(L.map λq=>(([q.1.1,q.1.2]:List Int),q.2)).map (·.1)=L.map λq=>[q.1.1,q.1.2]:=by rw[AR];rfl);(have xQ:((L.map λq=>(([q.1.1,q.1.2]:List Int),q.2)).map (·.1)).Nodup:=by (have e:(L.map λq=>([q.1.1,q.1.2]:List Int))=(L.map (·.1)).map λt=>[t.1,t.2]:=by rw[AR];rfl);rw[eK,e];exact List.Pairwise.map _ (λa b h z=>h (by obtain⟨a1,a2⟩:=a;obtain⟨c1,c2⟩:=b;simp at z;rw[z.1,z.2])) xP);refine ZR (wpAny_newList ?_ (by rw[ZA,DL];lia));have g1:(h1.push (seqObj "list" (as.map Value.ref).toArray 0)).get? h1.objs.size=some (seqObj "list" (as.map Value.ref).toArray 0):=ZU _ rfl;have oI:Hy (h1.push (seqObj "list" (as.map Value.ref).toArray 0)) as (L.map λq=>(([q.1.1,q.1.2]:List Int),q.2)):=As (λa q y=>y.to λb o e _=>ZT _ e) oJ;refine ZR (EI (CY slot_list_sort ⟨_,g1,rfl⟩ entry_list_sort (Ve (by show X.A.units+1+1<cLine;lia) g1 (by lia) oI xQ λp pp po h2 c kh e=>⟨_,rfl,?_⟩) (args_list_sort _)));have hn:H h1.objs.size=none:=I1.CT.fresh (ZG _);have aF:lay H ps h1.objs.size=none:=I2.CT.fresh (ZG _);have inr:∀i∈p,i<as.length:=λi hi=>BQ.mp (pp.mem_iff.mp hi);(have eR:p.map (λi=>L.getD i ((0,0),0))=rs:=by refine Ij (lt:=λa b:T2×Int=>IS a.1 b.1) (λa z=>by rw[E3] at z;lia) (λa b h1 h2=>by rw[E3] at h1 h2;lia) ?_ ?_ (by rw[<-EG (f:=λq:T2×Int=>q.1) (R:=IS)];exact pw);(·(have e2:(List.range as.length).map (λi=>L.getD i ((0,0),0))=L:=by refine LV λj=>?_;rw[ZH];by_cases hj:j<L.length;(.rw[show(List.range as.length)[j]?=some j by simp[YX,hj]];simp[hj]);.rw[show(List.range as.length)[j]?=none by simp[YX];lia,CC (by lia)];rfl);have e7:=pp.map λi=>L.getD i ((0,0),0);rw[e2] at e7;exact e7.trans pm.symm);.rw[EG];refine List.Pairwise.imp_of_mem (λ{i j} hi hj z=>?_) po;have li:=inr i hi;have lj:=inr j hj;rw[eK] at z;simpa [IS,show i<L.length by lia,show j<L.length by lia] using z);(have eV:(p.map λi=>(as.map Value.ref).getD i .none)=(p.map λi=>as.getD i 0).map Value.ref:=by rw[AR];refine BY λi hi=>?_;have:=inr i hi;simp[this]);(have oE:Paired (RecAt (upd (lay H ps) h1.objs.size (.BI ((p.map λi=>as.getD i 0).map V.ref)))) (p.map λi=>as.getD i 0) rs:=by rw[<-eR];refine Ei (by rw[ZA,ZA]) λj a q e1 e2=>?_;rw[ZH] at e1 e2;cases hp:p[j]? with | none=>rw[hp] at e1;cases e1 | some i =>rw[hp] at e1 e2;cases e1;cases e2;have li:=inr i (ZP hp);obtain⟨ka,k1,k2⟩:=Ax oF i (as.getD i 0) (L.getD i ((0,0),0)) (by simp[li]) (by simp[show i<L.length by lia]);exact⟨ka,Ai aF _ _ k1,Ai aF _ _ k2⟩);refine ZS ⟨_,rfl,.ref h1.objs.size,_,I2.laid (a:=h1.objs.size) (o:=.BI ((p.map λi=>as.getD i 0).map V.ref)) (t':=s.toks) (λb o hb=>kh b o (BK (AU hb)) (ZT _ hb)) (ZG _) ⟨?_,(p.map λi=>as.getD i 0).map Value.ref,c,Ky _,?_⟩,rfl,q _ (p.map λi=>as.getD i 0) _ (Am sm (Ai aF)) hn Ac oE⟩;(.rw[ZA,ZA,pp.length_eq,BV,DL];lia);.rw[<-eV];exact e)
end
theorem N5(f:α->β):∀(xs:List α)(j:Nat),(xs.map f).eraseIdx j=(xs.eraseIdx j).map f
 | [],_=>rfl
 | _::_,0=>rfl
 | x::xs,j+1=>congrArg (f x :: ·) (N5 f xs j)
section
variable {prog:Program}{w:World}{K:Type}[DecidableEq K]{knd:HeapKind prog w K}{A:Around}{E:Value->Shared->Prop}{s:Shared}
theorem Qz{d a:Addr}{xs:List (K×Addr×Value)}{k:K}{p:Addr×Value}{j:Nat}{Q:Option DictEntry->Shared->Prop}(hu:knd.room A)(UL:knd.is s.heap k a)(hm:s.heap.DictOfH knd d xs)(hz:xs.length<=sizeLine)(hj:xs[j]?=some (k,p))(hQ:∀h' o es ep,h'.get? d=some o->o.ExactDict->o.data=.dict es ep->es.toList=(xs.eraseIdx j).map (entryOfKey knd)->Heap.SameBut d s.heap h'->Q (some (entryOfKey knd (k,p))) { s with heap:=h',toks:=s.toks+knd.draws k }) : wpAny (model prog w) A (Builtin.Dict.takeOut d (.ref a)) Q E s:=by
 obtain⟨o,es,ep,ho,hc,hd,he,rq,hn⟩:=hm;unfold Builtin.Dict.takeOut;refine EI (ZR (knd.pyHash hu UL (ZR (wpAny_dictFind_heap (s:={ s with toks:=s.toks+knd.draws k }) hu UL ho hd he rq hn (λno=>absurd hj (no j p)) λi q hi=>?_))));obtain rfl:=idxH_unique hn hi hj;rw[hj] at hi;cases hi;refine ZR (BX (s:={ s with toks:=s.toks+knd.draws k }) ho hd ?_);rw[entry_at he i,hj];refine ZR (wpAny_updateDictKeys (hz:=by rw[IU he];exact hz) (s:={ s with toks:=s.toks+knd.draws k }) ho hd (ZS (hQ _ _ _ _ (FD _ ho (LQ (FQ hd _))) (hc.mapDictKeys _) (FQ hd _) ?_ (Heap.SameBut.update ..))));have e1:(es.eraseIdxIfInBounds i).toList=es.toList.eraseIdx i:=by simp
 rw[e1,he];exact N5 _ _ _
theorem Jbq{d a:Addr}{xs:List (K×Addr×Value)}{k:K}{p:Addr×Value}{j:Nat}{Q:PySem.Fin->Shared->Prop}(hu:knd.room A)(UL:knd.is s.heap k a)(hm:s.heap.DictOfH knd d xs)(hz:xs.length<=sizeLine)(hj:xs[j]?=some (k,p))(hQ:∀h' o es ep,h'.get? d=some o->o.ExactDict->o.data=.dict es ep->es.toList=(xs.eraseIdx j).map (entryOfKey knd)->Heap.SameBut d s.heap h'->Q (.done (.ret p.2)) { s with heap:=h',toks:=s.toks+knd.draws k }) : wpAny (model prog w) A (Builtin.«dict.pop» ⟨[.ref d,.ref a],[]⟩) Q E s:=by
 have ty:=hm.typeIs;obtain⟨o,es,ep,ho,hc,hd,he,rq,hn⟩:=id hm;have ne:es.isEmpty=false:=by have h1:=IU he;have h2:j<xs.length:=(ZJ hj).1;cases h3:es.isEmpty with | false=>rfl | true=>rw[JH] at h3;lia
 unfold Builtin.«dict.pop» Builtin.Dict.keyAndDefault;refine ZR (ZR (HJ ty (ZS ?_)));dsimp only;rw[AB (show ¬(keyPart (Value.ref a)).isSome=true from AL)];refine ZR (BX ho hd (ZR (ZS ?_)));rw[AB (by rw[ne];exact AL)];refine ZR (Qz hu UL hm hz hj λh' o' bE bF a1 a2 a3 a4 a5=>?_);exact ZR (wpAny_letGo (ZS (hQ h' o' bE bF a1 a2 a3 a4 a5)))
end
section
variable [DecidableEq κ]
theorem Ow:∀{kvs:List (κ×V)} {k:κ} {v:V} {j:Nat},(kvs.map (·.1)).Nodup->kvs[j]?=some (k,v)->Da kvs k=kvs.eraseIdx j
 | [],_,_,j,_,h=>by simp at h
 | p::r,k,v,0,nd,h=>by (have h:p=(k,v):=by simpa using h);have KH:=AV.mp nd;rw[Jap (by rw[h]),Oy (by rw[h] at KH;exact KH.1)];rfl
 | p::r,k,v,j+1,nd,h=>by (have h:r[j]?=some (k,v):=by simpa using h);have KH:=AV.mp nd;have ne:¬p.1=k:=λz=>KH.1 (AI.mpr ⟨(k,v),ZP h,z.symm⟩);rw[Qn ne,Ow KH.2 h];rfl
theorem Xr:∀{kvs:List (κ×V)} {k:κ} {v:V},B9 kvs k=some v->∃j:Nat,kvs[j]?=some (k,v)
 | [],k,v,h=>by cases h
 | p::r,k,v,h=>by by_cases e:p.1=k;(.rw[Jf e] at h;exact⟨0,by rw[<-e,<-ZO h];rfl⟩);.rw[Jg e] at h;obtain⟨j,hj⟩:=Xr h;exact⟨j+1,by simpa using hj⟩
end
section
variable {X:Cx}{AA:List (Addr×Obj)}{σ:L2.St}{H:Hp}{s:Shared}{A:Around}{E:Value->Shared->Prop}{a b:Addr}
theorem Oc:∀{kvs:List (List Key×V)} {xs:List (List Key×Addr×Value)},KT H kvs xs->xs.map (·.1)=kvs.map (·.1)
 | _,_,.nil=>rfl
 | _,_,.cons r t=>by rw[AK,AK,Oc t,r.1]
theorem Jhd{kvs:List (List Key×V)}{k:List Key}{v:V}{Q:Value->Shared->Prop}(hu:A.units+1<cLine)(I:Inv X AA σ H s)(e:H a=some (.dT kvs))(eb:H b=some (.BC (k.map kV)))(l:B9 kvs k=some v)(h:∀w' s',Inv X AA σ (upd H a (.dT (Da kvs k))) s'->RelV v w'->Q w' s'):wpAny (model X.prog X.w) A (call (.builtin "dict.pop") [.ref a,.ref b]) Q E s:=by
 obtain⟨z,hd,xs,rel,dd⟩:=Qm I.CT e;have hz:xs.length<=sizeLine:=by rw[<-Paired.length rel];exact z
 obtain⟨j,hj⟩:=Xr l;have yb:j<xs.length:=by rw[<-Paired.length rel];exact(ZJ hj).1
 obtain⟨x,hx⟩:=Au yb;obtain⟨r1,r2,r3⟩:=Ax rel j _ _ hj hx;obtain⟨k',p⟩:=x;have r1:k=k':=r1;subst r1;have nd:(kvs.map (·.1)).Nodup:=by obtain⟨_,_,_,_,_,_,_,_,nd⟩:=id dd;rw[<-Oc rel];exact nd
 have Z':((xs.eraseIdx j).map (·.1)).Nodup:=by rw[<-N5,Oc rel];exact nd.sublist (List.eraseIdx_sublist _ _)
 refine CY IY dd.typeIs PySem.F.entry_dict_pop (Jbq (EF hu) (He I.CT eb) dd hz hx λh' o es ep a1 a2 a3 a4 a5=>⟨_,rfl,h _ _ ?_ r3⟩) (PySem.F.args_dict_pop_2 _ _);rw[Ow nd hj];refine Ko I (by rw[e];exact True.intro) a5 ⟨o,a1⟩ ⟨?_,hd,xs.eraseIdx j,KT.keeps (J3 j rel) λc ys ec=>?_,o,es,ep,a1,a2,a3,a4,Z'⟩;.exact BE (by rw[List.length_eraseIdx];split<;>lia) z
 .rw[Ab (Np ec e (λz=>nomatch z))];exact ec
def Jf8(td ty:TE):TE:=λσ H Q=>td σ H λx H1=>∃a,x=.ref a/\gA H1 a/\ty σ H1 λy H2=>∃kvs k v b,H2 a=some (.dT kvs)/\y=.ref b/\H2 b=some (.BC (k.map kV))/\B9 kvs k=some v/\Q v (upd H2 a (.dT (Da kvs k)))
theorem Fb(hu:X.A.units+1<cLine)(ho:PE X o td)(he:PE X e ty)(m:M1 X o "pop" apos e FV):PE X (.Call (.Attribute o "pop" apos) [e] [] FV) (Jf8 td ty):=by intro AA s σ H Q I h;refine OC m.base m.fE m.line CK IY PySem.F.type_dict_pop (DU (ho AA s σ H _ I h) ?_);rintro u s1 ⟨x,H1,I1,rx,a,ex,d,q1⟩;subst ex;obtain rfl:u=Value.ref a:=rx;obtain⟨t1,t2,_⟩:=Tl I1 d;refine⟨t1,t2,?_⟩;rw[m.trees];refine EY rfl (FR (GZ (DU (he AA s1 σ H1 _ I1 q1) λiv s2 ⟨y,H2,I2,ry,kvs,k,v,b,ea,ey,eb,l,q2⟩=>JR ?_)));subst ey;obtain rfl:iv=Value.ref b:=ry;exact Jhd hu I2 ea eb l λw' s3 I3 OZ=>⟨v,_,I3,OZ,q2⟩
end
def Gz(l:List (T2×Addr×List T2))(a:Addr)(h:List T2):List (T2×Addr×List T2):=l.map λq=>if q.2.1=a then(q.1,a,h) else q
theorem Nd(l:List (T2×Addr×List T2))(a:Addr)(h:List T2):(Gz l a h).map (·.2.1)=l.map (·.2.1):=by
 unfold Gz;rw[AR];refine BY λq _=>?_;show(if q.2.1=a then(q.1,a,h) else q).2.1=q.2.1;by_cases e:q.2.1=a;.rw[AE e];exact e.symm
 .rw[AB e]
theorem Jbd(l:List (T2×Addr×List T2))(a:Addr)(h:List T2):(Gz l a h).map (λq=>(tk q.1,V.ref q.2.1))=l.map λq=>(tk q.1,V.ref q.2.1):=by
 unfold Gz;rw[AR];refine BY λq _=>?_;show(tk (if q.2.1=a then(q.1,a,h) else q).1,V.ref (if q.2.1=a then(q.1,a,h) else q).2.1)=_;by_cases e:q.2.1=a;.rw[AE e,<-e]
 .rw[AB e]
theorem Jco(m:q∈Gz l a h):(∃q0∈l,q0.2.1=a/\q=(q0.1,a,h))\/(q∈l/\q.2.1≠a):=by
 unfold Gz at m;obtain⟨q0,h0,e⟩:=ZN m;by_cases e1:q0.2.1=a;.rw[AE e1] at e;exact .inl ⟨q0,h0,e1,e.symm⟩
 .rw[AB e1] at e;rw[<-e];exact .inr ⟨h0,e1⟩
section
theorem AQ.TQ(x:AQ C H p G)(hq:q∈G.holds)(l:List T2):AQ C (upd H q.2.1 (A9 l)) p { G with holds:=Gz G.holds q.2.1 l }:=by
 obtain⟨_,_,_,d1⟩:=x.TY;obtain⟨n1,n2,n3,n4⟩:=d1 q hq;have mem:q.2.1∈BG G:=by unfold BG;exact ZD _ (ZD _ (ZD _ (ZD _ (BD hq))))
 have np:=x.OK mem;obtain⟨dx,e⟩:=x.ob;refine⟨⟨dx,by rw[Ab np.symm];exact e⟩,by rw[Ab n1.symm];exact x.dh,by rw[Ab n2.symm];exact x.dO,?_,by rw[Ab n4.symm];exact x.dr,λr hr=>?_,?_⟩;.rw[Ab n3.symm];show H G.l=some (.dT ((Gz G.holds q.2.1 l).map λq=>(tk q.1,V.ref q.2.1)));rw[Jbd];exact x.dl
 .rcases Jco hr with⟨q0,_,e1,e2⟩|⟨h1,h2⟩;(.rw[e2];exact Ac);.rw[Ab h2];exact x.hl r h1
 ·(have e2:BG { G with holds:=Gz G.holds q.2.1 l }=BG G:=by unfold BG;rw[Nd]);rw[e2];exact x.nd
end
def Bt(l:List T2)(t:T2):List T2:=if t∈l then l else l++[t]
def Gp(l:List T2)(t:T2):List T2:=l.filter λu=>decide (u≠t)
theorem Jal(l:List T2)(t:T2):l.find? (λq=>decide (q=t))=if t∈l then some t else none:=by
 by_cases h:t∈l;.rw[AE h];cases e:l.find? λq=>decide (q=t) with | none=>exact absurd (BA.mp e t h) (by simp) | some u =>have:=DK e;(have:u=t:=by simpa using this);rw[this]
 .rw[AB h];exact BA.mpr λu hu=>by have:¬u=t:=λz=>h (z▸hu);simpa using this
theorem Fs(l:List T2)(t:T2):B9 (l.map λq=>(tk q,V.bl true)) (tk t)=if t∈l then some (V.bl true) else none:=by
 rw[Dk (k:=λq:T2=>q) (f:=λ_=>V.bl true),Jal];by_cases h:t∈l;.rw[AE h,AE h];rfl
 .rw[AB h,AB h];rfl
theorem Eh(l:List T2)(t:T2):putK (l.map λq=>(tk q,V.bl true)) (tk t) (V.bl true)=(Bt l t).map λq=>(tk q,V.bl true):=by
 unfold Bt;by_cases h:t∈l;.rw[AE h];unfold putK;rw[Jh,Fs,AE h,AE (show(some (V.bl true)).isSome=true from rfl),AR];refine BY λq _=>?_;show(if tk q=tk t then(tk q,V.bl true) else(tk q,V.bl true))=_;by_cases e:tk q=tk t;(.rw[AE e]);.rw[AB e]
 .rw[AB h,Hm (k:=λq:T2=>q) (f:=λ_=>V.bl true) _ (λq hq z=>h (by rw[<-z];exact hq)),ZF];rfl
theorem Ff(l:List α)(k:α->T2)(f:α->V)(t:T2):Da (l.map λq=>(tk (k q),f q)) (tk t)=(l.filter λq=>decide (k q≠t)).map λq=>(tk (k q),f q):=by
 unfold Da;rw[OF];congr 1;refine IL λq _=>?_;show decide (tk (k q)≠tk t)=decide (k q≠t);by_cases e:k q=t;.rw[e];simp
 .have e2:¬tk (k q)=tk t:=λz=>e (V7 z);simp[e,e2]
def Ba(l:List (T2×Int))(t:T2)(v:Int):List (T2×Int):=if t∈l.map (·.1) then l.map λq=>if q.1=t then(q.1,v) else q else l++[(t,v)]
theorem Df(l:List (T2×Int))(t:T2)(v:Int):putK (l.map λq=>(tk q.1,V.int q.2)) (tk t) (V.int v)=(Ba l t v).map λq=>(tk q.1,V.int q.2):=by
 unfold Ba;by_cases h:t∈l.map (·.1);.rw[AE h];unfold putK;(have e1:((l.map λq=>(tk q.1,V.int q.2)).any λkv=>decide (kv.1=tk t))=true:=by obtain⟨q,hq,e⟩:=ZN h;exact JF.mpr ⟨(tk q.1,V.int q.2),BD hq,by simp[e]⟩);rw[e1,AE rfl,AR,AR];refine BY λq _=>?_;show(if tk q.1=tk t then(tk q.1,V.int v) else(tk q.1,V.int q.2))=(tk (if q.1=t then(q.1,v) else q).1,V.int (if q.1=t then(q.1,v) else q).2);by_cases e:q.1=t;(.rw[AE e,AE (by rw[e])]);.rw[AB e,AB λz=>e (V7 z)]
 .rw[AB h,Hm (k:=λq:T2×Int=>q.1) (f:=λq=>V.int q.2) _ λq hq z=>h (AI.mpr ⟨q,hq,z⟩),ZF];rfl
section
end
noncomputable def isT (H:Hp) (tb:T2):Value->Bool
 | .ref a=>@decide (H a=some (.BC (tv tb))) (Classical.propDecidable _)
 | _=>false
section
end
section
variable {prog:Program}{w:World}{A:Around}{R:Result->Shared->Prop}{s:Shared}{l:Addr}{items:Array Value}{n:Nat}{x:Value}
end
section
end
section
end
section
end
theorem ug:¬(("latest":Str)="waiting"):=ZV
def Ef(c:Int)(d:Addr):List (Str×V):=Aq "waiting" (.ref d) (Aq "latest" (.int c) [])
theorem Uu(c:Int)(d:Addr):Ef c d=([("latest",V.int c),("waiting",V.ref d)]:List (Str×V)):=by grind [Aq,V,ug,Ef]
theorem E1(c:Int)(d:Addr):(Ef c d).lookup ("latest":Str)=some (.int c):=by unfold Ef;rw[A8,AB ug,A8,AE rfl]
theorem Em(c:Int)(d:Addr):(Ef c d).lookup ("waiting":Str)=some (.ref d):=by unfold Ef;rw[A8,AE rfl]
theorem C8(c:Int)(d:Addr){m:Str}(h1:¬m="waiting")(h2:¬m="latest"):(Ef c d).lookup m=none:=by unfold Ef;rw[A8,AB h1,A8,AB h2];all_goals rfl
theorem Zy(c y:Int)(d:Addr):Aq "latest" (.int y) (Ef c d)=Ef y d:=by grind [Uu,V,Aq,Ef]
def kvsOf(ls:List (Int×Addr)):List (Key×V):=ls.map λl=>(Sum.inl l.1,V.ref l.2)
structure HF(C:Addr)(H:Hp)(p d:Addr)(c:Int)(ls:List (Int×Addr)):Prop where
 ob:∃dx,H p=some (.ins C dx (Ef c d))
 dc:H d=some (.dK (kvsOf ls))
 le:∀l∈ls,l.1<=c
 nd:(ls.map (·.1)).Nodup
theorem HF.keep(x:HF C H p d c ls)(h1:∀o,H p=some o->H' p=some o)(h2:∀o,H d=some o->H' d=some o):HF C H' p d c ls :=⟨let⟨dx,e⟩:=x.ob;⟨dx,h1 _ e⟩,h2 _ x.dc,x.le,x.nd⟩
theorem HF.ne(x:HF C H p d c ls):p≠d:=by obtain⟨dx,e⟩:=x.ob;exact Np e x.dc (by intro z;cases z)
theorem Kd(ls:List (Int×Addr)):(kvsOf ls).length=ls.length:=ZA ..
theorem Kc:B9 (kvsOf ls) (Sum.inl n)=(ls.find? λl=>decide (l.1=n)).map λl=>V.ref l.2:=by
 unfold B9 kvsOf;rw[List.find?_map,Option.map_map];congr 1;congr 1;funext l;show decide ((Sum.inl l.1:Key)=Sum.inl n)=decide (l.1=n);by_cases e:l.1=n;.rw[e];simp
 .rw[AG e,AG λz=>e (Sum.inl.inj z)]
theorem Jg2(h:∀l∈ls,l.1≠n):B9 (kvsOf ls) (Sum.inl n)=none:=by rw[Kc,BA.mpr λl hl=>by simpa using h l hl];rfl
theorem Vr{l1 l2:List (Int×Addr)}{n:Int}{t:Addr}(nd:((l1++(n,t)::l2).map (·.1)).Nodup):(l1++(n,t)::l2).find? (λl=>decide (l.1=n))=some (n,t):=by
 rw[ZF,AK] at nd;have h:∀l∈l1,¬l.1=n:=λl hl e=>by have:=(AO.mp nd).2.2 l.1 (BD hl) n (ZL ..);exact this e
 rw[List.find?_append];have e1:l1.find? (λl=>decide (l.1=n))=none:=BA.mpr λl hl=>by simpa using h l hl
 rw[e1];simp
theorem Vx(nd:((l1++(n,t)::l2).map (·.1)).Nodup):Da (kvsOf (l1++(n,t)::l2)) (Sum.inl n)=kvsOf (l1++l2):=by
 rw[ZF,AK] at nd;have h1:∀l∈l1,¬l.1=n:=λl hl e=>(AO.mp nd).2.2 l.1 (BD hl) n (ZL ..) e;have h2:∀l∈l2,¬l.1=n:=λl hl e=>(AV.mp (AO.mp nd).2.1).1 (by have m:=BD (f:=λx:Int×Addr=>x.1) hl;rw[e] at m;exact m);have all:∀ls:List (Int×Addr),(∀l∈ls,¬l.1=n)->Da (kvsOf ls) (Sum.inl n:Key)=kvsOf ls:=λls h=>by refine Oy λm=>?_;unfold kvsOf at m;rw[AR] at m;obtain⟨l,hl,e⟩:=ZN m;exact h l hl (Sum.inl.inj e)
 unfold kvsOf;rw[ZF,AK,ZF];unfold Da;rw[ID,DC];have e0:decide (((Sum.inl (n,t).1,V.ref (n,t).2):Key×V).1≠Sum.inl n)=false:=by simp
 rw[e0];have a1:=all l1 h1;have a2:=all l2 h2;unfold Da kvsOf at a1 a2;rw[a1,a2];rfl
theorem Tb(h:∀l∈ls,l.1≠n):putK (kvsOf ls) (Sum.inl n:Key) (V.ref t)=kvsOf (ls++[(n,t)]):=by rw[Fz _ (Jg2 h)];unfold kvsOf;rw[ZF];rfl
structure FZ where
 share:Int
 hs:Addr
 po:Addr
 iq:Addr
 fi:Addr
 en:Addr
 pd:Addr
 c:Int
 ls:List (Int×Addr)
 qs:List (Addr×BS)
 JX:List (Int×Addr)
 IG:List (Int×Addr)
 ED:List (Int×Addr)
theorem Gx:¬(("houses":Str)="share"):=ZV
theorem Jb:¬(("post":Str)="share"):=ZV
theorem Ib:¬(("post":Str)="houses"):=ZV
theorem Lm:¬(("inquiries":Str)="share"):=ZV
theorem Jc:¬(("inquiries":Str)="houses"):=ZV
theorem Mv:¬(("inquiries":Str)="post"):=ZV
theorem Ic:¬(("finds":Str)="share"):=ZV
theorem Gy:¬(("finds":Str)="houses"):=ZV
theorem Jd:¬(("finds":Str)="post"):=ZV
theorem Ln:¬(("finds":Str)="inquiries"):=ZV
theorem Lo:¬(("enclosed":Str)="share"):=ZV
theorem Je:¬(("enclosed":Str)="houses"):=ZV
theorem Mw:¬(("enclosed":Str)="post"):=ZV
theorem Ph:¬(("enclosed":Str)="inquiries"):=ZV
theorem Lp:¬(("enclosed":Str)="finds"):=ZV
def Ed(W:FZ):List (Str×V):=[("share",.int W.share),("houses",.ref W.hs),("post",.ref W.po),("inquiries",.ref W.iq),("finds",.ref W.fi),("enclosed",.ref W.en)]
theorem Gw(W:FZ):(Ed W).lookup ("share":Str)=some (.int W.share):=by unfold Ed;rw[F7]
theorem Dc(W:FZ):(Ed W).lookup ("houses":Str)=some (.ref W.hs):=by unfold Ed;rw[Bn Gx,F7]
theorem Dz(W:FZ):(Ed W).lookup ("post":Str)=some (.ref W.po):=by unfold Ed;rw[Bn Jb,Bn Ib,F7]
theorem Mu(W:FZ):(Ed W).lookup ("inquiries":Str)=some (.ref W.iq):=by unfold Ed;rw[Bn Lm,Bn Jc,Bn Mv,F7]
theorem Jax(W:FZ):(Ed W).lookup ("finds":Str)=some (.ref W.fi):=by unfold Ed;rw[Bn Ic,Bn Gy,Bn Jd,Bn Ln,F7]
theorem vR(W:FZ):(Ed W).lookup ("enclosed":Str)=some (.ref W.en):=by unfold Ed;rw[Bn Lo,Bn Je,Bn Mw,Bn Ph,Bn Lp,F7]
theorem C4(W:FZ)(h:(["share","houses","post","inquiries","finds","enclosed"]:List Str).contains m=false):(Ed W).lookup m=none:=by simp only[KZ,Bool.or_eq_false_iff,DD] at h;obtain⟨h1,h2,h3,h4,h5,h6,_⟩:=h;unfold Ed;rw[Bn h1,Bn h2,Bn h3,Bn h4,Bn h5,Bn h6];rfl
theorem Jf4(W:FZ):Aq "enclosed" (.ref W.en) (Aq "finds" (.ref W.fi) (Aq "inquiries" (.ref W.iq) (Aq "post" (.ref W.po) (Aq "houses" (.ref W.hs) (Aq "share" (.int W.share) [])))))=Ed W:=by unfold Ed;rw[D4];rw[Bv (Ne.symm Gx),D4];rw[Bv (Ne.symm Jb),Bv (Ne.symm Ib),D4];rw[Bv (Ne.symm Lm),Bv (Ne.symm Jc),Bv (Ne.symm Mv),D4];rw[Bv (Ne.symm Ic),Bv (Ne.symm Gy),Bv (Ne.symm Jd),Bv (Ne.symm Ln),D4];rw[Bv (Ne.symm Lo),Bv (Ne.symm Je),Bv (Ne.symm Mw),Bv (Ne.symm Ph),Bv (Ne.symm Lp),D4]
def Bw:List (Addr×BS)->List Addr
 | []=>[]
 | q::l=>(q.1::BG q.2)++Bw l
theorem F9:∀(l m:List (Addr×BS)),Bw (l++m)=Bw l++Bw m
 | [],m=>rfl
 | q::l,m=>by show(q.1::BG q.2)++Bw (l++m)=((q.1::BG q.2)++Bw l)++Bw m;rw[F9 l m,AW]
theorem CG:∀{l:List (Addr×BS)},b∈Bw l↔∃q∈l,b=q.1\/b∈BG q.2
 | []=>⟨λh=>by simp[Bw] at h,λ⟨q,h,_⟩=>by simp at h⟩
 | q::l=>by show b∈(q.1::BG q.2)++Bw l↔_;rw[OE,BZ,CG];constructor;(.rintro(h|⟨r,hr,h⟩);(.exact⟨q,ZL ..,h⟩);.exact⟨r,ZD _ hr,h⟩);.rintro⟨r,hr,h⟩;rcases ZM hr with rfl|hr;(.exact .inl h);.exact .inr ⟨r,hr,h⟩
def B5(p:Addr)(W:FZ):List Addr:=[p,W.hs,W.po,W.pd,W.iq,W.fi,W.en]
def Cb(p:Addr)(W:FZ):List Addr:=B5 p W++Bw W.qs
structure AN(CW CH CP:Addr)(H:Hp)(p:Addr)(W:FZ):Prop where
 ob:∃dx,H p=some (.ins CW dx (Ed W))
 hs:H W.hs=some (.BI (W.qs.map λq=>V.ref q.1))
 ho:∀q∈W.qs,AQ CH H q.1 q.2
 po:HF CP H W.po W.pd W.c W.ls
 iq:H W.iq=some (.dK (kvsOf W.JX))
 fi:H W.fi=some (.dK (kvsOf W.IG))
 en:H W.en=some (.dK (kvsOf W.ED))
 nd:(Cb p W).Nodup
def F_(p:Addr)(W:FZ)(H H':Hp):Prop:=∀b o,H b=some o->b∉Cb p W->H' b=some o
section
variable {CW CH CP p:Addr}{H H':Hp}{W:FZ}
theorem AN.keep(x:AN CW CH CP H p W)(k:∀b o,b∈Cb p W->H b=some o->H' b=some o):AN CW CH CP H' p W:=by have t:∀{b},b∈B5 p W->b∈Cb p W:=λh=>ZB _ h;refine⟨let⟨dx,e⟩:=x.ob;⟨dx,k _ _ (t (by simp[B5])) e⟩,k _ _ (t (by simp[B5])) x.hs,λq hq=>(x.ho q hq).keep λb o hb e=>k _ _ (ZC _ (CG.mpr ⟨q,hq,hb⟩)) e,x.po.keep (λo e=>k _ _ (t (by simp[B5])) e) (λo e=>k _ _ (t (by simp[B5])) e),k _ _ (t (by simp[B5])) x.iq,k _ _ (t (by simp[B5])) x.fi,k _ _ (t (by simp[B5])) x.en,x.nd⟩
theorem AN.same(x:AN CW CH CP H p W)(s:Bi H H'):AN CW CH CP H' p W:=x.keep λb o _ e=>s b o e
theorem AN.some_at(x:AN CW CH CP H p W)(hb:b∈Cb p W):∃o,H b=some o/\(∀xs,o≠.BC xs)/\∀ob u,o≠.FJ ob u:=by
 rcases ZI hb with hb|hb;.simp only[B5,BZ,DN,KW] at hb;rcases hb with rfl|rfl|rfl|rfl|rfl|rfl|rfl;(.obtain⟨dx,e⟩:=x.ob;exact⟨_,e,λ_ z=>(by cases z),λ_ _ z=>(by cases z)⟩);(.exact⟨_,x.hs,λ_ z=>(by cases z),λ_ _ z=>(by cases z)⟩);(.obtain⟨dx,e⟩:=x.po.ob;exact⟨_,e,λ_ z=>(by cases z),λ_ _ z=>(by cases z)⟩);(.exact⟨_,x.po.dc,λ_ z=>(by cases z),λ_ _ z=>(by cases z)⟩);(.exact⟨_,x.iq,λ_ z=>(by cases z),λ_ _ z=>(by cases z)⟩);(.exact⟨_,x.fi,λ_ z=>(by cases z),λ_ _ z=>(by cases z)⟩);.exact⟨_,x.en,λ_ z=>(by cases z),λ_ _ z=>(by cases z)⟩
 .obtain⟨q,hq,hb⟩:=CG.mp hb;rcases hb with rfl|hb;(.obtain⟨dx,e⟩:=(x.ho q hq).ob;exact⟨_,e,λ_ z=>(by cases z),λ_ _ z=>(by cases z)⟩);.obtain⟨kvs,e⟩:=(x.ho q hq).KO hb;exact⟨_,e,λ_ z=>(by cases z),λ_ _ z=>(by cases z)⟩
theorem AN.WL(x:AN CW CH CP H p W)(e:H b=some (.BC xs)):b∉Cb p W:=λm=>by obtain⟨o,e',h,_⟩:=x.some_at m;rw[e] at e';cases e';exact h _ rfl
theorem AN.ME(x:AN CW CH CP H p W)(e:H b=none):b∉Cb p W:=λm=>by obtain⟨o,e',_⟩:=x.some_at m;rw[e] at e';cases e'
theorem F_.DS(x:AN CW CH CP H p W)(f:F_ p W H H'):BU H H' :=⟨λa xs e=>f a _ e (x.WL e),λa ob u e=>f a _ e λm=>by obtain⟨o,e',_,h⟩:=x.some_at m;rw[e] at e';cases e';exact h _ _ rfl⟩
theorem Jgv{A X X' B:List Addr}(h:(A++(X++B)).Nodup)(hx:X'.Nodup)(k:∀b∈X',b∈X\/(b∉A/\b∉B)):(A++(X'++B)).Nodup:=by
 obtain⟨a1,a2,a3⟩:=AO.mp h;obtain⟨b1,b2,b3⟩:=AO.mp a2;refine AO.mpr ⟨a1,AO.mpr ⟨hx,b2,λy hy z hz e=>?_⟩,λy hy z hz e=>?_⟩;.rcases k y hy with h|h;(.exact b3 y h z hz e);.exact h.2 (e▸hz)
 .rcases ZI hz with hz|hz;(.rcases k z hz with h|h;(.exact a3 y hy z (ZB _ h) e);.exact h.1 (e▸hy));.exact a3 y hy z (ZC _ hz) e
theorem AN.step(x:AN CW CH CP H p W){i:Nat}{q:Addr}{G G':BS}(hi:W.qs[i]?=some (q,G))(S:AQ CH H' q G')(f:Q_ q G H H')(nw:∀b∈BG G',b∈BG G\/H b=none) : AN CW CH CP H' p { W with qs:=W.qs.set i (q,G') }/\F_ p W H H':=by
 obtain⟨JL,_⟩:=ZJ hi;have e1:W.qs=W.qs.take i++(q,G)::W.qs.drop (i+1):=by have:=DY i W.qs;rw[<-this];congr 1;(.rw[DY]);.rw[DY];exact(List.drop_eq_getElem?_toList_append (l:=W.qs) (i:=i)).trans (by rw[hi];rfl)
 have e2:W.qs.set i (q,G')=W.qs.take i++(q,G')::W.qs.drop (i+1):=by rw[List.set_eq_take_append_cons_drop,AE JL]
 generalize W.qs.take i=l1 at e1 e2;generalize W.qs.drop (i+1)=l2 at e1 e2;have hm:(q,G)∈W.qs:=ZP hi;have nd:=x.nd;unfold Cb at nd;rw[e1,F9] at nd;have eA:B5 p W++(Bw l1++Bw ((q,G)::l2))=(B5 p W++Bw l1)++((q::BG G)++Bw l2):=by rw[AW];rfl
 rw[eA] at nd;obtain⟨a1,a2,a3⟩:=AO.mp nd;obtain⟨b1,b2,b3⟩:=AO.mp a2;have apart:∀b,(b∈B5 p W\/b∈Bw l1\/b∈Bw l2)->b≠q/\b∉BG G:=λb hb=>by (have no:b∉q::BG G:=λm=>by rcases hb with hb|hb|hb;(.exact a3 b (ZB _ hb) b (ZB _ m) rfl);(.exact a3 b (ZC _ hb) b (ZB _ m) rfl);.exact b3 b m b hb rfl);exact⟨λz=>no (by rw[z];exact ZL ..),λz=>no (ZD _ z)⟩
 have kp:∀b o,(b∈B5 p W\/b∈Bw l1\/b∈Bw l2)->H b=some o->H' b=some o:=λb o hb e=>f b o e (apart b hb).1 (apart b hb).2;have t:∀{b},b∈B5 p W->b∈B5 p W\/b∈Bw l1\/b∈Bw l2:=λh=>.inl h;have yN:W.qs.map (λq=>V.ref q.1)=(W.qs.set i (q,G')).map λq=>V.ref q.1:=by rw[e2,e1,ZF,ZF];rfl
 refine⟨⟨let⟨dx,e⟩:=x.ob;⟨dx,kp _ _ (t (by simp[B5])) e⟩,?_,λr hr=>?_,x.po.keep (λo e=>kp _ _ (t (by simp[B5])) e) (λo e=>kp _ _ (t (by simp[B5])) e),kp _ _ (t (by simp[B5])) x.iq,kp _ _ (t (by simp[B5])) x.fi,kp _ _ (t (by simp[B5])) x.en,?_⟩,λb o e hb=>?_⟩;.have:=kp _ _ (t (b:=W.hs) (by simp[B5])) x.hs;rw[yN] at this;exact this
 .have hr:r∈W.qs.set i (q,G'):=hr;rw[e2] at hr;(have qa:r∈l1\/r∈l2->AQ CH H' r.1 r.2:=λh=>by (have hW:r∈W.qs:=by rw[e1];exact h.elim (λz=>ZB _ z) λz=>ZC _ (ZD _ z));exact(x.ho r hW).keep λb o hb e=>kp b o (h.elim (λz=>.inr (.inl (CG.mpr ⟨r,z,hb⟩))) λz=>.inr (.inr (CG.mpr ⟨r,z,hb⟩))) e);rcases ZI hr with hr|hr;(.exact qa (.inl hr));.rcases ZM hr with rfl|hr;(.exact S);.exact qa (.inr hr)
 .show(B5 p W++Bw (W.qs.set i (q,G'))).Nodup;rw[e2,F9];(have eB:B5 p W++(Bw l1++Bw ((q,G')::l2))=(B5 p W++Bw l1)++((q::BG G')++Bw l2):=by rw[AW];rfl);rw[eB];refine Jgv nd (AV.mpr ⟨λm=>S.OK m rfl,S.nd⟩) λb hb=>?_;rcases ZM hb with rfl|hb;(.exact .inl (ZL ..));.rcases nw b hb with h|h;(.exact .inl (ZD _ h));.have no:=x.ME h;unfold Cb at no;rw[e1,F9] at no;refine .inr ⟨λm=>no ?_,λm=>no ?_⟩;(.rcases ZI m with m|m;(.exact ZB _ m);.exact ZC _ (ZB _ m));.exact ZC _ (ZC _ (ZC (q::BG G) m))
 .have HM:b∉Bw W.qs:=λm=>hb (ZC _ m);exact f b o e (λz=>HM (CG.mpr ⟨_,hm,.inl z⟩)) λz=>HM (CG.mpr ⟨_,hm,.inr z⟩)
theorem AN.YR(x:AN CW CH CP H p W):(W.po≠W.pd/\W.po≠p/\W.po≠W.hs/\W.po≠W.iq/\W.po≠W.fi/\W.po≠W.en)/\(W.pd≠p/\W.pd≠W.hs/\W.pd≠W.iq/\W.pd≠W.fi/\W.pd≠W.en)/\(W.iq≠p/\W.iq≠W.hs/\W.iq≠W.fi/\W.iq≠W.en)/\(W.fi≠p/\W.fi≠W.hs/\W.fi≠W.en)/\(W.en≠p/\W.en≠W.hs):=by have nd:=(AO.mp x.nd).1;simp only[B5,AV,BZ,DN,KW,not_or,CN,and_true,not_false_eq_true] at nd;obtain⟨⟨a1,a2,a3,a4,a5,a6⟩,⟨b1,b2,b3,b4,b5⟩,⟨c1,c2,c3,c4⟩,⟨d1,d2,d3⟩,⟨e1,e2⟩,f1⟩:=nd;exact⟨⟨c1,Ne.symm a2,Ne.symm b1,c2,c3,c4⟩,⟨Ne.symm a3,Ne.symm b2,d1,d2,d3⟩,⟨Ne.symm a4,Ne.symm b3,e1,e2⟩,⟨Ne.symm a5,Ne.symm b4,f1⟩,⟨Ne.symm a6,Ne.symm b5⟩⟩
theorem AN.HG(x:AN CW CH CP H p W)(hb:b∈B5 p W)(hq:q∈W.qs):b≠q.1/\b∉BG q.2:=by have h:=(AO.mp x.nd).2.2 b hb;exact⟨λz=>h _ (CG.mpr ⟨q,hq,.inl rfl⟩) z,λz=>h _ (CG.mpr ⟨q,hq,.inr z⟩) rfl⟩
theorem AN.IE(x:AN CW CH CP H p W)(S:HF CP H' W.po W.pd c ls)(f:∀b o,H b=some o->b≠W.po->b≠W.pd->H' b=some o) : AN CW CH CP H' p { W with c:=c,ls:=ls }/\F_ p W H H':=by
 obtain⟨⟨a1,a2,a3,a4,a5,a6⟩,⟨b1,b2,b3,b4,b5⟩,_⟩:=x.YR;refine⟨⟨let⟨dx,e⟩:=x.ob;⟨dx,f _ _ e (Ne.symm a2) (Ne.symm b1)⟩,f _ _ x.hs (Ne.symm a3) (Ne.symm b2),λq hq=>(x.ho q hq).keep λb o hb e=>f b o e ?_ ?_,S,f _ _ x.iq (Ne.symm a4) (Ne.symm b3),f _ _ x.fi (Ne.symm a5) (Ne.symm b4),f _ _ x.en (Ne.symm a6) (Ne.symm b5),x.nd⟩,λb o e hb=>f b o e ?_ ?_⟩;.rintro rfl;have h:=x.HG (b:=W.po) (by simp[B5]) hq;exact hb.elim h.1 h.2
 .rintro rfl;have h:=x.HG (b:=W.pd) (by simp[B5]) hq;exact hb.elim h.1 h.2
 .rintro rfl;exact hb (ZB _ (by simp[B5]))
 .rintro rfl;exact hb (ZB _ (by simp[B5]))
theorem AN.o4(x:AN CW CH CP H p W):AN CW CH CP (upd H W.iq (.dK (kvsOf l))) p { W with JX:=l }/\F_ p W H (upd H W.iq (.dK (kvsOf l))):=by
 obtain⟨⟨a1,a2,a3,a4,a5,a6⟩,⟨b1,b2,b3,b4,b5⟩,⟨c1,c2,c3,c4⟩,_⟩:=x.YR;have f:∀b o,H b=some o->b≠W.iq->(upd H W.iq (.dK (kvsOf l))) b=some o:=λb o e h=>by rw[Ab h];exact e
 refine⟨⟨let⟨dx,e⟩:=x.ob;⟨dx,f _ _ e (Ne.symm c1)⟩,f _ _ x.hs (Ne.symm c2),λq hq=>(x.ho q hq).keep λb o hb e=>f b o e ?_,x.po.keep (λo e=>f _ _ e a4) (λo e=>f _ _ e b3),Ac,f _ _ x.fi (Ne.symm c3),f _ _ x.en (Ne.symm c4),x.nd⟩,λb o e hb=>f b o e ?_⟩;.rintro rfl;have h:=x.HG (b:=W.iq) (by simp[B5]) hq;exact hb.elim h.1 h.2
 .rintro rfl;exact hb (ZB _ (by simp[B5]))
end
def Xq(W:FZ)(h:Int):Prop:=h<0\/(W.qs.length:Int)<=h
def IH(W:FZ)(h:Int)(q:Addr)(G:BS):Prop:=0<=h/\W.qs[h.toNat]?=some (q,G)
theorem IH.at(i:IH W h q G)(x:AN CW CH CP H p W):AQ CH H q G:=x.ho (q,G) (ZP i.2)
theorem IH.lt(i:IH W h q G):0<=h/\h<W.qs.length:=by obtain⟨z,_⟩:=ZJ i.2;have:=i.1;exact⟨i.1,by lia⟩
theorem IH.PD(i:IH W h q G):L2.PD (W.qs.map λq=>V.ref q.1) h=some (V.ref q):=Ej i.1 (by rw[ZH,i.2];rfl)
theorem lookup_mem:∀{l:List (Str×NameKind)},l.lookup y=some k->(y,k)∈l
 | [],h=>by simp at h
 | (a,b)::l,h=>by rw[NA] at h;by_cases e:y=a;(·(have q1:(y==a)=true:=by rw[e];exact beq_self_eq_true a);rw[q1] at h;have h:b=k:=ZO h;rw[e,h];exact ZL ..);.have q1:(y==a)=false:=DD.mpr e;rw[q1] at h;exact ZD _ (lookup_mem h)
theorem Tp{l:List (Str×NameKind)}{cl:List (Str×Addr)}{y:Str}(hc:∀p∈l,p.2=.cell\/p.2=.free->∃z,cl.lookup p.1=some z)(h:l.lookup y=some .cell\/l.lookup y=some .free):∃z,cl.lookup y=some z:=by
 rcases h with h|h;.exact hc _ (lookup_mem h) (.inl rfl)
 .exact hc _ (lookup_mem h) (.inr rfl)
theorem Jkh{a b c:Str}{cl:List (Str×Addr)}{y:Str}(h:([(a,NameKind.local),(b,NameKind.local),(c,NameKind.globalImplicit)]:List (Str×NameKind)).lookup y=some .cell\/([(a,NameKind.local),(b,NameKind.local),(c,NameKind.globalImplicit)]:List (Str×NameKind)).lookup y=some .free):∃z,cl.lookup y=some z :=Tp (λp hp hk=>by simp only[BZ,DN,KW] at hp;rcases hp with rfl|rfl|rfl<;>rcases hk with hk|hk<;>cases hk) h
theorem Jki{a b c d e f:Str}{k1 k2 k3 k4:NameKind}{cl:List (Str×Addr)}{y:Str}(hc:∃z,cl.lookup c=some z)(hd:∃z,cl.lookup d=some z)(he:∃z,cl.lookup e=some z)(hf:∃z,cl.lookup f=some z)(h:([(a,NameKind.local),(b,NameKind.local),(c,k1),(d,k2),(e,k3),(f,k4)]:List (Str×NameKind)).lookup y=some .cell\/([(a,NameKind.local),(b,NameKind.local),(c,k1),(d,k2),(e,k3),(f,k4)]:List (Str×NameKind)).lookup y=some .free):∃z,cl.lookup y=some z :=Tp (λp hp hk=>by simp only[BZ,DN,KW] at hp;rcases hp with rfl|rfl|rfl|rfl|rfl|rfl;(.rcases hk with hk|hk<;>cases hk);(.rcases hk with hk|hk<;>cases hk);(.exact hc);(.exact hd);(.exact he);.exact hf) h
section
end
structure Lies(H:Hp)(L:List Addr):Prop where
 nd:L.Nodup
 all:∀b∈L,∃o,H b=some o
theorem Lies.keep(x:Lies H L)(k:∀b o,H b=some o->∃o',H' b=some o'):Lies H' L:=⟨x.nd,λb hb=>let⟨o,e⟩:=x.all b hb;k b o e⟩
theorem Lies.new(x:Lies H L)(h:H b=none)(h':∃o,H' b=some o)(k:∀b o,H b=some o->∃o',H' b=some o'):Lies H' (b::L) :=⟨AV.mpr ⟨λm=>(by obtain⟨o,e⟩:=x.all b m;rw[h] at e;cases e),x.nd⟩,λc hc=>by rcases ZM hc with rfl|hc;(.exact h');.obtain⟨o,e⟩:=x.all c hc;exact k c o e⟩
section
end
theorem Lies.add(x:Lies H L)(nd:X.Nodup)(h:∀b∈X,H b=none)(h':∀b∈X,∃o,H' b=some o)(k:∀b o,H b=some o->∃o',H' b=some o'):Lies H' (X++L) :=⟨AO.mpr ⟨nd,x.nd,λb hb c hc e=>by obtain⟨o,z⟩:=x.all c hc;rw[<-e,h b hb] at z;cases z⟩,λc hc=>by rcases ZI hc with hc|hc;(.exact h' c hc);.obtain⟨o,e⟩:=x.all c hc;exact k c o e⟩
theorem Lies.perm(x:Lies H L)(p:L.Perm L'):Lies H L':=⟨p.nodup_iff.mp x.nd,λb hb=>x.all b (p.mem_iff.mpr hb)⟩
def Kp(p:Addr)(H H':Hp):Prop:=∀b o,H b=some o->b≠p->H' b=some o
theorem Kp.trans(a:Kp p H H1)(b:Kp p H1 H2):Kp p H H2:=λc o e h=>b c o (a c o e h) h
theorem dX:Kp p H (upd H p o):=λb o' e h=>by rw[Ab h];exact e
theorem Kp.ex(k:Kp p H H')(hp:∃o,H' p=some o):∀b o,H b=some o->∃o',H' b=some o':=λb o e=>by by_cases z:b=p;(.rw[z];exact hp);.exact⟨o,k b o e z⟩
theorem Jh5(h:¬x=y):decide (V.str x=V.str y)=false:=AG λz=>h (V.str.inj z)
theorem HY(k:tb D σ H)(hv:σ[i]?=some (some (.str wd)):=by rfl)(ne:¬wd=c:=by decide +kernel):nQ (Lr (RR cV (B6 i) (tC (.str c)))) ta tb D σ H:=⟨_,hv,rfl,_,rfl,by rw[Jh5 ne];exact Cd k⟩
theorem Ja(k:ta D σ H)(hv:σ[i]?=some (some (.str c)):=by rfl):nQ (Lr (RR cV (B6 i) (tC (.str c)))) ta tb D σ H:=⟨_,hv,rfl,_,rfl,by rw[AJ rfl];exact Ck k⟩
theorem AN.QE(x:AN CW CH CP H p W)(e:H b=some (.BI xs))(h:b≠W.hs):b∉Cb p W:=λhb=>by rcases ZI hb with hb|hb;(.simp only[B5,BZ,DN,KW] at hb;rcases hb with rfl|rfl|rfl|rfl|rfl|rfl|rfl;(.obtain⟨dx,e'⟩:=x.ob;rw[e] at e';cases e');(.exact h rfl);(.obtain⟨dx,e'⟩:=x.po.ob;rw[e] at e';cases e');(.have e':=x.po.dc;rw[e] at e';cases e');(.have e':=x.iq;rw[e] at e';cases e');(.have e':=x.fi;rw[e] at e';cases e');.have e':=x.en;rw[e] at e';cases e');.obtain⟨q,hq,hb⟩:=CG.mp hb;have ne:=(x.ho q hq).QF e;exact hb.elim ne.1 ne.2
def Jif(G:BS):List (Key×V):=[(.inr "house",.int G.BP),(.inr "hand",.ref G.h),(.inr "holds",.ref G.l),(.inr "outs",.ref G.o),(.inr "records",.ref G.r),(.inr "made",.int G.AY),(.inr "ticks",.int G.AZ)]
def LstAt(H:Hp)(b:Addr)(ts:List T2):Prop:=∃as:List Addr,H b=some (.BI (as.map V.ref))/\BB H as ts
theorem BB.keep(k:BU H H')(x:BB H as ts):BB H' as ts:=As (λ_ _ e=>k.BC _ _ e) x
structure j6(H:Hp)(p:Addr)(G:BS):Prop where
 ob:H p=some (.dK (Jif G))
 dh:LstAt H G.h G.hand
 dO:H G.o=some (Cf G.AF)
 dl:H G.l=some (Ec G.holds)
 dr:H G.r=some (Cf G.AM)
 hl:∀q∈G.holds,LstAt H q.2.1 q.2.2
 nd:(p::BG G).Nodup
section
variable {p:Addr}{H H':Hp}{G:BS}
theorem Fd{α β:Type}{f:α->β}:∀{l:List α},(l.map f).Nodup->∀{a b:α},a∈l->b∈l->f a=f b->a=b
 | [],_,_,_,ha,_,_=>by cases ha
 | x::l,nd,a,b,ha,hb,e=>by have nd:=AV.mp nd;rcases ZM ha with ha|ha<;>rcases ZM hb with hb|hb;(.rw[ha,hb]);(.exact absurd (AI.mpr ⟨b,hb,by rw[<-e,ha]⟩) nd.1);(.exact absurd (AI.mpr ⟨a,ha,by rw[e,hb]⟩) nd.1);.exact Fd nd.2 ha hb e
end
abbrev HL:=List (T2×Addr×List T2)
def rU(l:HL):List (T2×List T2):=l.map λq=>(q.1,q.2.2)
def Ia(l:HL)(t:T2)(h:List T2):HL:=l.map λq=>if q.1=t then(q.1,q.2.1,h) else q
def Ce(l:HL)(t:T2):List T2:=((l.find? λq=>decide (q.1=t)).map (·.2.2)).getD []
theorem Jbf(l:HL)(t:T2)(h:List T2):(Ia l t h).map (·.2.1)=l.map (·.2.1):=by
 unfold Ia;rw[AR];refine BY λq _=>?_;show(if q.1=t then(q.1,q.2.1,h) else q).2.1=q.2.1;by_cases e:q.1=t;.rw[AE e]
 .rw[AB e]
theorem Jbe(l:HL)(t:T2)(h:List T2):(Ia l t h).map (·.1)=l.map (·.1):=by
 unfold Ia;rw[AR];refine BY λq _=>?_;show(if q.1=t then(q.1,q.2.1,h) else q).1=q.1;by_cases e:q.1=t;.rw[AE e]
 .rw[AB e]
theorem J9(m:q∈Ia l t h):(q.1=t/\q.2.2=h)\/q∈l:=by
 obtain⟨q0,h0,e⟩:=ZN m;by_cases c:q0.1=t;.rw[AE c] at e;subst e;exact .inl ⟨c,rfl⟩
 .rw[AB c] at e;subst e;exact .inr h0
theorem Je5(f:l.find? (λq=>decide (q.1=t))=some (t,a,hl)):Ce l t=hl:=by unfold Ce;rw[f];rfl
theorem Mr(h:t∈l.map (·.1)):∃a,l.find? (λq=>decide (q.1=t))=some (t,a,Ce l t):=by cases e:l.find? λq=>decide (q.1=t) with | none =>obtain⟨q,hq,e2⟩:=ZN h;have:=BA.mp e q hq;exact absurd e2 (by simpa using this) | some q =>(have h1:q.1=t:=by have:=DK e;simpa using this);refine⟨q.2.1,?_⟩;(have:Ce l t=q.2.2:=by unfold Ce;rw[e];rfl);rw[this,<-h1]
theorem Pq(ka:(l.map (·.2.1)).Nodup)(kt:(l.map (·.1)).Nodup)(f:l.find? (λq=>decide (q.1=t))=some (t,a,hl))(h:List T2):Gz l a h=Ia l t h:=by
 have m:=AX f;unfold Gz Ia;refine BY λq hq=>?_;by_cases e:q.1=t;.have:=Fd kt hq m e;rw[this,AE rfl,AE rfl]
 .have:¬q.2.1=a:=λz=>e (by rw[Fd ka hq m z]);rw[AB this,AB e]
structure Ok(G:BS)(n:Nat):Prop where
 hn:G.hand.Nodup
 hz:G.hand.length<=n
 on:(G.AF.map (·.1)).Nodup
 oz:G.AF.length<=n
 ke:G.holds.map (·.1)=G.AF.map (·.1)
 rn:(G.AM.map (·.1)).Nodup
 rz:G.AM.length<=n
 ln:∀q∈G.holds,q.2.2.Nodup/\q.2.2.length<=n
 new:∀t∈G.AF.map (·.1),t.1=G.BP/\t.2<G.AY
 hk:∀t∈G.hand,t.1=G.BP->t∈G.AF.map (·.1)
 lk:∀q∈G.holds,∀t∈q.2.2,t.1=G.BP->t∈G.AF.map (·.1)
 rk:∀t∈G.AM.map (·.1),t.1≠G.BP
theorem Ok.mono(x:Ok G n)(h:n<=m):Ok G m :=⟨x.hn,BE x.hz h,x.on,BE x.oz h,x.ke,x.rn,BE x.rz h,λq hq=>⟨(x.ln q hq).1,BE (x.ln q hq).2 h⟩,x.new,x.hk,x.lk,x.rk⟩
def HV(G:BS):BS:={ G with AZ:=G.AZ+1 }
def VE(G:BS)(a:Addr):BS:={ G with AY:=G.AY+1,hand:=G.hand++[(G.BP,G.AY)],AF:=G.AF++[((G.BP,G.AY),0)],holds:=G.holds++[((G.BP,G.AY),a,[])] }
theorem DB:u∈Bt l t↔u∈l\/u=t:=by
 unfold Bt;by_cases h:t∈l;.rw[AE h];exact⟨.inl,λz=>z.elim id λz=>by rw[z];exact h⟩
 .rw[AB h];simp
theorem HH:u∈Gp l t↔u∈l/\u≠t:=by unfold Gp;rw[AD];simp
theorem Nq(t:T2)(h:l.Nodup):(Bt l t).Nodup:=by
 unfold Bt;by_cases e:t∈l;.rw[AE e];exact h
 .rw[AB e];exact Fi h e
theorem Ht(l:List T2)(t:T2):(Bt l t).length<=l.length+1:=by
 unfold Bt;by_cases e:t∈l;.rw[AE e];lia
 .rw[AB e];simp
section
theorem Ok.HV(x:Ok G n):Ok (HV G) n:=⟨x.hn,x.hz,x.on,x.oz,x.ke,x.rn,x.rz,x.ln,x.new,x.hk,x.lk,x.rk⟩
theorem Ok.hand(x:Ok G n)(h1:l.Nodup)(h2:l.length<=n)(h3:∀t∈l,t.1=G.BP->t∈G.AF.map (·.1)):Ok { G with hand:=l } n:=⟨h1,h2,x.on,x.oz,x.ke,x.rn,x.rz,x.ln,x.new,h3,x.lk,x.rk⟩
theorem Ok.holds(x:Ok G n)(h1:l.Nodup)(h2:l.length<=n)(h3:∀t∈l,t.1=G.BP->t∈G.AF.map (·.1)):Ok { G with holds:=Ia G.holds t l } n:=by
 refine⟨x.hn,x.hz,x.on,x.oz,(Jbe ..).trans x.ke,x.rn,x.rz,λq hq=>?_,x.new,x.hk,λq hq=>?_,x.rk⟩;.rcases J9 hq with⟨_,e⟩|hq;(.rw[e];exact⟨h1,h2⟩);.exact x.ln q hq
 .rcases J9 hq with⟨_,e⟩|hq;(.rw[e];exact h3);.exact x.lk q hq
theorem Ok.VE(x:Ok G n)(a:Addr):Ok (VE G a) (n+1):=by
 have nw:(G.BP,G.AY)∉G.AF.map (·.1):=λm=>by have:=(x.new _ m).2;exact absurd this (by show ¬G.AY<G.AY;lia)
 have eo:(G.AF++[((G.BP,G.AY),(0:Int))]).map (·.1)=G.AF.map (·.1)++[(G.BP,G.AY)]:=by rw[ZF];rfl
 refine⟨?_,?_,?_,?_,?_,x.rn,by have:=x.rz;show G.AM.length<=n+1;lia,λq hq=>?_,?_,?_,?_,x.rk⟩;.exact Fi x.hn λm=>nw (x.hk _ m rfl)
 .show(G.hand++[(G.BP,G.AY)]).length<=n+1;rw[ZE];have:=x.hz;show G.hand.length+1<=n+1;lia
 .show((G.AF++[((G.BP,G.AY),(0:Int))]).map (·.1)).Nodup;rw[eo];exact Fi x.on nw
 .show(G.AF++[((G.BP,G.AY),(0:Int))]).length<=n+1;rw[ZE];have:=x.oz;show G.AF.length+1<=n+1;lia
 .show(G.holds++[((G.BP,G.AY),a,([]:List T2))]).map (λ(q:T2×Addr×List T2)=>q.1)=(G.AF++[((G.BP,G.AY),(0:Int))]).map (·.1);rw[eo,ZF,x.ke];rfl
 .rcases ZI hq with hq|hq;(.exact⟨(x.ln q hq).1,LR (x.ln q hq).2⟩);·(have:q=((G.BP,G.AY),a,[]):=by simpa using hq);rw[this];exact⟨CN,BF _⟩
 .intro t ht;have ht:t∈(G.AF++[((G.BP,G.AY),(0:Int))]).map (·.1):=ht;show t.1=G.BP/\t.2<G.AY+1;rw[eo] at ht;rcases ZI ht with ht|ht;(.have:=x.new t ht;exact⟨this.1,by have:=this.2;lia⟩);·(have:t=(G.BP,G.AY):=by simpa using ht);rw[this];exact⟨rfl,by show G.AY<G.AY+1;lia⟩
 .intro t ht e;show t∈(G.AF++[((G.BP,G.AY),(0:Int))]).map (·.1);rw[eo];rcases ZI ht with ht|ht;(.exact ZB _ (x.hk t ht e));.exact ZC _ ht
 .intro q hq t ht e;show t∈(G.AF++[((G.BP,G.AY),(0:Int))]).map (·.1);rw[eo];rcases ZI hq with hq|hq;(.exact ZB _ (x.lk q hq t ht e));·(have:q=((G.BP,G.AY),a,[]):=by simpa using hq);rw[this] at ht;cases ht
theorem Ok.fresh(x:Ok G n):(∀t∈G.hand,t≠(G.BP,G.AY))/\(∀q∈G.AF,q.1≠(G.BP,G.AY))/\∀q∈G.holds,q.1≠(G.BP,G.AY):=by
 have nw:(G.BP,G.AY)∉G.AF.map (·.1):=λm=>by have:=(x.new _ m).2;exact absurd this (by show ¬G.AY<G.AY;lia)
 refine⟨λt ht e=>nw (by rw[<-e];exact x.hk t ht (by rw[e])),λq hq e=>nw (by rw[<-e];exact BD hq),λq hq e=>nw (by rw[<-e,<-x.ke];exact BD hq)⟩
theorem Ok.OL(x:Ok G n):G.holds.length<=n:=by have:=congrArg List.length x.ke;rw[ZA,ZA] at this;rw[this];exact x.oz
theorem Ok.get(x:Ok G n)(t:T2):(Ce G.holds t).Nodup/\(Ce G.holds t).length<=n/\∀u∈Ce G.holds t,u.1=G.BP->u∈G.AF.map (·.1):=by unfold Ce;cases e:G.holds.find? λq=>decide (q.1=t) with | none=>exact⟨CN,BF _,λu hu=>by cases hu⟩ | some q =>have m:=AX e;exact⟨(x.ln q m).1,(x.ln q m).2,x.lk q m⟩
theorem Ok.find(x:Ok G n)(h1:t∈G.hand)(h2:t.1=G.BP):∃a,G.holds.find? (λq=>decide (q.1=t))=some (t,a,Ce G.holds t):=Mr (by rw[x.ke];exact x.hk t h1 h2)
end
def Ag(l:List (T2×Int))(t:T2):Int:=((l.find? λq=>decide (q.1=t)).map (·.2)).getD 0
theorem F0(l:List (T2×Int))(t:T2)(v:Int):(Ba l t v).map (·.1)=if t∈l.map (·.1) then l.map (·.1) else l.map (·.1)++[t]:=by
 unfold Ba;by_cases h:t∈l.map (·.1);.rw[AE h,AE h,AR];refine BY λq _=>?_;show(if q.1=t then(q.1,v) else q).1=q.1;by_cases e:q.1=t;(.rw[AE e]);.rw[AB e]
 .rw[AB h,AB h,ZF];rfl
theorem Ok.iQ(x:Ok G n)(hf:tb.1≠G.BP)(v:Int):Ok { G with hand:=Bt G.hand tb,AM:=Ba G.AM tb v } (n+1):=by
 have x1:=x.mono (ER n);refine⟨Nq _ x.hn,by have:=Ht G.hand tb;have:=x.hz;show(Bt G.hand tb).length<=n+1;lia,x1.on,x1.oz,x1.ke,?_,?_,x1.ln,x1.new,λt ht e=>?_,x1.lk,?_⟩;.show((Ba G.AM tb v).map (·.1)).Nodup;rw[F0];by_cases h:tb∈G.AM.map (·.1);(.rw[AE h];exact x.rn);.rw[AB h];exact Fi x.rn h
 .have h0:=congrArg List.length (F0 G.AM tb v);have:=x.rz;show(Ba G.AM tb v).length<=n+1;rw[ZA] at h0;rw[h0];by_cases h:tb∈G.AM.map (·.1);(.rw[AE h,ZA];lia);.rw[AB h,ZE,ZA];show G.AM.length+1<=n+1;lia
 .rcases DB.mp ht with ht|ht;(.exact x.hk t ht e);.exact absurd (by rw[<-ht];exact e) hf
 .show ∀t∈(Ba G.AM tb v).map (·.1),t.1≠G.BP;rw[F0];intro t ht;by_cases h:tb∈G.AM.map (·.1);(.rw[AE h] at ht;exact x.rk t ht);.rw[AB h] at ht;rcases ZI ht with ht|ht;(.exact x.rk t ht);·(have:t=tb:=by simpa using ht);rw[this];exact hf
section
theorem Jc0(G:BS)(a:Addr):BG (HV (VE G a))=BG G++[a]:=by unfold BG VE HV;simp
end
theorem Kk(h:t∈l.map (·.1)):l.find? (λq=>decide (q.1=t))=some (t,Ag l t):=by cases e:l.find? λq=>decide (q.1=t) with | none =>obtain⟨q,hq,e2⟩:=ZN h;have:=BA.mp e q hq;exact absurd e2 (by simpa using this) | some q =>(have h1:q.1=t:=by have:=DK e;simpa using this);(have:Ag l t=q.2:=by unfold Ag;rw[e];rfl);rw[this,<-h1]
theorem Ym(h:t∈l.map (·.1))(v:Int):(Ba l t v).map (·.1)=l.map (·.1):=by rw[F0,AE h]
theorem Ur(h:t∈l.map (·.1))(v:Int):(Ba l t v).length=l.length:=by have:=congrArg List.length (Ym h v);rw[ZA,ZA] at this;exact this
section
theorem Ok.AF(x:Ok G n)(h:tb∈G.AF.map (·.1))(v:Int):Ok { G with AF:=Ba G.AF tb v } n:=by
 have e:=Ym h v;refine⟨x.hn,x.hz,by show((Ba G.AF tb v).map (·.1)).Nodup;rw[e];exact x.on,by show(Ba G.AF tb v).length<=n;rw[Ur h];exact x.oz,by show G.holds.map (·.1)=(Ba G.AF tb v).map (·.1);rw[e];exact x.ke,x.rn,x.rz,x.ln,?_,?_,?_,x.rk⟩;.show ∀t∈(Ba G.AF tb v).map (·.1),_;rw[e];exact x.new
 .show ∀t∈G.hand,t.1=G.BP->t∈(Ba G.AF tb v).map (·.1);rw[e];exact x.hk
 .show ∀q∈G.holds,∀t∈q.2.2,t.1=G.BP->t∈(Ba G.AF tb v).map (·.1);rw[e];exact x.lk
end
theorem Oq(f:α->Int):∀{l:List α} (x:Int),(l.map f).Nodup->(l.filter λe=>f e==x).length<=1
 | [],_,_=>BF _
 | a::l,x,nd=>by have nd:=AV.mp nd;rw[DC];by_cases e:f a=x;(.have no:(l.filter λe=>f e==x)=[]:=List.filter_eq_nil_iff.mpr λb hb z=>nd.1 (AI.mpr ⟨b,hb,by rw[e];simpa using z⟩);rw[AE (by simpa using e),no];exact ZG _);.rw[AB (by simpa using e)];exact Oq f x nd.2
section
variable {prog:Program}{w:World}{K:Type}[DecidableEq K]{knd:HeapKind prog w K}{A:Around}{E:Value->Shared->Prop}{s:Shared}
def Tame(knd:HeapKind prog w K):Prop:=∀{A:Around} {E:Value->Shared->Prop} {s:Shared} {k:K} {a:Addr} {Q:Bool->Shared->Prop},knd.is s.heap k a->(∀b,Q b s)->wpAny (model prog w) A (Builtin.Dict.quietEq (.ref a)) Q E s
theorem Xk{id:String}{d:Addr}{ob:Obj}{es:Array DictEntry}{ep:Nat}{xs:List (K×Addr×Value)}{Q:Array DictEntry->Shared->Prop}(tm:Tame knd)(g:s.heap.get? d=some ob)(dat:ob.data=.dict es ep)(ent:es.toList=xs.map (entryOfKey knd))(keys:∀x∈xs,knd.is s.heap x.1 x.2.1)(hh:(xs.map λx=>knd.hash x.1).Nodup)(q:Q es s):wpAny (model prog w) A (Builtin.Dict.entriesForEmpty id d) Q E s:=by
 have hn:(es.toList.map λe=>e.hash).Nodup:=by rw[ent,AR];exact hh
 unfold Builtin.Dict.entriesForEmpty;refine ZR (BX g dat (ZR ?_));rw[<-Array.forIn_toList];refine PM _ (λrest _ s'=>s'=s/\∀e∈rest,e∈es.toList) _ ?_ ?_ _ _ ⟨rfl,λe he=>he⟩;.rintro e rest b s' ⟨rfl,sub⟩;have me:=sub e (ZL ..);rw[ent] at me;obtain⟨x,hx,ex⟩:=ZN me;(have ek:e.key=.ref x.2.1:=by rw[<-ex];rfl);rw[ek];refine ZR (tm (keys x hx) λbq=>?_);(have small:¬(es.filter λz=>z.hash==e.hash).size > 1:=by have h1:=Oq (λz:DictEntry=>z.hash) e.hash hn;(have h2:(es.filter λz=>z.hash==e.hash).size=(es.toList.filter λz=>z.hash==e.hash).length:=by rw[<-CF,Array.toList_filter]);rw[h2];exact Nat.not_lt.mpr h1);cases bq with | true =>simp only[Bool.not_true,CB,DV];exact ZS ⟨rfl,λe he=>sub e (ZD _ he)⟩ | false =>simp only[Bool.not_false,GJ];rw[AB small];exact ZS ⟨rfl,λe he=>sub e (ZD _ he)⟩
 .rintro b s' ⟨rfl,_⟩;exact ZS q
theorem Nc{d a:Addr}{xs:List (K×Addr×Value)}{k:K}{v:Value}{Q:Unit->Shared->Prop}(room:knd.room A)(key:knd.is s.heap k a)(m:s.heap.DictOfH knd d xs)(z:xs.length<=sizeLine)(q:∀h',h'.DictOfH knd d (storedH xs k a v)->Heap.SameBut d s.heap h'->Q () { s with heap:=h' }):wpAny (model prog w) A (dictSetHashed d (.ref a) (knd.hash k) v) Q E s:=by
 obtain⟨ob,es,ep,g,ex,dat,ent,keys,nd⟩:=m;have sz:=IU ent;unfold dictSetHashed;refine EI (ZR (wpAny_dictFind_heap room key g dat ent keys nd (λno=>?_) λj p hj=>?_));.refine ZR (wpAny_rule (wpAny_updateDictKeys (hz:=by rw[sz];exact z) g dat (q _ ⟨_,_,ep+1,FD _ g (LQ (FQ dat _)),ex.mapDictKeys _,FQ dat _,?_,λx hx=>?_,?_⟩ (Heap.SameBut.update ..))));(.rw[storedH_new (atKey_none_of_get no),ZF,<-ent];simp[entryOfKey]);(.rw[storedH_new (atKey_none_of_get no)] at hx;rcases ZI hx with hx|hx;(.exact knd.keeps (keys x hx) g dat (Heap.SameBut.update ..));·(have e:x=(k,a,v):=by simpa using hx);rw[e];exact knd.keeps key g dat (Heap.SameBut.update ..));.rw[storedH_new (atKey_none_of_get no),ZF];exact Fi nd (not_mem_keys_of_get no)
 .refine ZR (wpAny_rule (ZR (wpAny_updateDict g dat (wpAny_point (q _ ⟨_,_,ep,FD _ g (LQ (Obj.data_mapDict dat _)),ex.mapDict _,Obj.data_mapDict dat _,?_,λx hx=>?_,?_⟩ (Heap.SameBut.update ..))))));(.rw[storedH_old (atKey_of_get nd hj)];have e:=modify_map_putAt (entryOfKey knd) (λe:DictEntry=>{ e with val:=v }) k v (λ_ _=>rfl) nd hj;rw[<-ent] at e;rw[<-e];simp);(.rw[storedH_old (atKey_of_get nd hj)] at hx;obtain⟨y,hy,e⟩:=ZN hx;(have e1:x.1=y.1/\x.2.1=y.2.1:=by rw[<-e];unfold putAt;by_cases c:y.1=k;(.rw[AE c];exact⟨rfl,rfl⟩);.rw[AB c];exact⟨rfl,rfl⟩);rw[e1.1,e1.2];exact knd.keeps (keys y hy) g dat (Heap.SameBut.update ..));.rw[storedH_old (atKey_of_get nd hj),keys_map_putAt];exact nd
def Dr(xs more:List (K×Addr×Value)):List (K×Addr×Value):=more.foldl (λacc x=>storedH acc x.1 x.2.1 x.2.2) xs
theorem Lw(xs more:List (K×Addr×Value)){i:Nat}{x:K×Addr×Value}(h:more[i]?=some x):Dr xs (more.take (i+1))=storedH (Dr xs (more.take i)) x.1 x.2.1 x.2.2:=by unfold Dr;rw[List.take_succ,h,LU];rfl
theorem Ua(xs:List (K×Addr×Value))(k:K)(a:Addr)(v:Value):(storedH xs k a v).length<=xs.length+1:=by cases e:atKey xs k with | none=>rw[storedH_new e,ZE];exact ZG _ | some p=>rw[storedH_old e,ZA];exact ER _
theorem Ir:∀(more xs:List (K×Addr×Value)),(Dr xs more).length<=xs.length+more.length
 | [],xs=>ZG _
 | x::r,xs=>by have h1:(Dr (storedH xs x.1 x.2.1 x.2.2) r).length<=_:=Ir r _;have h2:=Ua xs x.1 x.2.1 x.2.2;show(Dr (storedH xs x.1 x.2.1 x.2.2) r).length<=xs.length+(r.length+1);lia
theorem N2:∀(more xs:List (K×Addr×Value)),((xs++more).map (·.1)).Nodup->Dr xs more=xs++more
 | [],xs,_=>(AH xs).symm
 | x::r,xs,nd=>by (have e:atKey xs x.1=none:=by cases c:atKey xs x.1 with | none=>rfl | some p =>exfalso;unfold atKey at c;cases f:xs.find? (λy=>decide (y.1=x.1)) with | none=>rw[f] at c;cases c | some y =>(have h1:y.1=x.1:=by simpa using DK f);have h2:=AX f;rw[ZF,AO] at nd;exact nd.2.2 _ (BD h2) _ (BD (ZL ..)) h1);show Dr (storedH xs x.1 x.2.1 x.2.2) r=xs++x::r;rw[storedH_new e];(have e2:xs++[(x.1,x.2.1,x.2.2)]++r=xs++x::r:=by rw[AW];rfl);rw[N2 r _ (by rw[e2];exact nd),e2]
theorem W8{id:String}{d o:Addr}{xs more:List (K×Addr×Value)}{Q:Unit->Shared->Prop}(tm:Tame knd)(room:knd.room A)(ne:d≠o)(lo:(o==sysModules)=false)(hd:s.heap.DictOfH knd d xs)(ho:s.heap.DictOfH knd o more)(z:xs.length+more.length<=sizeLine)(hh:xs=[]->(more.map λx=>knd.hash x.1).Nodup)(q:∀h',h'.DictOfH knd d (Dr xs more)->Heap.SameBut d s.heap h'->Q () { s with heap:=h' }):wpAny (model prog w) A (Builtin.Dict.mergeDict id d o) Q E s:=by
 obtain⟨od,esd,epd,gd,zv,SJ,pT,vj,ndd⟩:=_root_.id hd;obtain⟨oo,NZ,epo,go,exo,PL,VZ,TK,qr⟩:=_root_.id ho;have so:=IU VZ;unfold Builtin.Dict.mergeDict Builtin.Dict.showsAll;rw[AB (by simpa using ne),AB (by rw[lo];exact AL)];refine ZR (ZS (ZR (BX go PL ?_)));dsimp only;split;.refine ZR (BX gd SJ ?_);split;(.rename_i em;(have ex:xs=[]:=by have h1:=IU pT;rw[JH.mp em] at h1;exact BW.mp h1.symm);subst ex;have em':Dr [] more=more:=N2 more [] qr;rw[em'] at q;refine ZR (Xk tm go PL VZ TK (hh rfl) ?_);split;(·(have zz:NZ.size<=sizeLine+1:=by rw[so];have:0+more.length<=sizeLine:=z;lia);refine ZR (wpAny_updateDictKeysTo gd SJ (ZS (q _ ⟨_,_,epd+1,FD _ gd (LQ (FQ SJ _)),zv.mapDictKeys _,FQ SJ _,VZ,λx hx=>?_,qr⟩ (Heap.SameBut.update ..))) zz);exact knd.keeps (TK x hx) gd SJ (Heap.SameBut.update ..));.rename_i nz;(have e0:more=[]:=by have:NZ.size=0:=JH.mp (by simpa using nz);rw[so] at this;exact BW.mp this);subst e0;exact ZS (q _ hd (Heap.SameBut.refl _ _)));.refine ZR (EB go PL (ZR (BX go PL (ZR ?_))));rw[PN];simp only[Std.Legacy.Range.size,Nat.sub_zero,Nat.add_sub_cancel,Nat.div_one];refine PM _ (λrest _ s'=>∃h' j,s'={ s with heap:=h' }/\rest=List.range' j (NZ.size-j)/\j<=NZ.size/\h'.DictOfH knd d (Dr xs (more.take j))/\Heap.SameBut d s.heap h') _ ?_ ?_ _ _ ⟨s.heap,0,rfl,by simp,BF _,hd,Heap.SameBut.refl _ _⟩;(.rintro i rest b s' ⟨h',j,rfl,hr,hj,QR,sb⟩;(have lt:j<NZ.size:=by by_cases c:j<NZ.size;(.exact c);.rw[Nat.sub_eq_zero_of_le (Nat.not_lt.mp c)] at hr;cases hr);(have er:i=j/\rest=List.range' (j+1) (NZ.size-(j+1)):=by rw[show NZ.size-j=(NZ.size-(j+1))+1 by lia,M'] at hr;exact List.cons.inj hr);obtain⟨rfl,er⟩:=er;have go':h'.get? o=some oo:=(sb.2 o ne.symm).trans go;obtain⟨x,hx⟩:=Au (xs:=more) (j:=i) (by lia);refine ZR (BX (s:={ s with heap:=h' }) go' PL ?_);rw[entry_at VZ i,hx];have kx:=knd.keeps (TK x (ZP hx)) gd SJ sb;(have zl:(Dr xs (more.take i)).length<=sizeLine:=by have h1:=Ir (more.take i) xs;(have h2:(more.take i).length<=more.length:=by rw[B_];lia);lia);refine ZR (EI (Nc (s:={ s with heap:=h' }) room kx QR zl λh2 hd2 dm=>?_));have go2:h2.get? o=some oo:=(dm.2 o ne.symm).trans go';refine ZR (EB (s:={ s with heap:=h2 }) go2 PL ?_);rw[AB (by simp)];exact ZS ⟨h2,i+1,rfl,er,lt,by rw[Lw xs more hx];exact hd2,sb.trans dm⟩);.rintro b s' ⟨h',j,rfl,hr,hj,QR,sb⟩;(have ej:j=NZ.size:=by by_cases c:j<NZ.size;(.rw[show NZ.size-j=(NZ.size-(j+1))+1 by lia,M'] at hr;cases hr);.lia);rw[ej,so,BM] at QR;exact ZS (q h' QR sb)
 .refine ZR (EB go PL (ZR (BX go PL (ZR ?_))));rw[PN];simp only[Std.Legacy.Range.size,Nat.sub_zero,Nat.add_sub_cancel,Nat.div_one];refine PM _ (λrest _ s'=>∃h' j,s'={ s with heap:=h' }/\rest=List.range' j (NZ.size-j)/\j<=NZ.size/\h'.DictOfH knd d (Dr xs (more.take j))/\Heap.SameBut d s.heap h') _ ?_ ?_ _ _ ⟨s.heap,0,rfl,by simp,BF _,hd,Heap.SameBut.refl _ _⟩;(.rintro i rest b s' ⟨h',j,rfl,hr,hj,QR,sb⟩;(have lt:j<NZ.size:=by by_cases c:j<NZ.size;(.exact c);.rw[Nat.sub_eq_zero_of_le (Nat.not_lt.mp c)] at hr;cases hr);(have er:i=j/\rest=List.range' (j+1) (NZ.size-(j+1)):=by rw[show NZ.size-j=(NZ.size-(j+1))+1 by lia,M'] at hr;exact List.cons.inj hr);obtain⟨rfl,er⟩:=er;have go':h'.get? o=some oo:=(sb.2 o ne.symm).trans go;obtain⟨x,hx⟩:=Au (xs:=more) (j:=i) (by lia);refine ZR (BX (s:={ s with heap:=h' }) go' PL ?_);rw[entry_at VZ i,hx];have kx:=knd.keeps (TK x (ZP hx)) gd SJ sb;(have zl:(Dr xs (more.take i)).length<=sizeLine:=by have h1:=Ir (more.take i) xs;(have h2:(more.take i).length<=more.length:=by rw[B_];lia);lia);refine ZR (EI (Nc (s:={ s with heap:=h' }) room kx QR zl λh2 hd2 dm=>?_));have go2:h2.get? o=some oo:=(dm.2 o ne.symm).trans go';refine ZR (EB (s:={ s with heap:=h2 }) go2 PL ?_);rw[AB (by simp)];exact ZS ⟨h2,i+1,rfl,er,lt,by rw[Lw xs more hx];exact hd2,sb.trans dm⟩);.rintro b s' ⟨h',j,rfl,hr,hj,QR,sb⟩;(have ej:j=NZ.size:=by by_cases c:j<NZ.size;(.rw[show NZ.size-j=(NZ.size-(j+1))+1 by lia,M'] at hr;cases hr);.lia);rw[ej,so,BM] at QR;exact ZS (q h' QR sb)
end
theorem V8{prog:Program}{w:World}{K:Type}[DecidableEq K](knd:KeyKind prog w K):Tame (tupleKind knd):=λhk q=>by unfold Builtin.Dict.quietEq;exact ZR (wpAny_specialOf (IsTupleKey.typeIs hk) F.slot_tuple_eq.lookup (ZS (q _)))
def Kg(w:World)(k:List Key):Int:=reduceHash (Builtin.Tuple.tupleHashOf (k.map (ue w)))
def Ew(kvs more:List (List Key×V)):List (List Key×V):=more.foldl (λacc kv=>putK acc kv.1 kv.2) kvs
theorem Vh:∀{more:List (List Key×V)} {ms:List (List Key×Addr×Value)} {kvs:List (List Key×V)} {xs:List (List Key×Addr×Value)},KT H more ms->KT H kvs xs->KT H (Ew kvs more) (Dr xs ms)
 | _,_,_,_,.nil,r=>r
 | _,_,kvs,xs,.cons (a:=p) (b:=q) h t,r=>by have e:q.1=p.1:=h.1.symm;have r1:=KT.put r p.1 h.2.1 h.2.2;show KT H (Ew (putK kvs p.1 p.2) _) (Dr (storedH xs q.1 q.2.1 q.2.2) _);rw[e];exact Vh t r1
theorem Yz:∀{kvs:List (List Key×V)} {xs:List (List Key×Addr×Value)},KT H kvs xs->(xs.map λx=>(tupleKind (Bp P w)).hash x.1)=kvs.map λq=>Kg w q.1
 | _,_,.nil=>rfl
 | _,_,.cons r t=>by rw[AK,AK,Yz t,r.1];rfl
theorem N1:∀(more kvs:List (List Key×V)),(Ew kvs more).length<=kvs.length+more.length
 | [],_=>ZG _
 | q::r,kvs=>by have h1:(Ew (putK kvs q.1 q.2) r).length<=_:=N1 r _;have h2:=Fj kvs q.1 q.2;show(Ew (putK kvs q.1 q.2) r).length<=kvs.length+(r.length+1);lia
section
variable {X:Cx}{AA:List (Addr×Obj)}{σ:L2.St}{H:Hp}{s:Shared}{A:Around}{E:Value->Shared->Prop}
theorem Qc{id:String}{d o:Addr}{kvs more:List (List Key×V)}{Q:PySem.Fin->Shared->Prop}(hu:A.units<cLine)(I:Inv X AA σ H s)(ed:H d=some (.dT kvs))(eo:Rd H o (.dT more))(ne:d≠o)(z:kvs.length+more.length<=sizeLine)(hh:kvs=[]->(more.map λq=>Kg X.w q.1).Nodup)(q:∀s',Inv X AA σ (upd H d (.dT (Ew kvs more))) s'->Q (.done (.ret .none)) s'):wpAny (model X.prog X.w) A (Builtin.Dict.updateFrom id d (.ref o) [] .none) Q E s:=by
 obtain⟨zd,ld,xs,rd,dd⟩:=Qm I.CT ed;obtain⟨zo,lo,ms,ro,dO⟩:=Kl I.CT eo;have l1:=Paired.length rd;have l2:=Paired.length ro;unfold Builtin.Dict.updateFrom;refine ZR (wpAny_typeOf dO.typeIs ?_);rw[AB (by decide)];refine ZR ?_;unfold Builtin.Dict.merge Builtin.Dict.readDirectly;refine ZR (ZR (wpAny_isInstance dO.typeIs isSubtype_dict_dict ?_));simp only[Bool.not_true,CB,DV];refine ZR (wpAny_specialOf dO.typeIs F.slot_dict_iter.lookup (ZS ?_));simp only[beq_self_eq_true,GJ];refine ZR (ZS (W8 (V8 _) hu ne lo dd dO (by lia) (λe=>?_) λh' YI sb=>?_));.rw[Yz ro];refine hh ?_;rw[e] at l1;exact BW.mp l1
 .obtain⟨ob,es,ep,g,h2,h3,h4,_,h5⟩:=YI;(have I':Inv X AA σ (upd H d (.dT (Ew kvs more))) { s with heap:=h' }:=by refine Ko (t':=s.toks) I (by rw[ed];exact True.intro) sb ⟨ob,g⟩ ⟨?_,ld,_,(Vh ro rd).keeps λc ys ec=>?_,ob,es,ep,g,h2,h3,h4,h5⟩;(.have:=N1 more kvs;lia);.rw[Ab (Np ec ed (λz=>nomatch z))];exact ec);show wpAny _ _ (Builtin.Dict.addKeywords d [] >>= _) _ _ _;exact ZR (ZS (ZS (q _ I')))
end
section
variable {X:Cx}
def Jh9(w:World):V->List V->Hp->VK->Prop:=λx vs H Q=>∃(d o:Addr)(kvs more:List (List Key×V)),x=.ref d/\vs=[.ref o]/\H d=some (.dT kvs)/\Rd H o (.dT more)/\d≠o/\kvs.length+more.length<=sizeLine/\(kvs=[]->(more.map λq=>Kg w q.1).Nodup)/\Q .EE (upd H d (.dT (Ew kvs more)))
theorem Jev(hu:X.A.units+1<cLine):fq X "dict.update" (Jh9 X.w):=by intro AA s σ H x vs v us Q I rx rv h;obtain⟨d,o,kvs,more,rfl,rfl,ed,eo,ne,z,hh,q⟩:=h;cases rx;obtain⟨u,rfl,ru⟩:=rv.one;cases ru;obtain⟨_,_,xs,rd,dd⟩:=Qm I.CT ed;refine CY PySem.F.slot_dict_update dd.typeIs PySem.F.entry_dict_update ?_ (PySem.F.args_dict_update_2 _ _);unfold Builtin.«dict.update» Builtin.Dict.selfAndRest;refine ZR (ZR (HJ dd.typeIs (ZS ?_)));exact Qc (id:="dict.update") (show X.A.in1.units<cLine from EF (knd:=Bp X.prog X.w) hu) I ed eo ne z hh λs' I'=>⟨_,rfl,.EE,_,I',rfl,q⟩
theorem Xm(hu:X.A.units+64<cLine):Fm X (.type "dict") (λxs H Q=>∃(o:Addr)(more:List (List Key×V)),xs=[.ref o]/\H o=some (.dT more)/\(more.map λq=>Kg X.w q.1).Nodup/\∀p,H p=none->Q (.ref p) (upd H p (.dT (Ew [] more)))):=by
 intro AA s σ H xs us Q I r h;obtain⟨o,more,rfl,eo,hh,q⟩:=h;obtain⟨u,rfl,rx⟩:=vals1 r;cases rx;refine callType_codes (Q₁:=λobj DQ=>obj=.ref s.heap.objs.size/\DQ={ s with heap:=s.heap.push { cls:=.type "dict",data:=.dict #[] } }) F.kt_called_dict (F.kt_typeCall_dict_1 _) F.entry_dict_init (kt_code_dict_new _ ⟨rfl,rfl⟩) ?_;rintro obj DQ ⟨rfl,rfl⟩;have hn:H s.heap.objs.size=none:=I.CT.fresh (ZG _);have I1:=I.laid (a:=s.heap.objs.size) (o:=.dT []) (t':=s.toks) (λ_ _ z=>ZT _ z) (ZG _) (Vw s.heap I.big);have e1:(upd H s.heap.objs.size (.dT [])) s.heap.objs.size=some (.dT []):=Ac;obtain⟨_,_,xs,rd,dd⟩:=Qm I1.CT e1;refine⟨dd.typeIs,F.args_dict_init_2 _ _,?_⟩;unfold Builtin.«dict.__init__» Builtin.Dict.selfAndRest;refine ZR (ZR (HJ dd.typeIs (ZS ?_)));have ne:s.heap.objs.size≠o:=λz=>by rw[<-z,hn] at eo;cases eo
 have eo1:(upd H s.heap.objs.size (.dT [])) o=some (.dT more):=by rw[Ab ne.symm];exact eo
 obtain⟨zo,_⟩:=Qm I.CT eo;have eJ:X.A.in1.in1.units<cLine:=by (have h1:X.A.in1.in1.units=X.A.units+1+1:=by first|rfl|simp[units_in1]);lia
 exact Qc (id:="dict.__init__") eJ I1 e1 (.inl eo1) ne (by rw[BN];lia) (λ_=>hh) λs' I'=>⟨rfl,.ref s.heap.objs.size,_,by rw[Qw] at I';exact I',rfl,q _ hn⟩
end
def hN(a b:Nat):Int:=reduceHash (Builtin.Tuple.tupleHashOf [hashInt (a:Int),hashInt (b:Int)])
theorem E2:∀{as:List α} {bs:List β},Paired R as bs->∀{a:α} {b:β},R a b->Paired R (as++[a]) (bs++[b])
 | _,_,.nil,_,_,h=>.cons h .nil
 | _,_,.cons h t,_,_,h'=>.cons h (E2 t h')
theorem L1{α:Type}(b:α->Bool){ts:List α}{i:Nat}{t:α}(h:ts[i]?=some t):(ts.take (i+1)).filter b=(ts.take i).filter b++(if b t=true then [t] else []):=by rw[List.take_succ,h,ID];cases e:b t<;>simp[e]
theorem Gv(b:α->Bool)(ts:List α)(i:Nat):((ts.take i).filter b).length<=ts.length:=by grind
def IF(p:Addr)(b:T2->Bool)(ts:List T2)(H:Hp)(i:Nat)(ys:List V)(H2:Hp):Prop :=
 ∃bs:List Addr,ys=bs.map V.ref/\Bi H H2/\H2 p=some (.BI ys)/\BB H2 bs ((ts.take i).filter b)
section
variable {p:Addr}{b:T2->Bool}{ts:List T2}{H:Hp}{tt:TT}{caps:List (Str×Nat)}{σ:L2.St}{Q:Hp->Prop}
theorem IF.start(hp:H p=none):IF p b ts H 0 [] (upd H p (.BI [])):=⟨[],rfl,Ai hp,Ac,.nil⟩
theorem nB(hp:H p=none)(hz:ts.length<=900)(ht:∀(H2:Hp) (a:Addr) (t:T2) (Q':Bool->Hp->Prop),Bi H H2->H2 a=some (.BC (tv t))->t∈ts->Q' (b t) H2->tt (some (.ref a)::Ds σ caps) H2 Q'){i:Nat}{ys:List V}{H2:Hp}{a:Addr}{t:T2}{N:List V->Hp->Prop}(pv:IF p b ts H i ys H2)(hi:ts[i]?=some t)(ha:H2 a=some (.BC (tv t)))(n:∀ys H',IF p b ts H (i+1) ys H'->N ys H') : tt (some (.ref a)::Ds σ caps) H2 λc H4=>if c=true then B6 0 (some (.ref a)::Ds σ caps) H4 λv H5=>H5 p=some (.BI ys)/\ys.length<sizeLine/\N (ys++[v]) (upd H5 p (.BI (ys++[v]))) else N ys H4:=by
 obtain⟨bs,ey,sm,FH,th⟩:=pv;have e1:=L1 b hi;have ln:ys.length<=ts.length:=by rw[ey,ZA,Paired.length th];exact Gv b ts i
 refine ht H2 a t _ sm ha (ZP hi) ?_;cases c:b t with | false =>rw[c] at e1;rw[AB (by decide)];exact n ys H2 ⟨bs,ey,sm,FH,by rw[e1];simpa using th⟩ | true =>rw[c,AE rfl] at e1;rw[AE rfl];(have s2:Bi H (upd H2 p (.BI (ys++[V.ref a]))):=λd o e=>by rw[Ab (Ak e hp)];exact sm d o e);(have kt:BU H2 (upd H2 p (.BI (ys++[V.ref a]))):=OI λo' e=>by rw[FH] at e;cases e;exact⟨λ_ z=>(by cases z),λ_ _ z=>(by cases z)⟩);refine⟨_,rfl,FH,A7 (by lia),n _ _ ⟨bs++[a],by rw[ey,ZF];rfl,s2,Ac,?_⟩⟩;rw[e1];exact E2 (BB.keep kt th) (kt.BC _ _ ha)
theorem Hw{K:W.Frag}{l:Addr}{as:List Addr}(hp:H p=none)(hz:ts.length<=900)(hl:H l=some (.BI (as.map V.ref)))(th:BB H as ts)(ht:∀(H2:Hp) (a:Addr) (t:T2) (Q':Bool->Hp->Prop),Bi H H2->H2 a=some (.BC (tv t))->t∈ts->Q' (b t) H2->tt (some (.ref a)::Ds σ caps) H2 Q')(k:∀(H2:Hp) (bs:List Addr),Bi H H2->H2 p=some (.BI (bs.map V.ref))->BB H2 bs (ts.filter b)->Q H2) : ∃W:Nat->Nat->List V->Hp->Prop,(∃m,W 0 m [] (upd H p (.BI [])))/\∀i m ys H2,W i m ys H2->H2 p=some (.BI ys) /\ (((VR K l).stop i H2/\Q H2)\/((VR K l).go i H2/\∀x H3,(VR K l).SU i H2 x H3->tt (some x::Ds σ caps) H3 λb H4 =>if b=true then B6 0 (some x::Ds σ caps) H4 λv H5=>H5 p=some (.BI ys)/\ys.length<sizeLine/\∃m',m'<m/\W (i+1) m' (ys++[v]) (upd H5 p (.BI (ys++[v]))) else ∃m',m'<m/\W (i+1) m' ys H4)):=by
 have lt:=Paired.length th;refine Gb (K:=K) (a:=l) (p:=p) (xs:=as.map V.ref) (caps:=caps) (λi ys H2=>IF p b ts H i ys H2) (IF.start hp) (λi ys H2 _ pv=>?_) (λi x ys H2 N hx pv n=>?_) λys H2 pv=>?_;.obtain⟨bs,_,sm,FH,_⟩:=pv;exact⟨EC.of (sm _ _ hl),FH⟩
 .rw[ZH] at hx;cases ea:as[i]? with | none=>rw[ea] at hx;cases hx | some a =>rw[ea] at hx;have hx:V.ref a=x:=ZO hx;subst hx;obtain⟨t,et⟩:=Au (xs:=ts) (j:=i) (by have:=(ZJ ea).1;lia);have ha:=Ax th i a t ea et;obtain⟨bs,e0,sm,FH,QW⟩:=id pv;exact nB hp hz ht pv et (sm _ _ ha) n
 .obtain⟨bs,ey,sm,FH,QW⟩:=pv;rw[ZA,lt,BM] at QW;exact k H2 bs sm (by rw[<-ey];exact FH) QW
theorem Lh{α:Type}{d:Addr}{l:List α}{key:α->T2}{val:α->V}{ob:Obj}(hp:H p=none)(hz:l.length<=900)(hd:H d=some (.FJ ob (.dT (l.map λq=>(tk (key q),val q)))))(ht:∀(H2:Hp) (a:Addr) (t:T2) (Q':Bool->Hp->Prop),Bi H H2->H2 a=some (.BC (tv t))->t∈l.map key->Q' (b t) H2->tt (some (.ref a)::Ds σ caps) H2 Q')(k:∀(H2:Hp) (bs:List Addr),Bi H H2->H2 p=some (.BI (bs.map V.ref))->BB H2 bs ((l.map key).filter b)->Q H2) : ∃W:Nat->Nat->List V->Hp->Prop,(∃m,W 0 m [] (upd H p (.BI [])))/\∀i m ys H2,W i m ys H2->H2 p=some (.BI ys) /\ (((YN d (l.map λq=>(tk (key q),val q)) ob).stop i H2/\Q H2)\/((YN d (l.map λq=>(tk (key q),val q)) ob).go i H2/\∀x H3,(YN d (l.map λq=>(tk (key q),val q)) ob).SU i H2 x H3->tt (some x::Ds σ caps) H3 λb H4 =>if b=true then B6 0 (some x::Ds σ caps) H4 λv H5=>H5 p=some (.BI ys)/\ys.length<sizeLine/\∃m',m'<m/\W (i+1) m' (ys++[v]) (upd H5 p (.BI (ys++[v]))) else ∃m',m'<m/\W (i+1) m' ys H4)):=by
 have x_:(l.map key).length<=900:=by rw[ZA];exact hz
 refine⟨λi m ys H2=>m=l.length-i/\i<=l.length/\IF p b (l.map key) H i ys H2,⟨l.length,by simp,BF _,IF.start hp⟩,?_⟩;rintro i m ys H2 ⟨rfl,hi,pv⟩;obtain⟨bs,ey,sm,FH,QW⟩:=id pv;have hd2:=sm _ _ hd;refine⟨FH,?_⟩;by_cases JL:i<l.length;.refine .inr ⟨⟨hd2,by rw[ZA];exact JL⟩,λx H3 y=>?_⟩;obtain⟨e,a,kk,v,ex,ek,ha⟩:=y;subst e ex;rw[ZH] at ek;obtain⟨q,hq⟩:=Au JL;rw[hq] at ek;have ek:(tk (key q),val q)=(kk,v):=ZO ek;have e1:kk=tk (key q):=(Prod.mk.inj ek).1.symm;rw[e1,nq] at ha;exact nB (N:=λzs H'=>∃m',m'<l.length-i/\(m'=l.length-(i+1)/\i+1<=l.length/\IF p b (l.map key) H (i+1) zs H')) hp x_ ht pv (by rw[ZH,hq];rfl) ha λzs H' pz=>⟨_,by lia,rfl,JL,pz⟩
 ·(have e:i=l.length:=by lia);subst e;refine .inl ⟨⟨hd2,by rw[ZA];exact ZG _⟩,?_⟩;(have e2:(l.map key).take l.length=l.map key:=by rw[<-ZA (f:=key),BM]);rw[e2] at QW;exact k H2 bs sm (by rw[<-ey];exact FH) QW
end
def KQ(nx:T2->List T2):Nat->List T2->List T2->List T2->Prop
 | 0,ahead,found,R=>ahead=[]/\R=found
 | n+1,ahead,found,R=>∃a t,ahead=a++[t]/\((t∈found/\KQ nx n a found R)\/(t∉found/\KQ nx n (a++nx t) (found++[t]) R))
theorem KQ.len:∀{n:Nat} {ahead found R:List T2},KQ nx n ahead found R->ahead.length<=n
 | 0,_,_,_,h=>by rw[h.1];exact ZG _
 | n+1,_,_,_,⟨a,t,e,h⟩=>by rw[e,ZE];rcases h with⟨_,h⟩|⟨_,h⟩;(.have:=h.len;show a.length+1<=n+1;lia);.have:=h.len;rw[ZE] at this;show a.length+1<=n+1;lia
theorem KQ.sub:∀{n:Nat} {ahead found R:List T2},KQ nx n ahead found R->(∀t∈found,t∈R)/\∀t∈ahead,t∈R
 | 0,_,_,_,h=>by rw[h.1,h.2];exact⟨λ_ z=>z,λ_ z=>by cases z⟩
 | n+1,_,_,_,⟨a,t,e,h⟩=>by rw[e];rcases h with⟨ht,h⟩|⟨_,h⟩;(.refine⟨h.sub.1,λu hu=>?_⟩;rcases ZI hu with hu|hu;(.exact h.sub.2 u hu);·(have:u=t:=by simpa using hu);rw[this];exact h.sub.1 t ht);.refine⟨λu hu=>h.sub.1 u (ZB _ hu),λu hu=>?_⟩;rcases ZI hu with hu|hu;(.exact h.sub.2 u (ZB _ hu));.exact h.sub.1 u (ZC _ hu)
theorem KQ.closed:∀{n:Nat} {ahead found R:List T2},KQ nx n ahead found R->(∀t∈found,∀u∈nx t,u∈found\/u∈ahead)->∀t∈R,∀u∈nx t,u∈R
 | 0,_,_,_,h,c=>by rw[h.2];rw[h.1] at c;exact λt ht u hu=>(c t ht u hu).elim id λz=>by cases z
 | n+1,_,found,_,⟨a,t,e,h⟩,c=>by rw[e] at c;rcases h with⟨ht,h⟩|⟨_,h⟩;(.refine h.closed λs hs u hu=>?_;rcases c s hs u hu with z|z;(.exact .inl z);.rcases ZI z with z|z;(.exact .inr z);·(have:u=t:=by simpa using z);rw[this];exact .inl ht);.refine h.closed λs hs u hu=>?_;rcases ZI hs with hs|hs;(.rcases c s hs u hu with z|z;(.exact .inl (ZB _ z));.rcases ZI z with z|z;(.exact .inr (ZB _ z));.exact .inl (ZC _ z));·(have:s=t:=by simpa using hs);rw[this] at hu;exact .inr (ZC _ hu)
theorem KQ.least{nx:T2->List T2}{S:T2->Prop}(cl:∀t,S t->∀u∈nx t,S u):∀{n:Nat} {ahead found R:List T2},KQ nx n ahead found R->(∀t∈found,S t)->(∀t∈ahead,S t)->∀t∈R,S t
 | 0,_,_,_,h,f,_=>by rw[h.2];exact f
 | n+1,_,_,_,⟨a,t,e,h⟩,f,g=>by rw[e] at g;have gt:=g t (ZC _ (by simp));rcases h with⟨ht,h⟩|⟨_,h⟩;(.exact h.least cl f λu hu=>g u (ZB _ hu));.refine h.least cl (λu hu=>?_) λu hu=>?_;(.rcases ZI hu with hu|hu;(.exact f u hu);·(have:u=t:=by simpa using hu);rw[this];exact gt);.rcases ZI hu with hu|hu;(.exact g u (ZB _ hu));.exact cl t gt u hu
theorem Ii:∀{l:List α},l≠[]->∃a t,l=a++[t]
 | [],h=>absurd rfl h
 | [x],_=>⟨[],x,rfl⟩
 | x::y::l,_=>by obtain⟨a,t,e⟩:=Ii (l:=y::l) (by simp);exact⟨x::a,t,by rw[e];rfl⟩
theorem KQ.ex{nx:T2->List T2}{keys:List T2}{B:Nat}(sub:∀t,∀u∈nx t,u∈keys)(sz:∀t,(nx t).length<=B):∀(m:Nat)(ahead found:List T2),(∀t∈ahead,t∈keys)->(keys.filter λt=>decide (t∉found)).length*(B+1)+ahead.length<=m->∃n R,n<=m/\KQ nx n ahead found R
 | m,ahead,found,ha,hm=>by by_cases e:ahead=[];(.exact⟨0,found,BF _,e,rfl⟩);obtain⟨a,t,ea⟩:=Ii e;(have l1:ahead.length=a.length+1:=by rw[ea,ZE];rfl);have l7:∀u∈a,u∈keys:=λu hu=>ha u (by rw[ea];exact ZB _ hu);have ht:t∈keys:=ha t (by rw[ea];exact ZC _ (by simp));match m,hm with | 0,hm=>exact absurd hm (by lia) | m+1,hm =>by_cases hf:t∈found;(.obtain⟨n,R,h1,h2⟩:=KQ.ex sub sz m a found l7 (by lia);exact⟨n+1,R,by lia,a,t,ea,.inl ⟨hf,h2⟩⟩);·(have lt:(keys.filter λu=>decide (u∉found++[t])).length<(keys.filter λu=>decide (u∉found)).length:=by (have e1:(keys.filter λu=>decide (u∉found++[t]))=(keys.filter λu=>decide (u∉found)).filter λu=>decide (u≠t):=by rw[List.filter_filter];refine IL λu _=>?_;by_cases c1:u∈found<;>by_cases c2:u=t<;>simp[c1,c2]);rw[e1];refine List.length_filter_lt_length_iff_exists.mpr ⟨t,AD.mpr ⟨ht,by simpa using hf⟩,by simp⟩);have l2:=sz t;(have key:(keys.filter λu=>decide (u∉found++[t])).length*(B+1)+(a++nx t).length<=m:=by rw[ZE];have:((keys.filter λu=>decide (u∉found++[t])).length+1)*(B+1)<=(keys.filter λu=>decide (u∉found)).length*(B+1):=FC _ lt;rw[Nat.add_mul,Nat.one_mul] at this;lia);obtain⟨n,R,h1,h2⟩:=KQ.ex sub sz m (a++nx t) (found++[t]) (λu hu=>(ZI hu).elim (l7 u) (sub t u)) key;exact⟨n+1,R,by lia,a,t,ea,.inr ⟨hf,h2⟩⟩
def NX(hl:HL)(t:T2):List T2:=(Ce hl t).filter λu=>decide (u∈hl.map (·.1))
def Kb(G:BS):List T2:=(G.AF.map (·.1)).filter λt=>decide (0<Ag G.AF t)
def startT(G:BS):List T2:=(G.hand++Kb G).filter λt=>decide (t∈G.holds.map (·.1))
def keepR(G:BS)(R:List T2):BS:={ G with AF:=G.AF.filter (λq=>decide (q.1∈R)),holds:=G.holds.filter (λq=>decide (q.1∈R)) }
def Bh(G:BS)(t:T2):Bool:=decide (t∈G.hand) || G.holds.any λq=>decide (t∈q.2.2)
def GV(G:BS):BS:={ G with AM:=G.AM.filter λq=>Bh G q.1 }
section
theorem Om(s:hl.Sublist G.holds):(BG { G with holds:=hl }).Sublist (BG G):=by unfold BG;exact((((s.map _).cons₂ _).cons₂ _).cons₂ _).cons₂ _
theorem AQ.RI(x:AQ C H p G){hl:HL}(s:hl.Sublist G.holds):AQ C (upd H G.l (Ec hl)) p { G with holds:=hl }:=by obtain⟨⟨a1,a2,a3⟩,⟨b1,b2⟩,c1,d1⟩:=x.TY;have np:=x.OK (b:=G.l) (by simp[BG]);obtain⟨dx,e⟩:=x.ob;exact⟨⟨dx,by rw[Ab np.symm];exact e⟩,by rw[Ab a2];exact x.dh,by rw[Ab b1];exact x.dO,Ac,by rw[Ab c1.symm];exact x.dr,λq hq=>by rw[Ab (d1 q (s.subset hq)).2.2.1];exact x.hl q (s.subset hq),x.nd.sublist (Om s)⟩
end
theorem Jcz{d:Addr}{kvs:List (List Key×V)}{ob:Obj}{g:TG}{tb:TS}{D:Ends}{σ:L2.St}{H:Hp}(Pv:Nat->L2.St->Hp->Prop)(h0:Pv 0 σ H)(hf:∀i σ H,i<=kvs.length->Pv i σ H->H d=some (.FJ ob (.dT kvs)))(hs:∀i a k v σ H,kvs[i]?=some (k,v)->H a=some (.BC (k.map kV))->Pv i σ H->g (.ref a) σ H λNV H2=>tb { D with nx:=Pv (i+1),ct:=Pv (i+1),bk:=D.nx } NV H2)(hd:∀σ H,Pv kvs.length σ H->D.nx σ H) : ∃W:Nat->Nat->L2.St->Hp->Prop,(∃m,W 0 m σ H)/\∀i m σ H,W i m σ H -> ((YN d kvs ob).stop i H/\D.nx σ H)\/((YN d kvs ob).go i H/\∃N:L2.St->Hp->Prop,(∀EV H',N EV H'->∃m',m'<m/\W (i+1) m' EV H')/\∀x H',(YN d kvs ob).SU i H x H'->g x σ H' λNV H2=>tb { D with nx:=N,ct:=N,bk:=D.nx } NV H2):=by
 refine⟨λi m σ H=>m=kvs.length-i/\i<=kvs.length/\Pv i σ H,⟨kvs.length,by simp,BF _,h0⟩,?_⟩;rintro i m σ H ⟨rfl,hi,pv⟩;have fz:=hf i σ H hi pv;by_cases JL:i<kvs.length;.refine .inr ⟨⟨fz,JL⟩,Pv (i+1),λEV H' p'=>⟨kvs.length-(i+1),by lia,rfl,JL,p'⟩,λx H' y=>?_⟩;obtain⟨e,a,k,v,ex,ek,ha⟩:=y;subst e ex;exact hs i a k v σ _ ek ha pv
 ·(have e:i=kvs.length:=by lia);subst e;exact .inl ⟨⟨fz,ZG _⟩,hd σ H pv⟩
def Eb(l m:List T2):List T2:=m.foldl Bt l
theorem N4:∀{m l:List T2} {t:T2},t∈Eb l m↔t∈l\/t∈m
 | [],l,t=>by simp[Eb]
 | u::m,l,t=>by show t∈Eb (Bt l u) m↔_;rw[N4,DB,BZ,or_assoc]
theorem O5:∀(m l:List T2),(Eb l m).length<=l.length+m.length
 | [],l=>ZG _
 | u::m,l=>by have h1:(Eb (Bt l u) m).length<=_:=O5 m (Bt l u);have h2:=Ht l u;show(Eb (Bt l u) m).length<=l.length+(m.length+1);lia
theorem O4:∀(m l:List T2),(l++m).Nodup->Eb l m=l++m
 | [],l,_=>(AH l).symm
 | u::m,l,nd=>by (have nu:u∉l:=λz=>by rw[AO] at nd;exact nd.2.2 u z u (ZL ..) rfl);(have e2:l++[u]++m=l++u::m:=by rw[AW];rfl);show Eb (Bt l u) m=_;(have e3:Bt l u=l++[u]:=by unfold Bt;rw[AB nu]);rw[e3,O4 m _ (by rw[e2];exact nd),e2]
theorem G9:∀(m l:List T2),Ew (l.map λq=>(tk q,V.bl true)) (m.map λq=>(tk q,V.bl true))=(Eb l m).map λq=>(tk q,V.bl true)
 | [],l=>rfl
 | u::m,l=>by show Ew (putK (l.map λq=>(tk q,V.bl true)) (tk u) (V.bl true)) (m.map λq=>(tk q,V.bl true))=_;rw[Eh];exact G9 m (Bt l u)
theorem Ly{α:Type}{l:List α}{k:α->T2}{f:α->V}{t:T2}:((l.find? λq=>decide (k q=t)).map f).isSome=decide (t∈l.map k):=by grind
theorem K9{H:Hp}{d a:Addr}{α:Type}{l:List α}{k:α->T2}{f:α->V}{t:T2}(hd:Rd H d (.dT (l.map λq=>(tk (k q),f q))))(ha:H a=some (.BC (tv t))):∃o,DJ H d (.ref a) o/\o.isSome=decide (t∈l.map k) :=⟨_,.inr ⟨_,tk t,a,hd,rfl,ha,rfl⟩,by rw[Dk];exact Ly⟩
theorem Yv(a:List α)(t:α):(a++[t])[(a++[t]).length-1]?=some t:=by rw[ZE];simp
theorem T5(th:BB H as (a++[t])):∃(bs:List Addr)(c:Addr),as=bs++[c]/\BB H bs a/\H c=some (.BC (tv t)):=by
 have hl:=Paired.length th;have ne:as≠[]:=λz=>by rw[z] at hl;simp at hl
 obtain⟨bs,c,e⟩:=Ii ne;subst e;have l2:bs.length=a.length:=by rw[ZE,ZE] at hl;simpa using hl
 refine⟨bs,c,rfl,?_,?_⟩;·(have go:∀{xs:List Addr} {ys:List T2} {x:Addr} {y:T2},xs.length=ys.length->BB H (xs++[x]) (ys++[y])->BB H xs ys:=by intro xs;induction xs with | nil=>intro ys x y h _;(cases ys with | nil=>exact .nil | cons _ _=>simp at h) | cons x0 xs ih=>intro ys x y h q;cases ys with | nil=>simp at h | cons y0 ys =>cases q with | cons h1 q=>exact .cons h1 (ih (by simpa using h) q));exact go l2 th
 .exact Ax th bs.length c t (by simp) (by rw[l2];simp)
theorem Ji:∀{as:List Addr} {ts:List T2} {bs:List Addr} {us:List T2},BB H as ts->BB H bs us->BB H (as++bs) (ts++us)
 | _,_,_,_,.nil,r=>r
 | _,_,_,_,.cons h t,r=>.cons h (Ji t r)
theorem Et{α:Type}(k:α->T2)(l:List α){ts:List T2}{i:Nat}{t:T2}(h:ts[i]?=some t):(l.filter λq=>decide (k q∉ts.take (i+1)))=(l.filter λq=>decide (k q∉ts.take i)).filter λq=>decide (k q≠t):=by rw[List.filter_filter,List.take_succ,h];refine IL λq _=>?_;by_cases c1:k q∈ts.take i<;>by_cases c2:k q=t<;>simp[c1,c2]
theorem C6(k:α->T2)(l:List α)(f:T2->Bool):(l.filter λq=>f (k q)).map k=(l.map k).filter f:=by rw[OF];rfl
theorem Fq{α:Type}{l:List α}{k:α->T2}{f:α->V}{t:T2}(h:t∈l.map k):∃v,B9 (l.map λq=>(tk (k q),f q)) (tk t)=some v:=by rw[Dk];have:=Ly (l:=l) (k:=k) (f:=f) (t:=t);rw[AJ h] at this;exact Option.isSome_iff_exists.mp this
def Al(G:BS)(ts:List T2):BS:={ G with AF:=G.AF.filter (λq=>decide (q.1∉ts)),holds:=G.holds.filter (λq=>decide (q.1∉ts)) }
theorem Ox(G:BS):Al G []=G:=by
 have a1:G.AF.filter (λq=>decide (q.1∉([]:List T2)))=G.AF:=EM.mpr λq _=>by simp
 have a2:G.holds.filter (λq=>decide (q.1∉([]:List T2)))=G.holds:=EM.mpr λq _=>by simp
 unfold Al;rw[a1,a2]
theorem FN{α:Type}{k:α->T2}{l:List α}(nd:(l.map k).Nodup){q:α}(hq:q∈l):l.find? (λr=>decide (k r=k q))=some q:=by cases e:l.find? λr=>decide (k r=k q) with | none=>have:=BA.mp e q hq;simp at this | some r =>(have h1:k r=k q:=by simpa using DK e);rw[Fd nd (AX e) hq h1]
def Ct(hand:List T2)(qs:HL):List T2:=qs.foldl (λl q=>Eb l q.2.2) hand
theorem IV:∀{qs:HL} {hand:List T2} {t:T2},t∈Ct hand qs↔t∈hand\/∃q∈qs,t∈q.2.2
 | [],hand,t=>by simp[Ct]
 | q::qs,hand,t=>by show t∈Ct (Eb hand q.2.2) qs↔_;rw[IV,N4,or_assoc];simp
theorem Lz:∀{qs:HL} {hand:List T2},(∀q∈qs,q.2.2.length<=B)->(Ct hand qs).length<=hand.length+qs.length*B
 | [],hand,_=>by simp[Ct]
 | q::qs,hand,h=>by have h1:(Ct (Eb hand q.2.2) qs).length<=_:=Lz λr hr=>h r (ZD _ hr);have h2:=O5 q.2.2 hand;have h3:=h q (ZL ..);show(Ct (Eb hand q.2.2) qs).length<=hand.length+(qs.length+1)*B;rw[Nat.add_mul,Nat.one_mul];lia
theorem Tq(hand:List T2){qs:HL}{i:Nat}{q:T2×Addr×List T2}(h:qs[i]?=some q):Ct hand (qs.take (i+1))=Eb (Ct hand (qs.take i)) q.2.2:=by unfold Ct;rw[List.take_succ,h,LU];rfl
theorem Jai(G:BS)(t:T2):(decide (t∈Ct G.hand G.holds))=Bh G t:=by
 unfold Bh;by_cases h:t∈Ct G.hand G.holds;.rw[AJ h];rcases IV.mp h with h|⟨q,hq,h⟩;(.simp[h]);.have:(G.holds.any λq=>decide (t∈q.2.2))=true:=JF.mpr ⟨q,hq,by simpa using h⟩;rw[this];simp
 .rw[AG h];have h1:t∉G.hand:=λz=>h (IV.mpr (.inl z));(have h2:(G.holds.any λq=>decide (t∈q.2.2))=false:=by rw[List.any_eq_false];intro q hq z;exact h (IV.mpr (.inr ⟨q,hq,by simpa using z⟩)));simp[h1,h2]
theorem Tr{α:Type}{b:α->Bool}{ts:List α}{i:Nat}{t:α}(h:ts[i]?=some t):(ts.take (i+1)).filter b=(ts.take i).filter b++(if b t=true then [t] else []):=L1 b h
theorem K7(b:α->Bool)(ts:List α)(i:Nat):((ts.take i).filter b).length<=ts.length:=Gv b ts i
theorem Lv:∀{l:List α} {i:Nat} {t:α},l.Nodup->l[i]?=some t->t∉l.take i
 | [],_,_,_,h=>by simp at h
 | x::l,0,t,_,_=>by simp
 | x::l,i+1,t,nd,h=>by have nd:=AV.mp nd;(have h:l[i]?=some t:=by simpa using h);rw[List.take_succ_cons];intro z;rcases ZM z with z|z;(.exact nd.1 (by rw[<-z];exact ZP h));.exact Lv nd.2 h z
def HP(H:Hp):List Addr->List (T2×Int)->Prop:=Paired λa q=>∃c,H a=some (.BC [.ref c,.int q.2])/\H c=some (.BC (tv q.1))
theorem HP.keep(k:BU H H')(x:HP H as bs):HP H' as bs:=As (λ_ _ h9=>by obtain⟨c,e1,e2⟩:=h9;exact⟨c,k.BC _ _ e1,k.BC _ _ e2⟩) x
theorem Yw{H:Hp}{val:T2->V}:∀{l:List T2} {as:List Addr},jn H (l.map λq=>(tk q,val q)) as->BB H as l
 | [],as,h=>by cases h;exact .nil
 | t::l,as,h=>by cases h with | cons h1 h2=>exact .cons (by rw[<-nq];exact h1) (Yw h2)
theorem Qi{α:Type}(k:α->T2){l:List α}{ks R:List T2}(h:∀q∈l,k q∈ks):(l.filter λq=>decide (k q∉ks.filter λt=>decide (t∉R)))=l.filter λq=>decide (k q∈R):=IL λq hq=>by by_cases c:k q∈R;(·(have:k q∉ks.filter λt=>decide (t∉R):=λz=>by have:=(AD.mp z).2;simp[c] at this);simp[c]);.have:k q∈ks.filter λt=>decide (t∉R):=AD.mpr ⟨h q hq,by simpa using c⟩;simp[c,h q hq]
theorem Tt{G:BS}{R:List T2}(ke:G.holds.map (·.1)=G.AF.map (·.1)):Al G ((G.AF.map (·.1)).filter λt=>decide (t∉R))=keepR G R:=by
 have h1:=Qi (λq:T2×Int=>q.1) (l:=G.AF) (ks:=G.AF.map (·.1)) (R:=R) λq hq=>BD hq;have h2:=Qi (λq:T2×Addr×List T2=>q.1) (l:=G.holds) (ks:=G.AF.map (·.1)) (R:=R) λq hq=>by rw[<-ke];exact BD hq
 unfold Al keepR;rw[h1,h2]
theorem Wy:aP (.list []):=J6 λ_ h=>by cases h
theorem uY(ts:List T2)(h:b∈BG (Al G ts)):b∈BG G:=by have:(BG (Al G ts)).Sublist (BG G):=Om (G:={ G with AF:=(Al G ts).AF }) EL;exact this.subset h
section
theorem Jbp(h:t∉l.map (·.1))(v:Int):Ba l t v=l++[(t,v)]:=by unfold Ba;rw[AB h]
theorem Ea(h:t∉l.map (·.1)):Ag l t=0:=by unfold Ag;rw[BA.mpr λq hq=>by have:¬q.1=t:=λz=>h (AI.mpr ⟨q,hq,z⟩);simpa using this];rfl
end
theorem Zj(h:(BG G).Nodup):(G.holds.map (·.2.1)).Nodup:=by unfold BG at h;simp only[AV] at h;exact h.2.2.2.2
section
variable {p:Addr}{H H':Hp}{G:BS}
end
section
variable {G M:BS}{n:Nat}{R:List T2}
theorem Jgw(ok:Ok G n){q:T2×Addr×List T2}(hq:q∈G.holds){t:T2}(ht:t∈q.2.2)(e:t∈G.holds.map (·.1)):t∈NX G.holds q.1:=by
 have nd:(G.holds.map (·.1)).Nodup:=by rw[ok.ke];exact ok.on
 have f:=FN (k:=λq:T2×Addr×List T2=>q.1) nd hq;have:Ce G.holds q.1=q.2.2:=by unfold Ce;rw[f];rfl
 unfold NX;rw[this];exact AD.mpr ⟨ht,by simpa using e⟩
theorem Ok.keepR(ok:Ok G n)(st:∀t∈startT G,t∈R)(cl:∀t∈R,∀u∈NX G.holds t,u∈R):Ok (FX.keepR G R) n:=by
 have mem:∀t,t∈G.AF.map (·.1)->t∈R->t∈(G.AF.filter λq=>decide (q.1∈R)).map (·.1):=λt h1 h2=>by rw[C6 (λq:T2×Int=>q.1) G.AF (λt=>decide (t∈R))];exact AD.mpr ⟨h1,by simpa using h2⟩
 have sub:∀t,t∈(G.AF.filter λq=>decide (q.1∈R)).map (·.1)->t∈G.AF.map (·.1):=λt h=>(List.filter_sublist.map _).subset h;refine⟨ok.hn,ok.hz,ok.on.sublist (List.filter_sublist.map _),BE (AS _ _) ok.oz,?_,ok.rn,ok.rz,λq hq=>ok.ln q (AD.mp hq).1,λt ht=>ok.new t (sub t ht),λt ht e=>?_,λq hq t ht e=>?_,ok.rk⟩;.show(G.holds.filter λq=>decide (q.1∈R)).map (·.1)=(G.AF.filter λq=>decide (q.1∈R)).map (·.1);rw[C6 (λq:T2×Addr×List T2=>q.1) G.holds (λt=>decide (t∈R)),C6 (λq:T2×Int=>q.1) G.AF (λt=>decide (t∈R)),ok.ke]
 .have h1:=ok.hk t ht e;refine mem t h1 (st t ?_);unfold startT;exact AD.mpr ⟨ZB _ ht,by rw[ok.ke];simpa using h1⟩
 .obtain⟨aE,aD⟩:=AD.mp hq;have h1:=ok.lk q aE t ht e;exact mem t h1 (cl q.1 (by simpa using aD) t (Jgw ok aE ht (by rw[ok.ke];exact h1)))
theorem Ok.GV(ok:Ok G n):Ok (FX.GV G) n :=⟨ok.hn,ok.hz,ok.on,ok.oz,ok.ke,ok.rn.sublist (List.filter_sublist.map _),BE (AS _ _) ok.rz,ok.ln,ok.new,ok.hk,ok.lk,λt ht=>ok.rk t ((List.filter_sublist.map _).subset ht)⟩
theorem Zq(G:BS):∀t∈startT G,t∈G.holds.map (·.1):=λt ht=>by have:=(AD.mp ht).2;simpa using this
theorem vK(hl:HL)(t:T2):∀u∈NX hl t,u∈hl.map (·.1):=λu hu=>by have:=(AD.mp hu).2;simpa using this
end
section
end
section
end
theorem Na(h:n<=100000):n<sizeLine:=IB h (by decide)
def cN:List Int->Bool
 | []=>true
 | [_]=>true
 | x::y::l=>decide (x<y)&&cN (y::l)
theorem vW:∀{l:List Int} {x:Int},cN (x::l)=true->∀y∈l,x<y
 | [],_,_,y,hy=>by simp at hy
 | z::l,x,h,y,hy=>by unfold cN at h;rw[JG] at h;have h1:=BL h.1;rcases ZM hy with rfl|hy;(.exact h1);.exact Int.lt_trans h1 (vW h.2 y hy)
theorem vX:∀{l:List Int},cN l=true->l.Nodup
 | [],_=>CN
 | [x],_=>by simp
 | x::y::l,h=>by have h':=h;unfold cN at h';rw[JG] at h';exact AV.mpr ⟨λm=>Int.lt_irrefl _ (vW h x m),vX h'.2⟩
def aT:List (Nat×Nat):=(List.range 12).flatMap λn=>(List.range 60).map λj=>(n,j)
def WJ:List Int:=aT.map λp=>hN p.1 p.2
def ju(x:Int):List Int->List Int
 | []=>[x]
 | y::l=>if x<y then x::y::l else y::ju x l
theorem P8(x:Int):∀l:List Int,(ju x l).Perm (x::l)
 | []=>.refl _
 | y::l=>by unfold ju;split;(.exact .refl _);.exact((P8 x l).cons y).trans (List.Perm.swap x y l)
def jw:List Int->List Int
 | []=>[]
 | x::l=>ju x (jw l)
theorem Pn:∀l:List Int,(jw l).Perm l
 | []=>.refl _
 | x::l=>(P8 x (jw l)).trans ((Pn l).cons x)
theorem Jeb:cN (jw WJ)=true:=ZV
theorem Jec:WJ.Nodup:=(Pn WJ).nodup_iff.mp (vX Jeb)
def RU(t:T2):Prop:=0<=t.1/\t.1<12/\0<=t.2/\t.2<60
theorem Jaj(ht:RU t)(hu:RU u)(e:Kg w (tk t)=Kg w (tk u)):t=u:=by
 have bC:∀v:T2,0<=v.1->0<=v.2->Kg w (tk v)=hN v.1.toNat v.2.toNat:=λv h1 h2=>by show reduceHash (Builtin.Tuple.tupleHashOf [hashInt v.1,hashInt v.2])=reduceHash (Builtin.Tuple.tupleHashOf [hashInt (v.1.toNat:Int),hashInt (v.2.toNat:Int)]);rw[BH h1,BH h2]
 obtain⟨a0,a1,a2,a3⟩:=ht;obtain⟨b0,b1,b2,b3⟩:=hu;rw[bC t a0 a2,bC u b0 b2] at e;have m:∀v:T2,0<=v.1->v.1<12->0<=v.2->v.2<60->(v.1.toNat,v.2.toNat)∈aT:=λv h0 h1 h2 h3 =>D_.mpr ⟨v.1.toNat,BQ.mpr (by lia),AI.mpr ⟨v.2.toNat,BQ.mpr (by lia),rfl⟩⟩;have:=Fd (f:=λp:Nat×Nat=>hN p.1 p.2) Jec (m t a0 a1 a2 a3) (m u b0 b1 b2 b3) e;have e1:=congrArg Prod.fst this;have e2:=congrArg Prod.snd this;simp only at e1 e2;exact Prod.ext (by lia) (by lia)
theorem Vm:∀{ts:List T2},ts.Nodup->(∀t∈ts,RU t)->(ts.map λt=>Kg w (tk t)).Nodup
 | [],_,_=>CN
 | t::ts,nd,hr=>by have nd:=AV.mp nd;refine AV.mpr ⟨λm=>?_,Vm nd.2 λu hu=>hr u (ZD _ hu)⟩;obtain⟨u,hu,e⟩:=ZN m;exact nd.1 ((Jaj (hr t (ZL ..)) (hr u (ZD _ hu)) e.symm)▸hu)
theorem Og{w:World}{l:List T2}(nd:l.Nodup)(hr:∀t∈l,RU t):((l.map λq=>(tk q,V.bl true)).map λq=>Kg w q.1).Nodup:=by rw[AR];exact Vm nd hr
def vA(o:Obj):Prop:=o.cls=.type "tuple"/\o.dict=none/\∃xs k,o.data=.seq xs k
section
theorem O0:Fm X (.type "tuple") (λxs H Q=>∃p ys,xs=[.ref p]/\EC X.K H p ys/\∀l o,H l=none->vA o->Q (.ref l) (upd H l (.FJ o (.BC ys)))):=by intro AA s σ H xs us Q I r h;obtain⟨p,ys,rfl,hq,q⟩:=h;obtain⟨u,rfl,rx⟩:=vals1 r;cases rx;obtain⟨its,r',pl,hz⟩:=I.list hq;have hlen:=r'.length;refine call_tuple_list pl.isList (λh' kp=>?_) (by simp only[A_]<;>lia);have I1:Inv X AA σ H { s with heap:=h' }:=I.kept (t':=s.toks) kp;have I2:Inv X AA σ (upd H h'.objs.size (.FJ { cls:=.type "tuple",data:=.seq its.toArray } (.BC ys))) { s with heap:=h'.push { cls:=.type "tuple",data:=.seq its.toArray } } :=I1.laid (t':=s.toks) (λb o e=>ZT _ e) (ZG _) (show CZ X.prog X.w _ _ _ (.FJ _ (.BC ys)) from⟨ZU _ rfl,hz,its,r',IsTup.new _ _⟩);exact⟨.ref h'.objs.size,_,I2,rfl,q _ _ (I1.CT.fresh (ZG _)) ⟨rfl,rfl,_,_,rfl⟩⟩
end
section
end
section
end
section
variable {X:Cx}
end
end FX
namespace K61
open PySem L2 FX
abbrev CV(P : Program)(w : World)(K : W.Frag)(mg : Str -> Option Value)(base : Heap) := DZ P w K mg base VS
abbrev EU(P : Program)(w : World)(K : W.Frag)(mg : Str -> Option Value)(base : Heap) := DZ P w K mg base (RW P w)
def top(i:Nat):Stmt:=PySem.Challenge.pw_farhold_k61_whole_weights_add_up.main.body.getD i (.Pass ⟨0,0,0,0⟩)
abbrev Yd:Stmt:=inClass (top 14) 0
abbrev Yb:Stmt:=inClass (top 14) 1
abbrev Ye:Stmt:=inClass (top 14) 2
abbrev Yg:Stmt:=inClass (top 14) 3
abbrev X7:Stmt:=inClass (top 14) 4
abbrev Yf:Stmt:=inClass (top 14) 5
abbrev Ya:Stmt:=inClass (top 14) 6
abbrev Yh:Stmt:=inClass (top 14) 7
abbrev R3:Stmt:=inClass (top 14) 8
abbrev R0:Stmt:=inClass (top 14) 9
abbrev Mg:Stmt:=inClass (top 14) 10
abbrev X6:Stmt:=inClass (top 14) 13
abbrev Ng:Stmt:=inClass (top 14) 14
abbrev X5:Stmt:=inClass (top 14) 15
abbrev Ie:Stmt:=inClass (top 14) 16
abbrev Gi:Stmt:=inClass (top 14) 18
abbrev Ik:Stmt:=inClass (top 14) 19
abbrev Jt:Stmt:=inClass (top 14) 20
abbrev Rx:Stmt:=inClass (top 14) 21
abbrev Uk:Stmt:=inClass (top 14) 22
abbrev Uj:Stmt:=top 25
abbrev Jr:Stmt:=top 12
abbrev E9:Stmt:=top 10
abbrev Gh:Stmt:=top 16
abbrev Hk:Stmt:=top 17
abbrev Rz:Stmt:=inClass (top 19) 0
abbrev Mj:Stmt:=inClass (top 19) 1
abbrev Ju:Stmt:=inClass (top 19) 2
abbrev Mi:Stmt:=inClass (top 19) 3
abbrev Jv:Stmt:=inClass (top 19) 4
abbrev Yc:Stmt:=inClass (top 14) 12
abbrev X4:Stmt:=inClass (top 23) 8
abbrev Hj:Stmt:=inClass (top 23) 17
abbrev Ez:Stmt:=inClass (top 23) 18
abbrev Hh:Stmt:=inClass (top 23) 19
abbrev G0:Stmt:=inClass (top 23) 20
abbrev Jq:Stmt:=inClass (top 23) 21
abbrev X9:Stmt:=top 26
abbrev Jw:Stmt:=top 27
abbrev Ui:Stmt:=top 28
abbrev jD:Stmt:=top 29
abbrev jy:Stmt:=top 30
abbrev Rv:Stmt:=top 31
abbrev Jo:Stmt:=top 32
abbrev X8:Stmt:=top 33
abbrev Rw:Stmt:=top 34
abbrev Zu:Stmt:=top 35
structure Txt(K:W.Frag)(mg:Str->Option Value)(C Cn DO MI NW:Addr):Prop where
 cl:RV K C
 nN:DR K C "number"
 nM:DR K C "made"
 nT:DR K C "ticks"
 nH:DR K C "hand"
 nO:DR K C "outs"
 nL:DR K C "holds"
 nR:DR K C "records"
 a7:mg "House"=some (.ref C)
 pb:Tv K mg "NotHeld" Cn
 pZ:Tv K mg "NotNear" DO
 cMI:Tv K mg "Missing" MI
 uN:Tv K mg "NoWeight" NW
 len:mg "len"=none
 range:mg "range"=none
 tuple:mg "tuple"=none
 sorted:mg "sorted"=none
 rG:mg "isinstance"=none
def Re(C:Addr):Sp:=λvs H Q _=>∃(p t:Addr)(G:BS)(th:T2),vs=[.ref p,.ref t]/\AQ C H p G/\H t=some (.BC (tv th))/\Q (.bl (decide (th.1=G.BP))) H
def Jm(C Cn:Addr):Sp:=λvs H Q E=>∃(p t:Addr)(G:BS)(th:T2),vs=[.ref p,.ref t]/\AQ C H p G/\H t=some (.BC (tv th))/\((th∈G.hand/\Q .EE H)\/(th∉G.hand/\E (.ref Cn) none H))
def Rc(C DO:Addr):Sp:=λvs H Q E=>∃(p t:Addr)(G:BS)(th:T2),vs=[.ref p,.ref t]/\AQ C H p G/\H t=some (.BC (tv th))/\((th.1=G.BP/\Q .EE H)\/(th.1≠G.BP/\E (.ref DO) none H))
def T1(G:BS)(ta tb:T2)(good:Addr->List T2->Prop)(nh nn mi:Prop):Prop :=
 (ta∉G.hand/\nh)\/(ta∈G.hand/\ta.1≠G.BP/\nn)\/(ta∈G.hand/\ta.1=G.BP/\∃(a:Addr)(hl:List T2),G.holds.find? (λq=>decide (q.1=ta))=some (ta,a,hl)/\((tb∉hl/\mi)\/(tb∈hl/\good a hl)))
def M9(C Cn DO MI:Addr):Sp:=λvs H Q E=>∃(p a b:Addr)(G:BS)(ta tb:T2),vs=[.ref p,.ref a,.ref b]/\AQ C H p G/\H a=some (.BC (tv ta))/\H b=some (.BC (tv tb)) /\
 T1 G ta tb (λ_ _=>Q .EE H) (E (.ref Cn) none H) (E (.ref DO) none H) (E (.ref MI) none H)
section
theorem wD:Ao ["self","thing"] ["self","thing"] (Aj Ie):={}
theorem R9(F:EK K "is_near" "House.is_near" Ie f fd)(T:Txt K mg C Cn DO MI NW):CV P w K mg base 1 f fd ["self","thing"] (Re C):=by refine F.IQ wD λvs H Q E h=>?_;obtain⟨p,t,G,th,rfl,S,ht,k⟩:=h;refine⟨rfl,λDP A outer s hr=>?_⟩;obtain⟨dx,hp⟩:=S.ob;refine⟨_,Ae (Ar (Jgl (Jgo (Az Av (pv 1) Ah) (An (pv 0) rfl)))),?_⟩;exact⟨_,rfl,⟨t,_,0,_,rfl,rfl,CL.of ht,rfl,_,rfl,p,C,dx,_,_,rfl,hp,T.cl,T.nN,Qb G,_,_,rfl,rfl,k⟩⟩
theorem Fl(hd:H d=some (A9 l))(ht:H t=some (.BC (tv th))):DJ H d (.ref t) (if th∈l then some (V.bl true) else none):=by have:=DJ.t (k:=tk th) hd ht;rw[Fs] at this;exact this
theorem Jjy:Ao ["self","thing"] ["self","thing"] (Aj Gi):={}
theorem J7(F:EK K "need_in_hand" "House.need_in_hand" Gi f fd)(T:Txt K mg C Cn DO MI NW):EU P w K mg base 1 f fd ["self","thing"] (Jm C Cn):=by
 refine F5 F Jjy λvs H Q E h=>?_;obtain⟨p,t,G,th,rfl,S,ht,k⟩:=h;refine⟨rfl,λDP A outer s hr=>?_⟩;have hu:=B3 hr;obtain⟨dx,hp⟩:=S.ob;refine⟨_,Ae (Bf (Dq (D5 hu (pv 1) (An (pv 0) rfl))) (Ae (F1 rfl rfl T.pb Gj)) A4),?_⟩;refine⟨_,rfl,_,rfl,p,C,dx,_,_,rfl,hp,T.cl,T.nH,E4 G,G.h,_,rfl,Fl S.dh ht,_,rfl,?_⟩;rcases k with⟨h,k⟩|⟨h,k⟩;.rw[AE h];exact Cd k
 .rw[AB h];exact Ck k
end
structure CO(K:W.Frag)(C:Addr)(x qual:Str)(st:Stmt)(ps:List Str)(f:Addr)(fd:FuncData):Prop where
 fn:EK K x qual st f fd
 bd:Binds K fd ps []
 mt:f_ K C x f
section
theorem Jjx:Ao ["self","thing"] ["self","thing"] (Aj Ik):={}
theorem U2(F:EK K "need_near" "House.need_near" Ik f fd)(T:Txt K mg C Cn DO MI NW)(M1:CO K C "is_near" "House.is_near" Ie ["self","thing"] f1 X_):EU P w K mg base 2 f fd ["self","thing"] (Rc C DO):=by
 have G1:EU P w K mg base 1 f1 X_ ["self","thing"] (Re C):=FX.DZ.RO (R9 M1.fn T);refine F5 F Jjx λvs H Q E h=>?_;obtain⟨p,t,G,th,rfl,S,ht,k⟩:=h;refine⟨rfl,λDP A outer s hr=>?_⟩;have hu:=B3 hr;obtain⟨dx,hp⟩:=S.ob;refine⟨_,Ae (Bf (Wr (Eu (Ap (pl:=_) (pv 0) T.cl M1.mt G1 hr M1.bd .nil Bm (Aa (pv 1) Af)))) (Ae (F1 rfl rfl T.pZ Gj)) A4),?_⟩;refine⟨_,rfl,p,dx,_,rfl,hp,By G ZV,_,rfl,p,t,G,th,rfl,S,ht,_,rfl,?_⟩;rcases k with⟨h,k⟩|⟨h,k⟩;.rw[AJ h];exact Cd k
 .rw[AG h];exact Ck k
theorem Jh3:Ao ["self","a","b"] ["self","a","b"] (Aj Jt):={}
theorem La(S:AQ C H p G)(ht:H t=some (.BC (tv th)))(f:G.holds.find? (λq=>decide (q.1=th))=some (th,a,hl)):DJ H G.l (.ref t) (some (V.ref a))/\H a=some (A9 hl)/\(th,a,hl)∈G.holds:=by have:=DJ.t (k:=tk th) S.dl ht;rw[Dk (k:=λq:T2×Addr×List T2=>q.1) (f:=λq=>V.ref q.2.1),f] at this;exact⟨this,S.hl _ (AX f),AX f⟩
theorem Py(F:EK K "need_holding" "House.need_holding" Jt f fd)(T:Txt K mg C Cn DO MI NW)(M1:CO K C "is_near" "House.is_near" Ie ["self","thing"] f1 X_)(M2:CO K C "need_in_hand" "House.need_in_hand" Gi ["self","thing"] f2 XZ)(M3:CO K C "need_near" "House.need_near" Ik ["self","thing"] f3 fF):EU P w K mg base 3 f fd ["self","a","b"] (M9 C Cn DO MI):=by
 have G2:EU P w K mg base 1 f2 XZ ["self","thing"] (Jm C Cn):=J7 M2.fn T;have G3:EU P w K mg base 2 f3 fF ["self","thing"] (Rc C DO):=U2 M3.fn T M1;refine F5 F Jh3 λvs H Q E h=>?_;obtain⟨p,a,b,G,ta,tb,rfl,S,ha,hb,k⟩:=h;refine⟨rfl,λDP A outer s hr=>?_⟩;have hu:=B3 hr;have GO:CU 1 _:=hr.mono (by decide);obtain⟨dx,hp⟩:=S.ob;refine⟨_,Ad (A5 (Ap (pl:=_) (pv 0) T.cl M2.mt G2 GO M2.bd .nil Bm (Aa (pv 1) Af))) (Ad (A5 (Ap (pl:=_) (pv 0) T.cl M3.mt G3 hr M3.bd .nil Bm (Aa (pv 1) Af))) (Ae (Bf (Dq (D5 hu (pv 2) (Cp hu (An (pv 0) rfl) (pv 1)))) (Ae (F1 rfl rfl T.cMI Gj)) A4))),?_⟩;refine⟨_,rfl,p,dx,_,rfl,hp,By G ZV,_,rfl,p,a,G,ta,rfl,S,ha,?_⟩;rcases k with⟨h,k⟩|⟨h,h2,k⟩|⟨h,h2,ad,hl,RL,k⟩;.exact .inr ⟨h,k⟩
 .refine .inl ⟨h,_,rfl,p,dx,_,rfl,hp,By G ZV,_,rfl,p,a,G,ta,rfl,S,ha,.inr ⟨h2,k⟩⟩
 .obtain⟨g1,g2,g3⟩:=La S ha RL;refine .inl ⟨h,_,rfl,p,dx,_,rfl,hp,By G ZV,_,rfl,p,a,G,ta,rfl,S,ha,.inl ⟨h2,?_⟩⟩;refine⟨_,rfl,_,rfl,p,C,dx,_,_,rfl,hp,T.cl,T.nL,Dw G,_,rfl,G.l,_,rfl,g1,ad,_,rfl,Fl g2 hb,_,rfl,?_⟩;rcases k with⟨h3,k⟩|⟨h3,k⟩;(.rw[AB h3];exact Ck k);.rw[AE h3];exact Cd k
end
section
def Done(C:Addr)(p:Addr)(G:BS)(H:Hp)(G':BS)(k:Hp->Prop):Prop:=∀H',AQ C H' p G'->Q_ p G H H'->k H'
def Rg(C Cn DO:Addr):Sp:=λvs H Q E=>∃(p a b:Addr)(G:BS)(ta tb:T2),vs=[.ref p,.ref a,.ref b]/\AQ C H p G/\H a=some (.BC (tv ta))/\H b=some (.BC (tv tb)) /\
 ((¬(ta∈G.hand/\tb∈G.hand)/\E (.ref Cn) none H)\/(ta∈G.hand/\tb∈G.hand/\ta.1≠G.BP/\E (.ref DO) none H) \/
  (ta∈G.hand/\tb∈G.hand/\ta.1=G.BP/\∃(ad:Addr)(hl:List T2),G.holds.find? (λq=>decide (q.1=ta))=some (ta,ad,hl)/\hl.length<=500 /\
   Done C p G H { G with AZ:=G.AZ+1,holds:=Gz G.holds ad (Bt hl tb) } (Q .EE)))
def Ri(C Cn DO MI:Addr):Sp:=λvs H Q E=>∃(p a b:Addr)(G:BS)(ta tb:T2),vs=[.ref p,.ref a,.ref b]/\AQ C H p G/\H a=some (.BC (tv ta))/\H b=some (.BC (tv tb)) /\
 T1 G ta tb (λad hl=>Done C p G H { G with AZ:=G.AZ+1,holds:=Gz G.holds ad (Gp hl tb) } (Q .EE)) (E (.ref Cn) none H) (E (.ref DO) none H) (E (.ref MI) none H)
def Ra(C Cn DO MI:Addr):Sp:=λvs H Q E=>∃(p a b:Addr)(G:BS)(ta tb:T2),vs=[.ref p,.ref a,.ref b]/\AQ C H p G/\H a=some (.BC (tv ta))/\H b=some (.BC (tv tb))/\G.hand.length<=500 /\
 T1 G ta tb (λ_ _=>Done C p G H { G with AZ:=G.AZ+1,hand:=Bt G.hand tb } (Q .EE)) (E (.ref Cn) none H) (E (.ref DO) none H) (E (.ref MI) none H)
def Rh(C Cn:Addr):Sp:=λvs H Q E=>∃(p b:Addr)(G:BS)(tb:T2),vs=[.ref p,.ref b]/\AQ C H p G/\H b=some (.BC (tv tb)) /\
 ((tb∉G.hand/\E (.ref Cn) none H)\/(tb∈G.hand/\Done C p G H { G with AZ:=G.AZ+1,hand:=Gp G.hand tb } (Q .EE)))
theorem Eg(hd:d∈BG G)(hf:BG G1=BG G)(e:H1=upd H d o)(S1:AQ C H1 p G1)(D:Done C p G H { G1 with AZ:=G1.AZ+1 } k) : k (upd H1 p (.ins C dx (Bx { G1 with AZ:=G1.AZ+1 }))):=by refine D _ (S1.fld dx G1.AY (G1.AZ+1)) λb o' e1 h1 h2=>?_;rw[Ab h1,e,Ab (λz=>h2 (by rw[z];exact hd))];exact e1
theorem wG:Ao ["self","a","b"] ["self","a","b"] (Aj Ye):={}
theorem Qe(h:q∈G.holds):q.2.1∈BG G:=by unfold BG;exact ZD _ (ZD _ (ZD _ (ZD _ (BD h))))
theorem Jep(F:EK K "hold" "House.hold" Ye f fd)(T:Txt K mg C Cn DO MI NW)(M1:CO K C "is_near" "House.is_near" Ie ["self","thing"] f1 X_)(M2:CO K C "need_in_hand" "House.need_in_hand" Gi ["self","thing"] f2 XZ)(M3:CO K C "need_near" "House.need_near" Ik ["self","thing"] f3 fF):EU P w K mg base 3 f fd ["self","a","b"] (Rg C Cn DO):=by
 have G2:EU P w K mg base 1 f2 XZ ["self","thing"] (Jm C Cn):=J7 M2.fn T;have G3:EU P w K mg base 2 f3 fF ["self","thing"] (Rc C DO):=U2 M3.fn T M1;refine F5 F wG λvs H Q E h=>?_;obtain⟨p,a,b,G,ta,tb,rfl,S,ha,hb,k⟩:=h;refine⟨rfl,λDP A outer s hr=>?_⟩;have hu:=B3 hr;have GO:CU 1 _:=hr.mono (by decide);obtain⟨dx,hp⟩:=S.ob;refine⟨_,Ad (A5 (Ap (pl:=_) (pv 0) T.cl M2.mt G2 GO M2.bd .nil Bm (Aa (pv 1) Af))) (Ad (A5 (Ap (pl:=_) (pv 0) T.cl M2.mt G2 GO M2.bd .nil Bm (Aa (pv 2) Af))) (Ad (A5 (Ap (pl:=_) (pv 0) T.cl M3.mt G3 hr M3.bd .nil Bm (Aa (pv 1) Af))) (Ad (Bz hu (Cp hu (An (pv 0) rfl) (pv 1)) (pv 2) Fg rfl) (Ae (B8 (pv 0) Ah Dh))))),?_⟩;refine⟨_,rfl,p,dx,_,rfl,hp,By G ZV,_,rfl,p,a,G,ta,rfl,S,ha,?_⟩;by_cases h1:ta∈G.hand;.refine .inl ⟨h1,_,rfl,p,dx,_,rfl,hp,By G ZV,_,rfl,p,b,G,tb,rfl,S,hb,?_⟩;by_cases h2:tb∈G.hand;(.refine .inl ⟨h2,_,rfl,p,dx,_,rfl,hp,By G ZV,_,rfl,p,a,G,ta,rfl,S,ha,?_⟩;rcases k with⟨h,k⟩|⟨_,_,h,k⟩|⟨_,_,h,ad,hl,RL,z,k⟩;(.exact absurd ⟨h1,h2⟩ h);(.exact .inr ⟨h,k⟩);.obtain⟨g1,g2,g3⟩:=La S ha RL;refine .inl ⟨h,_,rfl,p,C,dx,_,_,rfl,hp,T.cl,T.nL,Dw G,_,rfl,G.l,_,rfl,g1,_,rfl,ad,_,rfl,FF.t (k:=tk tb) g2 hb (by rw[ZA];exact A7 (by lia)),?_⟩;rw[Eh];have S1:AQ C (upd H ad (A9 (Bt hl tb))) p { G with holds:=Gz G.holds ad (Bt hl tb) }:=S.TQ g3 (Bt hl tb);obtain⟨EJ,FY⟩:=S1.ob;refine⟨_,rfl,p,C,EJ,_,_,rfl,FY,T.cl,T.nT,B7 _,_,_,rfl,rfl,EJ,_,FY,Di _,?_⟩;rw[Bc];exact Eg (G1:={ G with holds:=Gz G.holds ad (Bt hl tb) }) (Qe g3) (by unfold BG;rw[Nd]) rfl S1 k);.rcases k with⟨h,k⟩|⟨_,h,_⟩|⟨_,h,_⟩;(.exact .inr ⟨h2,k⟩);(.exact absurd h h2);.exact absurd h h2
 .rcases k with⟨h,k⟩|⟨h,_⟩|⟨h,_⟩;(.exact .inr ⟨h1,k⟩);(.exact absurd h h1);.exact absurd h h1
theorem wH:Ao ["self","a","b"] ["self","a","b"] (Aj Yg):={}
theorem Jer(F:EK K "drop" "House.drop" Yg f fd)(T:Txt K mg C Cn DO MI NW)(M1:CO K C "is_near" "House.is_near" Ie ["self","thing"] f1 X_)(M2:CO K C "need_in_hand" "House.need_in_hand" Gi ["self","thing"] f2 XZ)(M3:CO K C "need_near" "House.need_near" Ik ["self","thing"] f3 fF)(M4:CO K C "need_holding" "House.need_holding" Jt ["self","a","b"] f4 mE) : EU P w K mg base 4 f fd ["self","a","b"] (Ri C Cn DO MI):=by
 have G4:EU P w K mg base 3 f4 mE ["self","a","b"] (M9 C Cn DO MI):=Py M4.fn T M1 M2 M3;refine F5 F wH λvs H Q E h=>?_;obtain⟨p,a,b,G,ta,tb,rfl,S,ha,hb,k⟩:=h;refine⟨rfl,λDP A outer s hr=>?_⟩;have hu:=B3 hr;obtain⟨dx,hp⟩:=S.ob;refine⟨_,Ad (A5 (Ap (pl:=_) (pv 0) T.cl M4.mt G4 hr M4.bd .nil Bm (Aa (pv 1) (Aa (pv 2) Af)))) (Ad (A5 (Fb hu (Cp hu (An (pv 0) rfl) (pv 1)) (pv 2) ⟨rfl,rfl,rfl,rfl⟩)) (Ae (B8 (pv 0) Ah Dh))),?_⟩;refine⟨_,rfl,p,dx,_,rfl,hp,By G ZV,_,rfl,_,rfl,p,a,b,G,ta,tb,rfl,S,ha,hb,?_⟩;rcases k with k|k|⟨h1,h2,ad,hl,RL,k⟩;.exact .inl k
 .exact .inr (.inl k)
 .refine .inr (.inr ⟨h1,h2,ad,hl,RL,?_⟩);rcases k with k|⟨h3,k⟩;(.exact .inl k);.obtain⟨g1,g2,g3⟩:=La S ha RL;refine .inr ⟨h3,_,rfl,p,C,dx,_,_,rfl,hp,T.cl,T.nL,Dw G,_,rfl,G.l,_,rfl,g1,ad,rfl,.inr ⟨_,.inl g2⟩,_,rfl,_,tk tb,_,b,g2,rfl,hb,(by rw[Fs,AE h3]),?_⟩;rw[Ff (k:=λq:T2=>q) (f:=λ_=>V.bl true)];have S1:AQ C (upd H ad (A9 (Gp hl tb))) p { G with holds:=Gz G.holds ad (Gp hl tb) }:=S.TQ g3 (Gp hl tb);obtain⟨EJ,FY⟩:=S1.ob;refine⟨_,rfl,p,C,EJ,_,_,rfl,FY,T.cl,T.nT,B7 _,_,_,rfl,rfl,EJ,_,FY,Di _,?_⟩;rw[Bc];exact Eg (G1:={ G with holds:=Gz G.holds ad (Gp hl tb) }) (Qe g3) (by unfold BG;rw[Nd]) rfl S1 k
theorem Jjp:Ao ["self","a","b"] ["self","a","b"] (Aj X7):={}
theorem Jei(F:EK K "take" "House.take" X7 f fd)(T:Txt K mg C Cn DO MI NW)(M1:CO K C "is_near" "House.is_near" Ie ["self","thing"] f1 X_)(M2:CO K C "need_in_hand" "House.need_in_hand" Gi ["self","thing"] f2 XZ)(M3:CO K C "need_near" "House.need_near" Ik ["self","thing"] f3 fF)(M4:CO K C "need_holding" "House.need_holding" Jt ["self","a","b"] f4 mE) : EU P w K mg base 4 f fd ["self","a","b"] (Ra C Cn DO MI):=by
 have G4:EU P w K mg base 3 f4 mE ["self","a","b"] (M9 C Cn DO MI):=Py M4.fn T M1 M2 M3;refine F5 F Jjp λvs H Q E h=>?_;obtain⟨p,a,b,G,ta,tb,rfl,S,ha,hb,z,k⟩:=h;refine⟨rfl,λDP A outer s hr=>?_⟩;have hu:=B3 hr;obtain⟨dx,hp⟩:=S.ob;refine⟨_,Ad (A5 (Ap (pl:=_) (pv 0) T.cl M4.mt G4 hr M4.bd .nil Bm (Aa (pv 1) (Aa (pv 2) Af)))) (Ad (Bz hu (An (pv 0) rfl) (pv 2) Fg rfl) (Ae (B8 (pv 0) Ah Dh))),?_⟩;refine⟨_,rfl,p,dx,_,rfl,hp,By G ZV,_,rfl,_,rfl,p,a,b,G,ta,tb,rfl,S,ha,hb,?_⟩;rcases k with k|k|⟨h1,h2,ad,hl,RL,k⟩;.exact .inl k
 .exact .inr (.inl k)
 .refine .inr (.inr ⟨h1,h2,ad,hl,RL,?_⟩);rcases k with k|⟨h3,k⟩;(.exact .inl k);.refine .inr ⟨h3,_,rfl,p,C,dx,_,_,rfl,hp,T.cl,T.nH,E4 G,_,rfl,G.h,_,rfl,FF.t (k:=tk tb) S.dh hb (by rw[ZA];exact A7 (by lia)),?_⟩;rw[Eh];have S1:AQ C (upd H G.h (A9 (Bt G.hand tb))) p { G with hand:=Bt G.hand tb }:=S.MA (Bt G.hand tb);obtain⟨EJ,FY⟩:=S1.ob;refine⟨_,rfl,p,C,EJ,_,_,rfl,FY,T.cl,T.nT,B7 _,_,_,rfl,rfl,EJ,_,FY,Di _,?_⟩;rw[Bc];exact Eg (G1:={ G with hand:=Bt G.hand tb }) (by simp[BG]) rfl rfl S1 k
theorem kM:Ao ["self","b"] ["self","b"] (Aj Yf):={}
theorem Jeq(F:EK K "free" "House.free" Yf f fd)(T:Txt K mg C Cn DO MI NW)(M2:CO K C "need_in_hand" "House.need_in_hand" Gi ["self","thing"] f2 XZ) : EU P w K mg base 2 f fd ["self","b"] (Rh C Cn):=by
 have G2:EU P w K mg base 1 f2 XZ ["self","thing"] (Jm C Cn):=J7 M2.fn T;refine F5 F kM λvs H Q E h=>?_;obtain⟨p,b,G,tb,rfl,S,hb,k⟩:=h;refine⟨rfl,λDP A outer s hr=>?_⟩;have hu:=B3 hr;obtain⟨dx,hp⟩:=S.ob;refine⟨_,Ad (A5 (Ap (pl:=_) (pv 0) T.cl M2.mt G2 hr M2.bd .nil Bm (Aa (pv 1) Af))) (Ad (A5 (Fb hu (An (pv 0) rfl) (pv 1) ⟨rfl,rfl,rfl,rfl⟩)) (Ae (B8 (pv 0) Ah Dh))),?_⟩;refine⟨_,rfl,p,dx,_,rfl,hp,By G ZV,_,rfl,p,b,G,tb,rfl,S,hb,?_⟩;rcases k with k|⟨h,k⟩;.exact .inr k
 .refine .inl ⟨h,_,rfl,p,C,dx,_,_,rfl,hp,T.cl,T.nH,E4 G,G.h,rfl,.inr ⟨_,.inl S.dh⟩,_,rfl,_,tk tb,_,b,S.dh,rfl,hb,(by rw[Fs,AE h]),?_⟩;rw[Ff (k:=λq:T2=>q) (f:=λ_=>V.bl true)];have S1:AQ C (upd H G.h (A9 (Gp G.hand tb))) p { G with hand:=Gp G.hand tb }:=S.MA (Gp G.hand tb);obtain⟨EJ,FY⟩:=S1.ob;refine⟨_,rfl,p,C,EJ,_,_,rfl,FY,T.cl,T.nT,B7 _,_,_,rfl,rfl,EJ,_,FY,Di _,?_⟩;rw[Bc];exact Eg (G1:={ G with hand:=Gp G.hand tb }) (by simp[BG]) rfl rfl S1 k
end
section
def Ga(n:Int):Int:=if n=1 then 1 else n / 2
def Ue:Sp:=λvs H Q _=>∃n:Int,vs=[.int n]/\∀p,H p=none->Q (.ref p) (upd H p (.BC [.int (n-Ga n),.int (Ga n)]))
theorem qP:Ao ["weight","goes"] ["weight"] (Aj Jr):={}
theorem Z4(F:EK K "parted" "parted" Jr f fd):CV P w K mg base 1 f fd ["weight"] Ue:=by
 refine F.IQ qP λvs H Q E h=>?_;obtain⟨n,rfl,k⟩:=h;refine⟨rfl,λDP A outer s hr=>?_⟩;refine⟨_,Ad (Bf (A3 Cy (pv 0) Ah (A6 _)) (Ae (Ar (Ca (Aa Ah (Aa Ah Af))))) A4) (Ad (Aw (i:=1) qP.nd rfl (Or.inl rfl) (Be Fh (pv 0) Ah)) (Ae (Ar (Ca (Aa (Be R7 (pv 0) (pv 1)) (Aa (pv 1) Af)))))),?_⟩;refine⟨_,rfl,rfl,_,rfl,?_⟩;refine Tj (λc1=>?_) (λc1=>?_);.have c1:n=1:=V.int.inj (BL c1);subst c1;exact⟨show 2<=sizeLine by decide,λp hp=>k p hp⟩
 ·(have c1:¬n=1:=λz=>by rw[z] at c1;simp at c1);refine⟨_,rfl,_,_,rfl,rfl,⟨by decide,by decide⟩,?_⟩;refine⟨_,rfl,_,rfl,_,_,rfl,rfl,_,rfl,(show 2<=sizeLine by decide),λp hp=>?_⟩;have:=k p hp;unfold Ga at this;rw[AB c1] at this;exact this
structure QU(K:W.Frag)(mg:Str->Option Value)(x:Str)(st:Stmt)(ps:List Str)(f:Addr)(fd:FuncData):Prop where
 fn:EK K x x st f fd
 bd:Binds K fd ps []
 mg:mg x=some (.ref f)
def Vq(l:List (T2×Int))(t:T2):Int:=((l.find? λq=>decide (q.1=t)).map (·.2)).getD 0
def Xz(C NW:Addr):Sp:=λvs H Q E=>∃(p b:Addr)(G:BS)(tb:T2)(wt:Int),vs=[.ref p,.ref b]/\AQ C H p G/\H b=some (.BC (tv tb))/\G.AM.find? (λq=>decide (q.1=tb))=some (tb,wt)/\G.AM.length<=500 /\
 ((wt=0/\E (.ref NW) none H)\/(wt≠0/\Done C p G H { G with AM:=Ba G.AM tb (wt-Ga wt) } (Q (.int (Ga wt)))))
theorem Gn(hd:H d=some (Cf l))(ht:H t=some (.BC (tv th))):DJ H d (.ref t) ((l.find? λq=>decide (q.1=th)).map λq=>V.int q.2):=by have:=DJ.t (k:=tk th) hd ht;rw[Dk (k:=λq:T2×Int=>q.1) (f:=λq=>V.int q.2)] at this;exact this
theorem bU:Ao ["self","b","weight","halves"] ["self","b"] (Aj Rx):={}
theorem Jce(F:EK K "part_record" "House.part_record" Rx f fd)(T:Txt K mg C Cn DO MI NW)(MP:QU K mg "parted" Jr ["weight"] fP sP):EU P w K mg base 2 f fd ["self","b"] (Xz C NW):=by
 have GP:EU P w K mg base 1 fP sP ["weight"] Ue:=FX.DZ.RO (Z4 MP.fn);refine F5 F bU λvs H Q E h=>?_;obtain⟨p,b,G,tb,wt,rfl,S,hb,RL,z,k⟩:=h;refine⟨rfl,λDP A outer s hr=>?_⟩;have hu:=B3 hr;obtain⟨dx,hp⟩:=S.ob;have g1:DJ H G.r (.ref b) (some (V.int wt)):=by have:=Gn S.dr hb;rw[RL] at this;exact this
 refine⟨_,Ad (Aw (i:=2) bU.nd rfl (Or.inl rfl) (Cp hu (An (pv 0) rfl) (pv 1))) (Ad (Bf (A3 Cy (pv 2) Ah (A6 _)) (Ae (F1 rfl rfl T.uN Gj)) A4) (Ad (Aw (i:=3) bU.nd rfl (Or.inl rfl) (Cs GP hr (by rfl) MP.mg MP.fn.kp MP.bd .nil Bm (Aa (pv 2) Af))) (Ad (Bz hu (An (pv 0) rfl) (pv 1) (Az Av (pv 3) Ah) rfl) (Ae (Ar (Az Av (pv 3) Ah)))))),?_⟩;refine⟨_,rfl,p,C,dx,_,_,rfl,hp,T.cl,T.nR,Cw G,_,rfl,G.r,_,rfl,g1,?_⟩;refine⟨_,rfl,rfl,_,rfl,?_⟩;rcases k with⟨h,k⟩|⟨h,k⟩;.rw[show decide (V.int wt=V.int 0)=true from AJ (by rw[h])];exact Ck k
 .rw[show decide (V.int wt=V.int 0)=false from AG λe=>h (V.int.inj e)];refine Cd ?_;refine⟨_,rfl,wt,rfl,λt ht=>?_⟩;have s1:=Ai (o:=.BC [V.int (wt-Ga wt),V.int (Ga wt)]) ht;have S1:=S.same s1;have t1:(upd H t (.BC [V.int (wt-Ga wt),V.int (Ga wt)])) t=some (.BC [V.int (wt-Ga wt),V.int (Ga wt)]):=Ac;have b1:=s1 _ _ hb;generalize upd H t (.BC [V.int (wt-Ga wt),V.int (Ga wt)])=H1 at s1 S1 t1 b1;obtain⟨EJ,FY⟩:=S1.ob;refine⟨_,rfl,t,_,0,_,rfl,rfl,CL.of t1,rfl,_,rfl,p,C,EJ,_,_,rfl,FY,T.cl,T.nR,Cw G,_,rfl,G.r,_,rfl,FF.t (k:=tk tb) S1.dr b1 (by rw[ZA];exact A7 (by lia)),?_⟩;rw[Df];have S2:AQ C (upd H1 G.r (Cf (Ba G.AM tb (wt-Ga wt)))) p { G with AM:=Ba G.AM tb (wt-Ga wt) }:=S1.QI _;have tr:t≠G.r:=λe=>(S1.tup_ne t1).2 (by rw[e];simp[BG]);refine⟨_,rfl,t,_,1,_,rfl,rfl,CL.of (by rw[Ab tr];exact t1),rfl,?_⟩;refine k _ S2 λb' o e h1 h2=>?_;rw[Ab λe'=>h2 (by rw[e'];simp[BG])];exact s1 _ _ e
end
section
def Wk(C:Addr):Sp:=λvs H Q _=>∃(p b:Addr)(G:BS)(tb:T2)(wt:Int),vs=[.ref p,.ref b,.int wt]/\AQ C H p G/\H b=some (.BC (tv tb))/\G.AM.length<=500 /\
 Done C p G H { G with AM:=Ba G.AM tb (Vq G.AM tb+wt) } (Q .EE)
theorem Jj2:Ao ["self","b","weight"] ["self","b","weight"] (Aj Uk):={}
theorem Ys(F:EK K "add_to_record" "House.add_to_record" Uk f fd)(T:Txt K mg C Cn DO MI NW):CV P w K mg base 1 f fd ["self","b","weight"] (Wk C):=by
 refine F.IQ Jj2 λvs H Q E h=>?_;obtain⟨p,b,G,tb,wt,rfl,S,hb,z,k⟩:=h;refine⟨rfl,λDP A outer s hr=>?_⟩;have hu:=B3 hr;obtain⟨dx,hp⟩:=S.ob;refine⟨_,Ae (Bz hu (An (pv 0) rfl) (pv 1) (Be Fc (F3 hu (An (pv 0) rfl) (pv 1) Ah ⟨rfl,rfl,rfl,rfl⟩) (pv 2)) rfl),?_⟩;have ei:((G.AM.find? λq=>decide (q.1=tb)).map λq=>V.int q.2).getD (V.int 0)=V.int (Vq G.AM tb):=by unfold Vq;cases G.AM.find? λq=>decide (q.1=tb)<;>rfl
 refine⟨_,rfl,p,C,dx,_,_,rfl,hp,T.cl,T.nR,Cw G,G.r,rfl,.inr ⟨_,.inl S.dr⟩,_,rfl,_,Gn S.dr hb,?_⟩;rw[ei];refine⟨_,rfl,_,_,rfl,rfl,_,rfl,p,C,dx,_,_,rfl,hp,T.cl,T.nR,Cw G,_,rfl,G.r,_,rfl,FF.t (k:=tk tb) S.dr hb (by rw[ZA];exact A7 (by lia)),?_⟩;rw[Df];refine k _ (S.QI _) λb' o e h1 h2=>?_;rw[Ab λe'=>h2 (by rw[e'];simp[BG])];exact e
def Rk(C:Addr):Sp:=λvs H Q _=>∃(p b:Addr)(G:BS)(tb:T2)(wt:Int),vs=[.ref p,.ref b,.int wt]/\AQ C H p G/\H b=some (.BC (tv tb))/\G.AM.length<=500 /\
 Done C p G H { G with AZ:=G.AZ+1,AM:=Ba G.AM tb (Vq G.AM tb+wt) } (Q .EE)
theorem Jj1:Ao ["self","b","weight"] ["self","b","weight"] (Aj R3):={}
theorem Jci(F:EK K "added" "House.added" R3 f fd)(T:Txt K mg C Cn DO MI NW)(M5:CO K C "add_to_record" "House.add_to_record" Uk ["self","b","weight"] f5 mD):CV P w K mg base 2 f fd ["self","b","weight"] (Rk C):=by have G5:CV P w K mg base 1 f5 mD ["self","b","weight"] (Wk C):=Ys M5.fn T;refine F.IQ Jj1 λvs H Q E h=>?_;obtain⟨p,b,G,tb,wt,rfl,S,hb,z,k⟩:=h;refine⟨rfl,λDP A outer s hr=>?_⟩;obtain⟨dx,hp⟩:=S.ob;refine⟨_,Ad (A5 (Ap (pl:=_) (pv 0) T.cl M5.mt G5 hr M5.bd .nil Bb (Aa (pv 1) (Aa (pv 2) Af)))) (Ae (B8 (pv 0) Ah Dh)),?_⟩;refine⟨_,rfl,p,dx,_,rfl,hp,By G ZV,_,rfl,_,rfl,p,b,G,tb,wt,rfl,S,hb,z,λH1 S1 JT=>?_⟩;obtain⟨EJ,FY⟩:=S1.ob;refine⟨_,rfl,p,C,EJ,_,_,rfl,FY,T.cl,T.nT,B7 _,_,_,rfl,rfl,EJ,_,FY,Di _,?_⟩;rw[Bc];exact k _ (S1.fld EJ G.AY (G.AZ+1)) λb' o e h1 h2=>by rw[Ab h1];exact JT _ _ e h1 h2
def Wj(C:Addr):Sp:=λvs H Q _=>∃(p b:Addr)(G:BS)(tb:T2)(wt:Int),vs=[.ref p,.ref b,.int wt]/\AQ C H p G/\H b=some (.BC (tv tb))/\G.hand.length<=500/\G.AF.length<=500/\G.AM.length<=500 /\
 ((tb.1=G.BP/\∃o,G.AF.find? (λq=>decide (q.1=tb))=some (tb,o)/\Done C p G H { G with AZ:=G.AZ+1,hand:=Bt G.hand tb,AF:=Ba G.AF tb (o-wt) } (Q .EE)) \/
  (tb.1≠G.BP/\Done C p G H { G with AZ:=G.AZ+1,hand:=Bt G.hand tb,AM:=Ba G.AM tb (Vq G.AM tb+wt) } (Q .EE)))
theorem wI:Ao ["self","b","weight"] ["self","b","weight"] (Aj Yh):={}
theorem Jet(F:EK K "came" "House.came" Yh f fd)(T:Txt K mg C Cn DO MI NW)(M1:CO K C "is_near" "House.is_near" Ie ["self","thing"] f1 X_)(M5:CO K C "add_to_record" "House.add_to_record" Uk ["self","b","weight"] f5 mD) : CV P w K mg base 2 f fd ["self","b","weight"] (Wj C):=by
 have G1:CV P w K mg base 1 f1 X_ ["self","thing"] (Re C):=R9 M1.fn T;have G5:CV P w K mg base 1 f5 mD ["self","b","weight"] (Wk C):=Ys M5.fn T;refine F.IQ wI λvs H Q E h=>?_;obtain⟨p,b,G,tb,wt,rfl,S,hb,z1,z2,z3,k⟩:=h;refine⟨rfl,λDP A outer s hr=>?_⟩;have hu:=B3 hr;obtain⟨dx,hp⟩:=S.ob;refine⟨_,Ad (Bz hu (An (pv 0) rfl) (pv 1) Fg rfl) (Ad (Bf (Eu (Ap (pl:=_) (pv 0) T.cl M1.mt G1 hr M1.bd .nil Bb (Aa (pv 1) Af))) (Ae (Jx hu (An (pv 0) rfl) (pv 1) (pv 2) vF (λ_ _ _=>rfl))) (Ae (A5 (Ap (pl:=_) (pv 0) T.cl M5.mt G5 hr M5.bd .nil Bb (Aa (pv 1) (Aa (pv 2) Af)))))) (Ae (B8 (pv 0) Ah Dh))),?_⟩;refine⟨_,rfl,p,C,dx,_,_,rfl,hp,T.cl,T.nH,E4 G,_,rfl,G.h,_,rfl,FF.t (k:=tk tb) S.dh hb (by rw[ZA];exact A7 (by lia)),?_⟩;rw[Eh];have S1:AQ C (upd H G.h (A9 (Bt G.hand tb))) p { G with hand:=Bt G.hand tb }:=S.MA (Bt G.hand tb);have JT:Q_ p G H (upd H G.h (A9 (Bt G.hand tb))):=λb' o e h1 h2=>by rw[Ab λe'=>h2 (by rw[e'];simp[BG])];exact e
 have b1:=JT _ _ hb (S.tup_ne hb).1 (S.tup_ne hb).2;rw[show(HO.dT ((Bt G.hand tb).map λq=>(tk q,V.bl true)))=A9 (Bt G.hand tb) from rfl];generalize (upd H G.h (A9 (Bt G.hand tb)))=H1 at S1 JT b1;obtain⟨EJ,FY⟩:=S1.ob;refine⟨_,rfl,p,EJ,_,rfl,FY,By _ ZV,_,rfl,p,b,_,tb,rfl,S1,b1,_,rfl,?_⟩;rcases k with⟨h,o,RL,k⟩|⟨h,k⟩;.rw[show decide (tb.1=({ G with hand:=Bt G.hand tb }:BS).BP)=true from AJ h];refine Ck ?_;(have g1:DJ H1 G.o (.ref b) (some (V.int o)):=by have:=Gn S1.dO b1;rw[show({ G with hand:=Bt G.hand tb }:BS).AF=G.AF from rfl,RL] at this;exact this);refine⟨_,rfl,p,C,EJ,_,_,rfl,FY,T.cl,T.nO,C0 _,_,rfl,G.o,_,rfl,g1,_,rfl,_,_,rfl,rfl,_,FF.t (k:=tk tb) S1.dO b1 (by rw[ZA];exact A7 (by show G.AF.length<=1000;lia)),?_⟩;rw[Df];have S2:=S1.IT (Ba G.AF tb (o-wt));(have JV:Q_ p G H (upd H1 G.o (Cf (Ba G.AF tb (o-wt)))):=λb' o' e h1 h2=>by rw[Ab λe'=>h2 (by rw[e'];simp[BG])];exact JT _ _ e h1 h2);obtain⟨HZ,FH⟩:=S2.ob;refine⟨_,rfl,p,C,HZ,_,_,rfl,FH,T.cl,T.nT,B7 _,_,_,rfl,rfl,HZ,_,FH,Di _,?_⟩;rw[Bc];exact k _ (S2.fld HZ G.AY (G.AZ+1)) λb' o e h1 h2=>by rw[Ab h1];exact JV _ _ e h1 h2
 .rw[show decide (tb.1=({ G with hand:=Bt G.hand tb }:BS).BP)=false from AG h];refine Cd ?_;refine⟨_,rfl,p,EJ,_,rfl,FY,By _ ZV,_,rfl,_,rfl,p,b,_,tb,wt,rfl,S1,b1,z3,λH2 S2 JV=>?_⟩;obtain⟨HZ,FH⟩:=S2.ob;refine⟨_,rfl,p,C,HZ,_,_,rfl,FH,T.cl,T.nT,B7 _,_,_,rfl,rfl,HZ,_,FH,Di _,?_⟩;rw[Bc];exact k _ (S2.fld HZ G.AY (G.AZ+1)) λb' o e h1 h2=>by rw[Ab h1];exact JV _ _ (JT _ _ e h1 h2) h1 h2
def Wd(C Cn NW:Addr):Sp:=λvs H Q E=>∃(p b:Addr)(G:BS)(tb:T2)(sh:Int),vs=[.ref p,.ref b,.int sh]/\AQ C H p G/\H b=some (.BC (tv tb))/\G.AF.length<=500/\G.AM.length<=500 /\
 ((tb∉G.hand/\E (.ref Cn) none H) \/
  (tb∈G.hand/\tb.1=G.BP/\∃o,G.AF.find? (λq=>decide (q.1=tb))=some (tb,o)/\Done C p G H { G with AZ:=G.AZ+1,AF:=Ba G.AF tb (o+sh) } (Q (.int sh))) \/
  (tb∈G.hand/\tb.1≠G.BP/\∃wt,G.AM.find? (λq=>decide (q.1=tb))=some (tb,wt)/\((wt=0/\E (.ref NW) none H)\/(wt≠0/\Done C p G H { G with AZ:=G.AZ+1,AM:=Ba G.AM tb (wt-Ga wt) } (Q (.int (Ga wt)))))))
theorem bS:Ao ["self","b","share","goes"] ["self","b","share"] (Aj Ya):={}
theorem Jel(F:EK K "part" "House.part" Ya f fd)(T:Txt K mg C Cn DO MI NW)(M1:CO K C "is_near" "House.is_near" Ie ["self","thing"] f1 X_)(M2:CO K C "need_in_hand" "House.need_in_hand" Gi ["self","thing"] f2 XZ)(M6:CO K C "part_record" "House.part_record" Rx ["self","b"] f6 zF)(MP:QU K mg "parted" Jr ["weight"] fP sP) : EU P w K mg base 3 f fd ["self","b","share"] (Wd C Cn NW):=by
 have G1:EU P w K mg base 1 f1 X_ ["self","thing"] (Re C):=FX.DZ.RO (R9 M1.fn T);have G2:EU P w K mg base 1 f2 XZ ["self","thing"] (Jm C Cn):=J7 M2.fn T;have G6:EU P w K mg base 2 f6 zF ["self","b"] (Xz C NW):=Jce M6.fn T MP;refine F5 F bS λvs H Q E h=>?_;obtain⟨p,b,G,tb,sh,rfl,S,hb,z1,z2,k⟩:=h;refine⟨rfl,λDP A outer s hr=>?_⟩;have hu:=B3 hr;have GO:CU 1 _:=hr.mono (by decide);obtain⟨dx,hp⟩:=S.ob;refine⟨_,Ad (A5 (Ap (pl:=_) (pv 0) T.cl M2.mt G2 GO M2.bd .nil Bm (Aa (pv 1) Af))) (Ad (Bf (Eu (Ap (pl:=_) (pv 0) T.cl M1.mt G1 GO M1.bd .nil Bm (Aa (pv 1) Af))) (Ad (Jx hu (An (pv 0) rfl) (pv 1) (pv 2) Dh (λ_ _ _=>rfl)) (Ae (Aw (i:=3) bS.nd rfl (Or.inl rfl) (pv 2)))) (Ae (Aw (i:=3) bS.nd rfl (Or.inl rfl) (Ap (pl:=_) (pv 0) T.cl M6.mt G6 hr M6.bd .nil Bm (Aa (pv 1) Af))))) (Ad (B8 (pv 0) Ah Dh) (Ae (Ar (pv 3))))),?_⟩;refine⟨_,rfl,p,dx,_,rfl,hp,By G ZV,_,rfl,p,b,G,tb,rfl,S,hb,?_⟩;rcases k with k|⟨h1,h2,o,RL,k⟩|⟨h1,h2,wt,RL,k⟩;.exact .inr k
 .refine .inl ⟨h1,_,rfl,p,dx,_,rfl,hp,By G ZV,_,rfl,p,b,G,tb,rfl,S,hb,_,rfl,?_⟩;rw[AJ h2];refine Ck ?_;(have g1:DJ H G.o (.ref b) (some (V.int o)):=by have:=Gn S.dO hb;rw[RL] at this;exact this);refine⟨_,rfl,p,C,dx,_,_,rfl,hp,T.cl,T.nO,C0 _,_,rfl,G.o,_,rfl,g1,_,rfl,_,_,rfl,rfl,_,FF.t (k:=tk tb) S.dO hb (by rw[ZA];exact A7 (by lia)),?_⟩;rw[Df];have S1:AQ C (upd H G.o (Cf (Ba G.AF tb (o+sh)))) p { G with AF:=Ba G.AF tb (o+sh) }:=S.IT _;obtain⟨EJ,FY⟩:=S1.ob;refine⟨_,rfl,_,rfl,p,C,EJ,_,_,rfl,FY,T.cl,T.nT,B7 _,_,_,rfl,rfl,EJ,_,FY,Di _,?_⟩;rw[Bc];refine⟨_,rfl,?_⟩;exact Eg (G1:={ G with AF:=Ba G.AF tb (o+sh) }) (by simp[BG]) rfl rfl S1 k
 .refine .inl ⟨h1,_,rfl,p,dx,_,rfl,hp,By G ZV,_,rfl,p,b,G,tb,rfl,S,hb,_,rfl,?_⟩;rw[AG h2];refine Cd ?_;refine⟨_,rfl,p,dx,_,rfl,hp,By G ZV,_,rfl,p,b,G,tb,wt,rfl,S,hb,RL,z2,?_⟩;rcases k with k|⟨h3,k⟩;(.exact .inl k);.refine .inr ⟨h3,λH1 S1 JT=>?_⟩;obtain⟨EJ,FY⟩:=S1.ob;refine⟨_,rfl,p,C,EJ,_,_,rfl,FY,T.cl,T.nT,B7 _,_,_,rfl,rfl,EJ,_,FY,Di _,?_⟩;rw[Bc];exact⟨_,rfl,k _ (S1.fld EJ G.AY (G.AZ+1)) λb' o e h1 h2=>by rw[Ab h1];exact JT _ _ e h1 h2⟩
end
def LH(C:Addr):Sp:=λvs H Q _=>∃(p dx:Addr)(n:Int),vs=[.ref p,.int n]/\H p=some (.ins C dx []) /\
 ∀(h o l r:Addr)(H':Hp),H h=none->H o=none->H l=none->H r=none->AQ C H' p ⟨n,0,0,h,o,l,r,[],[],[],[]⟩->(∀b u,H b=some u->b≠p->H' b=some u)->Q .EE H'
def Rf(C:Addr):Sp:=λvs H Q _=>∃(p:Addr)(G:BS),vs=[.ref p]/\AQ C H p G/\G.hand.length<=500/\G.AF.length<=500/\G.holds.length<=500 /\
 (∀t∈G.hand,t≠(G.BP,G.AY))/\(∀q∈G.AF,q.1≠(G.BP,G.AY))/\(∀q∈G.holds,q.1≠(G.BP,G.AY)) /\
 ∀(t a:Addr)(H':Hp),H t=none->H a=none->H' t=some (.BC (tv (G.BP,G.AY))) ->
  AQ C H' p { G with AY:=G.AY+1,AZ:=G.AZ+1,hand:=G.hand++[(G.BP,G.AY)],AF:=G.AF++[((G.BP,G.AY),0)],holds:=G.holds++[((G.BP,G.AY),a,[])] }->Q_ p G H H'->Q (.ref t) H'
def Wb(C:Addr):Sp:=λvs H Q _=>∃(p:Addr)(G:BS),vs=[.ref p]/\AQ C H p G/\Q (.int G.AZ) H
def NP(H:Hp)(v:V)(r:T2×Int×List T2):Prop:=∃(a t hd:Addr)(cs:List Addr),v=.ref a/\H a=some (.BC [.ref t,.int r.2.1,.ref hd])/\H t=some (.BC (tv r.1))/\H hd=some (.BC (cs.map V.ref))/\BB H cs r.2.2
theorem NP.keep(x:NP H v r)(k:BU H H'):NP H' v r:=by obtain⟨a,t,hd,cs,e,e1,e2,e3,e4⟩:=x;exact⟨a,t,hd,cs,e,k.BC _ _ e1,k.BC _ _ e2,k.BC _ _ e3,BB.keep k e4⟩
def iV(H:Hp)(x:Addr)(hs:List T2)(os:List (T2×Int×List T2))(rs:List (T2×Int)):Prop:=∃(y1 y2 y3:Addr)(as:List Addr)(bs:List V)(ds:List Addr),H x=some (.BC [.ref y1,.ref y2,.ref y3])/\H y1=some (.BC (as.map V.ref))/\BB H as hs/\H y2=some (.BC bs)/\Paired (NP H) bs os/\(∃ob,H y3=some (.FJ ob (.BC (ds.map V.ref)))/\vA ob)/\Paired (RecAt H) ds rs
def Wa(C:Addr)(K:W.Frag):Sp:=λvs H Q _=>∃(p t:Addr)(G:BS)(th:T2)(w:Int)(a:Addr)(hl hs:List T2),vs=[.ref p,.ref t]/\AQ C H p G/\H t=some (.BC (tv th)) /\
 G.AF.find? (λq=>decide (q.1=th))=some (th,w)/\G.holds.find? (λq=>decide (q.1=th))=some (th,a,hl)/\hl.length<64/\hs.Perm hl/\hs.Pairwise IS /\
 ∀(x:Addr)(H':Hp),Bi H H'->NP H' (.ref x) (th,w,hs)->Q (.ref x) H'
structure Rows(G:BS)(os:List (T2×Int×List T2)):Prop where
 pm:(os.map (·.1)).Perm (G.AF.map (·.1))
 pw:(os.map (·.1)).Pairwise IS
 at_:∀q∈os,G.AF.find? (λz=>decide (z.1=q.1))=some (q.1,q.2.1)/\∃a hl,G.holds.find? (λz=>decide (z.1=q.1))=some (q.1,a,hl)/\hl.length<64/\q.2.2.Perm hl/\q.2.2.Pairwise IS
def Jl(C:Addr)(K:W.Frag):Sp:=λvs H Q _=>∃(p:Addr)(G:BS)(hs:List T2)(os:List (T2×Int×List T2))(rs:List (T2×Int)),vs=[.ref p]/\AQ C H p G/\G.hand.length<64/\G.AF.length<64/\G.AM.length<64 /\
 hs.Perm G.hand/\hs.Pairwise IS/\Rows G os/\rs.Perm G.AM/\(rs.map (·.1)).Pairwise IS/\∀(x:Addr)(H':Hp),Bi H H'->iV H' x hs os rs->Q (.ref x) H'
section
theorem wF:Ao ["self","number"] ["self","number"] (Aj Yd):={}
theorem QL(F:EK K "__init__" "House.__init__" Yd f fd)(T:Txt K mg C Cn DO MI NW):CV P w K mg base 1 f fd ["self","number"] (LH C):=by
 refine F.IQ wF λvs H Q E h=>?_;obtain⟨p,dx,n,rfl,hp,k⟩:=h;refine⟨rfl,λDP A outer s hr=>?_⟩;refine⟨_,Ad (C7 (pv 0) (pv 1) rfl) (Ad (C7 (pv 0) Ah rfl) (Ad (C7 (pv 0) Ah rfl) (Ad (C7 (pv 0) Dv rfl) (Ad (C7 (pv 0) Dv rfl) (Ad (C7 (pv 0) Dv rfl) (Ae (C7 (pv 0) Dv rfl))))))),?_⟩;refine⟨_,rfl,_,rfl,p,C,dx,[],rfl,hp,T.cl,T.nN,(by show 0<1000;decide),?_⟩;refine⟨_,rfl,p,C,dx,_,rfl,Ac,T.cl,T.nM,(by show 1<1000;decide),?_⟩;rw[Qw];refine⟨_,rfl,p,C,dx,_,rfl,Ac,T.cl,T.nT,(by rw[D4,Bv Fp,D4];show 2<1000;decide),?_⟩;rw[Qw];have step:∀{H1:Hp} {d:Addr} {fs:List (Str×V)} {o:HO},H1 p=some (.ins C dx fs)->(∀b u,H b=some u->b≠p->H1 b=some u)->H1 d=none->(upd H1 d o) p=some (.ins C dx fs)/\(∀b u,H b=some u->b≠p->(upd H1 d o) b=some u)/\d≠p/\H d=none:=λ{H1 d fs o} e1 e2 e3=>by have kZ:p≠d:=Ak e1 e3;refine⟨by rw[Ab kZ];exact e1,λb u e hb=>by rw[Ab (Ak (e2 b u e hb) e3)];exact e2 b u e hb,kZ.symm,?_⟩;cases q:H d with | none=>rfl | some u=>rw[e2 d u q kZ.symm] at e3;cases e3
 have a0:∀b u,H b=some u->b≠p->(upd H p (.ins C dx (Aq "ticks" (.int 0) (Aq "made" (.int 0) (Aq "number" (.int n) []))))) b=some u:=λb u e hb=>by rw[Ab hb];exact e
 intro d1 h1;obtain⟨b1,b2,b3,b4⟩:=step (o:=.dT []) Ac a0 h1;refine⟨_,rfl,p,C,dx,_,rfl,b1,T.cl,T.nH,?_,?_⟩;.have:=Ay "ticks" (.int 0) (Aq "made" (.int 0) (Aq "number" (.int n) []));have:=Ay "made" (.int 0) (Aq "number" (.int n) []);have:=Ay "number" (.int n) [];simp only[BN] at *;lia
 have c0:∀{H1:Hp} {fs:List (Str×V)},(∀b u,H b=some u->b≠p->H1 b=some u)->∀b u,H b=some u->b≠p->(upd H1 p (.ins C dx fs)) b=some u:=λe b u e1 hb=>by rw[Ab hb];exact e b u e1 hb
 intro d2 h2;obtain⟨b5,b6,b7,b8⟩:=step (o:=.dT []) Ac (c0 b2) h2;refine⟨_,rfl,p,C,dx,_,rfl,b5,T.cl,T.nO,?_,?_⟩;.have:=Ay "hand" (.ref d1) (Aq "ticks" (.int 0) (Aq "made" (.int 0) (Aq "number" (.int n) [])));have:=Ay "ticks" (.int 0) (Aq "made" (.int 0) (Aq "number" (.int n) []));have:=Ay "made" (.int 0) (Aq "number" (.int n) []);have:=Ay "number" (.int n) [];simp only[BN] at *;lia
 intro d3 h3;obtain⟨b9,bJ,m4,b12⟩:=step (o:=.dT []) Ac (c0 b6) h3;refine⟨_,rfl,p,C,dx,_,rfl,b9,T.cl,T.nL,?_,?_⟩;.have:=Ay "outs" (.ref d2) (Aq "hand" (.ref d1) (Aq "ticks" (.int 0) (Aq "made" (.int 0) (Aq "number" (.int n) []))));have:=Ay "hand" (.ref d1) (Aq "ticks" (.int 0) (Aq "made" (.int 0) (Aq "number" (.int n) [])));have:=Ay "ticks" (.int 0) (Aq "made" (.int 0) (Aq "number" (.int n) []));have:=Ay "made" (.int 0) (Aq "number" (.int n) []);have:=Ay "number" (.int n) [];simp only[BN] at *;lia
 intro d4 h4;obtain⟨b13,b14,b15,b16⟩:=step (o:=.dT []) Ac (c0 bJ) h4;refine⟨_,rfl,p,C,dx,_,rfl,b13,T.cl,T.nR,?_,?_⟩;.have:=Ay "holds" (.ref d3) (Aq "outs" (.ref d2) (Aq "hand" (.ref d1) (Aq "ticks" (.int 0) (Aq "made" (.int 0) (Aq "number" (.int n) [])))));have:=Ay "outs" (.ref d2) (Aq "hand" (.ref d1) (Aq "ticks" (.int 0) (Aq "made" (.int 0) (Aq "number" (.int n) []))));have:=Ay "hand" (.ref d1) (Aq "ticks" (.int 0) (Aq "made" (.int 0) (Aq "number" (.int n) [])));have:=Ay "ticks" (.int 0) (Aq "made" (.int 0) (Aq "number" (.int n) []));have:=Ay "made" (.int 0) (Aq "number" (.int n) []);have:=Ay "number" (.int n) [];simp only[BN] at *;lia
 have XJ:d1≠d2:=λz=>by rw[<-z,Ab b3,Ac] at h2;cases h2
 have az:d1≠d3:=λz=>by rw[<-z,Ab b3,Ab XJ,Ab b3,Ac] at h3;cases h3
 have ay:d2≠d3:=λz=>by rw[<-z,Ab b7,Ac] at h3;cases h3
 have qw:d1≠d4:=λz=>by rw[<-z,Ab b3,Ab az,Ab b3,Ab XJ,Ab b3,Ac] at h4;cases h4
 have qv:d2≠d4:=λz=>by rw[<-z,Ab b7,Ab ay,Ab b7,Ac] at h4;cases h4
 have qu:d3≠d4:=λz=>by rw[<-z,Ab m4,Ac] at h4;cases h4
 refine k d1 d2 d3 d4 _ b4 b8 b12 b16 ⟨⟨dx,?_⟩,?_,?_,?_,?_,λq hq=>by simp at hq,?_⟩ (c0 b14);.rw[Ac,<-Jg8]
 .rw[Ab b3,Ab qw,Ab b3,Ab az,Ab b3,Ab XJ,Ab b3,Ac];rfl
 .rw[Ab b7,Ab qv,Ab b7,Ab ay,Ab b7,Ac];rfl
 .rw[Ab m4,Ab qu,Ab m4,Ac];rfl
 .rw[Ab b15,Ac];rfl
 .simp[BG,XJ,az,qw,ay,qv,qu]
theorem qQ:Ao ["self","thing"] ["self"] (Aj Yb):={}
theorem Jem(F:EK K "make" "House.make" Yb f fd)(T:Txt K mg C Cn DO MI NW):CV P w K mg base 1 f fd ["self"] (Rf C):=by
 refine F.IQ qQ λvs H Q E h=>?_;obtain⟨p,G,rfl,S,z1,z2,z3,f1,f2,f3,k⟩:=h;refine⟨rfl,λDP A outer s hr=>?_⟩;have hu:=B3 hr;refine⟨_,Ad (Aw (i:=1) qQ.nd rfl (Or.inl rfl) (Ca (Aa (An (pv 0) rfl) (Aa (An (pv 0) rfl) Af)))) (Ad (B8 (pv 0) Ah Dh) (Ad (Bz hu (An (pv 0) rfl) (pv 1) Ah rfl) (Ad (Bz hu (An (pv 0) rfl) (pv 1) Dv rfl) (Ad (Bz hu (An (pv 0) rfl) (pv 1) Fg rfl) (Ad (B8 (pv 0) Ah Dh) (Ae (Ar (pv 1)))))))),?_⟩;obtain⟨dx,hp⟩:=S.ob;refine⟨_,rfl,p,C,dx,_,_,rfl,hp,T.cl,T.nN,Qb G,_,rfl,p,C,dx,_,_,rfl,hp,T.cl,T.nM,Y3 G,(by show 2<=sizeLine;decide),λt ht=>?_⟩;have s1:=Ai (o:=.BC [V.int G.BP,V.int G.AY]) ht;have S1:=S.same s1;have t1:(upd H t (.BC [V.int G.BP,V.int G.AY])) t=some (.BC (tv (G.BP,G.AY))):=Ac;generalize upd H t (.BC [V.int G.BP,V.int G.AY])=H1 at s1 S1 t1;obtain⟨EJ,FY⟩:=S1.ob;refine⟨_,rfl,p,C,EJ,_,_,rfl,FY,T.cl,T.nM,Y3 G,_,_,rfl,rfl,EJ,_,FY,Di G,?_⟩;rw[Vl];have S2:=S1.fld EJ (G.AY+1) G.AZ;have JV:∀b o,H1 b=some o->b≠p->(upd H1 p (.ins C EJ (Bx { G with AY:=G.AY+1 }))) b=some o:=λb o e hb=>by rw[Ab hb];exact e
 have tp:=S1.tup_ne t1;have t2:=JV _ _ t1 tp.1;have S2:AQ C (upd H1 p (.ins C EJ (Bx { G with AY:=G.AY+1 }))) p { G with AY:=G.AY+1 }:=S2;generalize upd H1 p (.ins C EJ (Bx { G with AY:=G.AY+1 }))=H2 at S2 JV t2;obtain⟨HZ,FH⟩:=S2.ob;refine⟨_,rfl,p,C,HZ,_,_,rfl,FH,T.cl,T.nO,C0 _,_,rfl,G.o,_,rfl,FF.t (k:=tk (G.BP,G.AY)) S2.dO t2 (by rw[ZA];exact A7 (by show G.AF.length<=1000;lia)),?_⟩;have e3:putK (G.AF.map λ(q:T2×Int)=>(tk q.1,V.int q.2)) (tk (G.BP,G.AY)) (V.int 0)=(G.AF++[((G.BP,G.AY),0)]).map λ(q:T2×Int)=>(tk q.1,V.int q.2):=by rw[Hm (k:=λq:T2×Int=>q.1) (f:=λq=>V.int q.2) _ f2,ZF];rfl
 have S3:=S2.IT (G.AF++[((G.BP,G.AY),0)]);unfold Cf at S3;rw[<-e3] at S3;have kA:=S2.tup_ne t2;have NY:∀b o,H2 b=some o->b∉BG G->(upd H2 G.o (.dT (putK (G.AF.map λ(q:T2×Int)=>(tk q.1,V.int q.2)) (tk (G.BP,G.AY)) (V.int 0)))) b=some o:=λb o e hb=>by rw[Ab (λz=>hb (by rw[z];simp[BG]))];exact e
 have t3:=NY _ _ t2 kA.2;generalize (upd H2 G.o (.dT (putK (G.AF.map λ(q:T2×Int)=>(tk q.1,V.int q.2)) (tk (G.BP,G.AY)) (V.int 0))))=H3 at S3 NY t3;intro a ha;have s4:=Ai (o:=.dT []) ha;have S4:=S3.same s4;have a4:(upd H3 a (.dT [])) a=some (A9 []):=Ac;have t4:=s4 _ _ t3;have af:a∉BG G:=λm=>by obtain⟨kvs,e⟩:=S3.KO (b:=a) (by have:BG { G with AY:=G.AY+1,AF:=G.AF++[((G.BP,G.AY),(0:Int))] }=BG G:=rfl;rw[this];exact m);rw[ha] at e;cases e
 generalize upd H3 a (.dT [])=H4 at s4 S4 a4 t4;obtain⟨VN,eQ⟩:=S4.ob;refine⟨_,rfl,p,C,VN,_,_,rfl,eQ,T.cl,T.nL,Dw _,_,rfl,G.l,_,rfl,FF.t (k:=tk (G.BP,G.AY)) S4.dl t4 (by rw[ZA];exact A7 (by show G.holds.length<=1000;lia)),?_⟩;have e5:putK (G.holds.map λ(q:T2×Addr×List T2)=>(tk q.1,V.ref q.2.1)) (tk (G.BP,G.AY)) (V.ref a)=(G.holds++[((G.BP,G.AY),a,[])]).map λ(q:T2×Addr×List T2)=>(tk q.1,V.ref q.2.1):=by rw[Hm (k:=λq:T2×Addr×List T2=>q.1) (f:=λq=>V.ref q.2.1) _ f3,ZF];rfl
 have S5:=S4.Y_ (G.BP,G.AY) a4 af;unfold Ec at S5;rw[<-e5] at S5;have U_:∀b o,H4 b=some o->b∉BG G->(upd H4 G.l (.dT (putK (G.holds.map λ(q:T2×Addr×List T2)=>(tk q.1,V.ref q.2.1)) (tk (G.BP,G.AY)) (V.ref a)))) b=some o:=λb o e hb=>by rw[Ab (λz=>hb (by rw[z];simp[BG]))];exact e
 have t5:=U_ _ _ t4 kA.2;generalize (upd H4 G.l (.dT (putK (G.holds.map λ(q:T2×Addr×List T2)=>(tk q.1,V.ref q.2.1)) (tk (G.BP,G.AY)) (V.ref a))))=H5 at S5 U_ t5;obtain⟨YH,WZ⟩:=S5.ob;refine⟨_,rfl,p,C,YH,_,_,rfl,WZ,T.cl,T.nH,E4 _,_,rfl,G.h,_,rfl,FF.t (k:=tk (G.BP,G.AY)) S5.dh t5 (by rw[ZA];exact A7 (by show G.hand.length<=1000;lia)),?_⟩;have e6:putK (G.hand.map λ(q:T2)=>(tk q,V.bl true)) (tk (G.BP,G.AY)) (V.bl true)=(G.hand++[(G.BP,G.AY)]).map λ(q:T2)=>(tk q,V.bl true):=by rw[Hm (k:=λq:T2=>q) (f:=λ_=>V.bl true) _ f1,ZF];rfl
 have S6:=S5.MA (G.hand++[(G.BP,G.AY)]);unfold A9 at S6;rw[<-e6] at S6;have XY:∀b o,H5 b=some o->b∉BG G->(upd H5 G.h (.dT (putK (G.hand.map λ(q:T2)=>(tk q,V.bl true)) (tk (G.BP,G.AY)) (V.bl true)))) b=some o:=λb o e hb=>by rw[Ab (λz=>hb (by rw[z];simp[BG]))];exact e
 have t6:=XY _ _ t5 kA.2;generalize (upd H5 G.h (.dT (putK (G.hand.map λ(q:T2)=>(tk q,V.bl true)) (tk (G.BP,G.AY)) (V.bl true))))=H6 at S6 XY t6;obtain⟨RM,UW⟩:=S6.ob;refine⟨_,rfl,p,C,RM,_,_,rfl,UW,T.cl,T.nT,B7 _,_,_,rfl,rfl,RM,_,UW,Di _,?_⟩;rw[Bc];have S7:=S6.fld RM (G.AY+1) (G.AZ+1);have NF:∀{b:Addr},H1 b=none->H b=none:=λ{b} e=>Cq s1 e;have PB:Q_ p G H (upd H6 p (.ins C RM (Bx { G with AY:=G.AY+1,AZ:=G.AZ+1,AF:=G.AF++[((G.BP,G.AY),0)],holds:=G.holds++[((G.BP,G.AY),a,[])],hand:=G.hand++[(G.BP,G.AY)] }))):=λb o e hb hf=>by rw[Ab hb];exact XY _ _ (U_ _ _ (s4 _ _ (NY _ _ (JV _ _ (s1 _ _ e) hb) hf)) hf) hf
 refine⟨_,rfl,k t a _ ht ?_ (by rw[Ab tp.1];exact t6) S7 PB⟩;cases q:H a with | none=>rfl | some u =>exfalso;(have xT:a≠p:=λz=>by rw[z,S3.ob.choose_spec] at ha;cases ha);have:H3 a=some u:=NY _ _ (JV _ _ (s1 _ _ q) xT) af;rw[ha] at this;cases this
theorem wC:Ao ["self"] ["self"] (Aj X6):={}
theorem Yp(F:EK K "tick" "House.tick" X6 f fd)(T:Txt K mg C Cn DO MI NW):CV P w K mg base 1 f fd ["self"] (Wb C):=by refine F.IQ wC λvs H Q E h=>?_;obtain⟨p,G,rfl,S,k⟩:=h;refine⟨rfl,λDP A outer s hr=>?_⟩;obtain⟨dx,hp⟩:=S.ob;exact⟨_,Ae (Ar (An (pv 0) rfl)),⟨_,rfl,p,C,dx,_,_,rfl,hp,T.cl,T.nT,B7 G,k⟩⟩
end
theorem LZ{a b c:Str}{k:NameKind}{cl:List (Str×Addr)}{y:Str}(hc:∃z,cl.lookup c=some z)(h:([(a,NameKind.local),(b,NameKind.local),(c,k)]:List (Str×NameKind)).lookup y=some .cell\/([(a,NameKind.local),(b,NameKind.local),(c,k)]:List (Str×NameKind)).lookup y=some .free):∃z,cl.lookup y=some z:=by grind
theorem Zv(s:Bi H H')(x:Paired (RecAt H) as rs):Paired (RecAt H') as rs:=As (λ_ _ h9=>by obtain⟨ka,e1,e2⟩:=h9;exact⟨ka,s _ _ e1,s _ _ e2⟩) x
section
theorem Jjo:Ao ["self","thing"] ["self","thing"] (Aj X5):={}
theorem Ka(f:α->β)(l:List α):(l.map λt=>(t,f t)).map (·.1)=l:=by rw[AR];exact IK l
theorem Jeh(F:EK K "told" "House.told" X5 f fd)(T:Txt K mg C Cn DO MI NW):CV P w K mg base 1 f fd ["self","thing"] (Wa C K):=by
 refine F.IQ Jjo λvs H Q E h=>?_;obtain⟨p,t,G,th,wt,a,hl,hs,rfl,S,ht,f1,f2,UA,pm,pw,k⟩:=h;refine⟨rfl,λDP A outer s hr=>?_⟩;have hu:=B3 hr;obtain⟨dx,hp⟩:=S.ob;have g1:DJ H G.o (.ref t) (some (V.int wt)):=by have:=DJ.t (k:=tk th) S.dO ht;rw[Dk (k:=λq:T2×Int=>q.1) (f:=λq=>V.int q.2),f1] at this;exact this
 have g2:DJ H G.l (.ref t) (some (V.ref a)):=by have:=DJ.t (k:=tk th) S.dl ht;rw[Dk (k:=λq:T2×Addr×List T2=>q.1) (f:=λq=>V.ref q.2.1),f2] at this;exact this
 have g3:H a=some (A9 hl):=S.hl _ (AX f2);refine⟨_,Ae (Ar (Ca (Aa (pv 1) (Aa (Cp hu (An (pv 0) rfl) (pv 1)) (Aa (Dm Dx (by rfl) T.tuple EH (Aa (Bg (Cm rfl) (by rfl) T.sorted DI (Aa (Cp hu (An (pv 0) rfl) (pv 1)) Af)) Af)) Af))))),?_⟩;refine⟨_,rfl,_,rfl,p,C,dx,_,_,rfl,hp,T.cl,T.nO,C0 G,_,rfl,G.o,_,rfl,g1,_,rfl,p,C,dx,_,_,rfl,hp,T.cl,T.nL,Dw G,_,rfl,G.l,_,rfl,g2,a,_,hs,rfl,Y4 g3,(by rw[ZA];exact UA),(by rw[Ka];exact pm),pw,λr as hr ha=>?_⟩;refine⟨r,_,rfl,.inl ⟨EC.of Ac,λx2 k_=>⟨(by show 3<=sizeLine;decide),λx hx=>?_⟩⟩⟩;have s1:=Ai (o:=.BI (as.map V.ref)) hr;have s2:=Ai (o:=.BC (as.map V.ref)) k_;have s3:=Ai (o:=.BC [V.ref t,V.int wt,V.ref x2]) hx;have ss:=Am s1 (Am s2 s3);exact k x _ ss ⟨x,t,x2,as,rfl,Ac,ss _ _ ht,s3 _ _ Ac,As (λ_ _ e=>ss _ _ e) ha⟩
theorem cQ:Ao ["self","hand","things","records"] ["self"] (Aj Ng):={}
theorem Jb9{f fT:Addr}{fd mC:FuncData}(F:EK K "state" "House.state" Ng f fd)(T:Txt K mg C Cn DO MI NW)(FT:EK K "told" "House.told" X5 fT mC)(bT:Binds K mC ["self","thing"] [])(mT:f_ K C "told" fT) : CV P w K mg base 2 f fd ["self"] (Jl C K):=by
 have GT:CV P w K mg base 1 fT mC ["self","thing"] (Wa C K):=Jeh FT T;refine F.IQ cQ λvs H Q E h=>?_;obtain⟨p,G,hs,os,rs,rfl,S,z1,z2,z3,pm,pw,R,wY,wR,k⟩:=h;refine⟨rfl,λDP A outer s hr=>?_⟩;have GO:CU 1 _:=hr.mono (by decide);obtain⟨dx,hp⟩:=S.ob;refine⟨_,Ad (Aw (i:=1) cQ.nd rfl (Or.inl rfl) (Dm Dx (by rfl) T.tuple EH (Aa (Bg (Cm rfl) (by rfl) T.sorted DI (Aa (An (pv 0) rfl) Af)) Af))) (Ad (Aw (i:=2) cQ.nd rfl (Or.inl rfl) (Dm Dx (by rfl) T.tuple EH (Aa (En (caps:=[("self",0)]) rfl (Dl (Bg (Cm rfl) (by rfl) T.sorted DI (Aa (An (pv 0) rfl) Af))) rfl ZV rfl ZV rfl ⟨rfl,trivial⟩ (λy h=>LZ ⟨_,rfl⟩ h) ⟨⟨rfl,rfl,rfl,rfl⟩,trivial⟩ ZV (λ_ _ _ _ _=>Ml) (λ_ _ _ _ _=>Ap (pv 1) T.cl mT GT GO bT .nil Bb (Aa (pv 0) Af))) Af))) (Ad (Aw (i:=3) cQ.nd rfl (Or.inl rfl) (Dm O0 (by rfl) T.tuple EH (Aa (Bg (Kr rfl (Xh hr)) (by rfl) T.sorted DI (Aa (K0 CK PySem.F.slot_dict_items PySem.F.type_dict_items Jcn (An (pv 0) rfl)) Af)) Af))) (Ae (Ar (Ca (Aa (pv 1) (Aa (pv 2) (Aa (pv 3) Af)))))))),?_⟩;refine⟨_,rfl,p,C,dx,_,_,rfl,hp,T.cl,T.nH,E4 G,G.h,_,hs,rfl,Y4 S.dh,(by rw[ZA];exact z1),(by rw[Ka];exact pm),pw,λr1 I_ o9 ym=>⟨r1,_,rfl,.inl ⟨EC.of Ac,λx1 lA=>?_⟩⟩⟩;have s1:=Ai (o:=.BI (I_.map V.ref)) o9;have s2:=Ai (o:=.BC (I_.map V.ref)) lA;have jA:=Am s1 s2;have S1:=S.same jA;have q1:(upd (upd H r1 (.BI (I_.map V.ref))) x1 (.BC (I_.map V.ref))) x1=some (.BC (I_.map V.ref)):=Ac;have gp:BB (upd (upd H r1 (.BI (I_.map V.ref))) x1 (.BC (I_.map V.ref))) I_ hs:=As (λ_ _ e=>jA _ _ e) ym;generalize upd (upd H r1 (.BI (I_.map V.ref))) x1 (.BC (I_.map V.ref))=H1 at jA S1 q1 gp;obtain⟨EJ,FY⟩:=S1.ob;have e0:((G.AF.map λq=>(q.1,V.int q.2)).map (·.1))=G.AF.map (·.1):=by rw[AR];rfl
 refine⟨_,rfl,p,C,EJ,_,_,rfl,FY,T.cl,T.nO,C0 G,G.o,_,os.map (·.1),rfl,vG S1.dO,(by rw[ZA];exact z2),(by rw[e0];exact R.pm),R.pw,λr2 QY NB UX=>⟨r2,rfl,⟨_,EC.of Ac⟩,λq hq=>?_⟩⟩;have s3:=Ai (o:=.BI (QY.map V.ref)) NB;have jh:(upd H1 r2 (.BI (QY.map V.ref))) r2=some (.BI (QY.map V.ref)):=Ac;have S2:=S1.same s3;have qL:=Am jA s3;have gk:BB (upd H1 r2 (.BI (QY.map V.ref))) QY (os.map (·.1)):=As (λ_ _ e=>s3 _ _ e) UX;have gn:BB (upd H1 r2 (.BI (QY.map V.ref))) I_ hs:=As (λ_ _ e=>s3 _ _ e) gp;have qY:=s3 _ _ q1;generalize upd H1 r2 (.BI (QY.map V.ref))=H2 at s3 jh S2 qL gk gn qY hq;have hlen:QY.length=os.length:=by have:=Paired.length UX;rw[ZA] at this;exact this
 have hos:os.length<64:=by have h1:=R.pm.length_eq;rw[ZA,ZA] at h1;lia
 refine Gb (K:=K) (a:=r2) (xs:=QY.map V.ref) (tt:=λ_ H Q=>Q true H) (te:=Pi C "told" (Wa C K) [] E0 (B6 1) (De (B6 0) Kv)) (caps:=[("self",0)]) (σ:=[some (.ref p),some (.ref x1),none,none]) (λi ys H3=>H3 q=some (.BI ys)/\Bi H2 H3/\Paired (NP H3) ys (os.take i)) ⟨Ac,Ai hq,by rw[HC];exact .nil⟩ (λi ys H3 _ h=>⟨EC.of (h.2.1 _ _ jh),h.1⟩) ?_ ?_;.rintro i x ys H3 N hx ⟨e3,s4,pr⟩ hN;refine Ck ?_;rw[ZH] at hx;cases XX:QY[i]? with | none=>rw[XX] at hx;cases hx | some ai =>rw[XX] at hx;cases hx;(have cv:i<os.length:=by rw[<-hlen];exact(ZJ XX).1);obtain⟨qo,lP⟩:=Au cv;have zy:=Ax gk i ai qo.1 XX (by rw[ZH,lP];rfl);obtain⟨f1,a,hl,f2,f3,f4,f5⟩:=R.at_ qo (ZP lP);have S3:=S2.same s4;obtain⟨ND,OH⟩:=S3.ob;refine⟨_,rfl,p,ND,_,rfl,OH,By G ZV,_,rfl,p,ai,G,qo.1,qo.2.1,a,hl,qo.2.2,rfl,S3,s4 _ _ zy,f1,f2,f3,f4,f5,λx2 H5 s5 rep=>⟨s5 _ _ e3,?_,hN _ _ ⟨Ac,λb o e=>?_,?_⟩⟩⟩;(.have:=Paired.length pr;rw[this];exact A7 (BE (List.length_take_le _ _) (by lia)));(.have nb:b≠q:=Ak e hq;rw[Ab nb];exact s5 _ _ (s4 _ _ e));·(have kq:BU H5 (upd H5 q (.BI (ys++[V.ref x2]))):=OI λo' e=>by rw[s5 _ _ e3] at e;cases e;exact⟨λ_ z=>(by cases z),λ_ _ z=>(by cases z)⟩);(have et:os.take (i+1)=os.take i++[qo]:=by rw[DE,lP];rfl);rw[et];exact Es (rep.keep kq) (As (λ_ _ r=>(r.keep (HN s5)).keep kq) pr)
 .rintro ys H3 ⟨e3,s4,pr⟩;rw[ZA,hlen,BM] at pr;refine⟨q,_,rfl,.inl ⟨EC.of e3,λx2 k_=>?_⟩⟩;have s5:=Ai (o:=.BC ys) k_;have qK:=Am qL (Am s4 s5);have S4:=(S2.same s4).same s5;have q2:(upd H3 x2 (.BC ys)) x2=some (.BC ys):=Ac;have qX:=s5 _ _ (s4 _ _ qY);have gm:BB (upd H3 x2 (.BC ys)) I_ hs:=As (λ_ _ e=>s5 _ _ (s4 _ _ e)) gn;have qZ:Paired (NP (upd H3 x2 (.BC ys))) ys os:=As (λ_ _ r=>r.keep (HN s5)) pr;generalize upd H3 x2 (.BC ys)=H4 at s5 qK S4 q2 qX gm qZ;obtain⟨VN,eQ⟩:=S4.ob;have mh:=S4.dr;refine⟨_,rfl,p,C,VN,_,_,rfl,eQ,T.cl,T.nR,Cw G,(.inr (.inr (.inl ⟨rfl,.inr ⟨_,mh⟩⟩))),G.r,_,rfl,rfl,mh,λv hv=>?_⟩;have s6:=Ai (o:=Ti v G.r) hv;refine⟨v,G.r,G.AM,rs,rfl,Ac,s6 _ _ mh,z3,wY,wR,λr3 uP H7 s7 UU e7 wV=>⟨r3,_,rfl,EC.of e7,λx3 qe yE wc=>?_⟩⟩;have s8:=Ai (o:=.FJ qe (.BC (uP.map V.ref))) yE;refine⟨_,rfl,_,rfl,_,rfl,(by show 3<=sizeLine;decide),λx hx=>?_⟩;have s9:=Ai (o:=.BC [V.ref x1,V.ref x2,V.ref x3]) hx;have dj:=Am s6 (Am s7 (Am s8 s9));exact k x _ (Am qK dj) ⟨x1,x2,x3,I_,ys,uP,Ac,dj _ _ qX,As (λ_ _ e=>dj _ _ e) gm,dj _ _ q2,As (λ_ _ r=>r.keep (HN dj)) qZ,⟨qe,s9 _ _ Ac,wc⟩,Zv (Am s8 s9) wV⟩
end
section
theorem bX:Ao ["_law_script","_law_k","_law_number"] ["_law_script","_law_k"] (Aj Uj):={}
def Wi(K:W.Frag):Sp:=λvs H Q _=>∃(a:Addr)(ns:List Int)(k:Int),vs=[.ref a,.int k]/\EC K H a (ns.map V.int)/\ns.length<=63/\0<=k/\k<=1000/\∀v:Int,Q (.int v) H
theorem Yr(F:EK K "_law_cell" "_law_cell" Uj f fd)(hn:mg "len"=none):CV P w K mg base 1 f fd ["_law_script","_law_k"] (Wi K):=by
 refine F.IQ bX λvs H Q E h=>?_;obtain⟨a,ns,k,rfl,hS,hl,h0,JGj,kk⟩:=h;refine⟨rfl,λDP A outer s hr=>?_⟩;have hlen:(ns.map V.int).length=ns.length:=ZA ..;have item:∀i:Int,0<=i->i<ns.length->∃v,PD (ns.map V.int) i=some (.int v):=λi a b=>by obtain⟨x,hx⟩:=Au (xs:=ns) (j:=i.toNat) (by lia);exact⟨x,Ej a (by rw[ZH,hx];rfl)⟩
 refine⟨_,Ad (Bf (A3 Nn (pv 1) (Bg Bq (by rfl) hn B' (Aa (pv 0) Af)) (A6 _)) (Ae (Ar (Az D9 (pv 0) (pv 1)))) A4) (Ad (Aw (i:=2) bX.nd rfl (Or.inl rfl) (Be Fc (Be Fo (pv 1) Ah) Ah)) (Ad (Bf (A3 Px (Bg Bq (by rfl) hn B' (Aa (pv 0) Af)) Ah (A6 _)) (Ae (Aw (i:=2) bX.nd rfl (Or.inl rfl) (Be C1 (Be Fc (Be Fo (Az D9 (pv 0) (Be C1 (Be Fo (pv 1) Ah) (Bg Bq (by rfl) hn B' (Aa (pv 0) Af)))) Ah) (Be Fo (pv 1) Ah)) Ah))) A4) (Ae (Ar (Be C1 (Be Fo (pv 2) (pv 2)) Ah))))),?_⟩;refine⟨_,rfl,_,rfl,a,_,rfl,.inl hS,_,_,rfl,rfl,_,rfl,?_⟩;refine Tj (λc1=>?_) (λ_=>?_);.have c1:=BL c1;obtain⟨v,hv⟩:=item k h0 (by rw[hlen] at c1;exact c1);exact⟨_,rfl,_,rfl,a,_,_,_,rfl,rfl,hS,hv,kk v⟩
 .refine⟨_,rfl,_,_,rfl,rfl,.inr ⟨by decide,by decide⟩,_,_,rfl,rfl,?_⟩;refine⟨_,rfl,a,_,rfl,.inl hS,_,_,rfl,rfl,_,rfl,?_⟩;refine Tj (λc2=>?_) (λ_=>?_);(.have c2:=BL c2;(have VX:(0:Int)<(ns.length:Int):=by rw[hlen] at c2;exact c2);obtain⟨v,hv⟩:=item (k*7 % (ns.length:Int)) (DA _ (by lia)) (CM _ VX);refine⟨_,rfl,_,rfl,_,_,rfl,rfl,.inr ⟨by decide,by decide⟩,_,rfl,a,_,rfl,.inl hS,_,_,rfl,rfl,(by rw[hlen];exact VX),a,_,_,_,rfl,rfl,hS,(by rw[hlen];exact hv),_,_,rfl,rfl,.inr ⟨by decide,by decide⟩,_,rfl,_,_,rfl,rfl,.inr ⟨by decide,by decide⟩,_,_,rfl,rfl,_,_,rfl,rfl,(show(0:Int)<2147483647 by decide),?_⟩;refine⟨_,rfl,_,rfl,_,_,rfl,rfl,.inl ⟨?_,?_⟩,_,_,rfl,rfl,(show(0:Int)<2147483629 by decide),kk _⟩;(.have:=DA (v*48271+k*7919) (show(2147483647:Int)≠0 by decide);lia);.have:=CM (v*48271+k*7919) (show(0:Int)<2147483647 by decide);lia);.exact⟨_,rfl,_,rfl,_,_,rfl,rfl,.inl ⟨by lia,by lia⟩,_,_,rfl,rfl,(show(0:Int)<2147483629 by decide),kk _⟩
end
theorem Xb(h1:IS a b)(h2:IS b c):IS a c:=by rw[E3] at *;lia
theorem Su(h:a≠b)(h1:¬IS a b):IS b a:=by rw[E3] at *;have:¬(a.1=b.1/\a.2=b.2):=λz=>h (Prod.ext z.1 z.2);lia
theorem Jn(key:α->T2)(x:α):∀{s:List α},(s.map key).Pairwise IS->(∀y∈s,key x≠key y)->∃s':List α,s'.Perm (x::s)/\(s'.map key).Pairwise IS
 | [],_,_=>⟨[x],.refl _,by simp⟩
 | y::s,h,ne=>by have h':=EA.mp h;by_cases e:IS (key x) (key y);(.refine⟨x::y::s,.refl _,EA.mpr ⟨λz hz=>?_,h⟩⟩;rcases ZM hz with rfl|hz;(.exact e);.exact Xb e (h'.1 z hz));.obtain⟨s',p,q⟩:=Jn key x h'.2 λz hz=>ne z (ZD _ hz);refine⟨y::s',(p.cons y).trans (List.Perm.swap x y s),EA.mpr ⟨λz hz=>?_,q⟩⟩;obtain⟨u,hu,rfl⟩:=ZN hz;rcases ZM (p.mem_iff.mp hu) with rfl|hu;(.exact Su (ne y (ZL ..)) e);.exact h'.1 _ (BD hu)
theorem sorts(key:α->T2):∀{l:List α},(l.map key).Nodup->∃s:List α,s.Perm l/\(s.map key).Pairwise IS
 | [],_=>⟨[],.refl _,by simp⟩
 | x::l,nd=>by have KH:=AV.mp nd;obtain⟨s,p,q⟩:=sorts key KH.2;obtain⟨s',p',q'⟩:=Jn key x q λy hy e=>KH.1 (AI.mpr ⟨y,p.mem_iff.mp hy,e.symm⟩);exact⟨s',p'.trans (p.cons x),q'⟩
structure Good(G:BS):Prop where
 h1:G.hand.Nodup
 h2:G.hand.length<64
 o1:(G.AF.map (·.1)).Nodup
 o2:G.AF.length<64
 r1:(G.AM.map (·.1)).Nodup
 r2:G.AM.length<64
 at_:∀q∈G.AF,∃a hl,G.holds.find? (λz=>decide (z.1=q.1))=some (q.1,a,hl)/\hl.Nodup/\hl.length<64
structure Told(G:BS)(hs:List T2)(os:List (T2×Int×List T2))(rs:List (T2×Int)):Prop where
 pm:hs.Perm G.hand
 pw:hs.Pairwise IS
 RS:Rows G os
 pr:rs.Perm G.AM
 wr:(rs.map (·.1)).Pairwise IS
theorem FN{l:List (T2×Int)}(nd:(l.map (·.1)).Nodup){q:T2×Int}(hq:q∈l):l.find? (λz=>decide (z.1=q.1))=some q:=by induction l with | nil=>cases hq | cons x l ih =>have KH:=AV.mp nd;rcases ZM hq with rfl|hq;(.simp);.have ne:¬x.1=q.1:=λz=>KH.1 (AI.mpr ⟨q,hq,z.symm⟩);rw[BR,AG ne];exact ih KH.2 hq
theorem Yi(g:Good G):∀{s:List (T2×Int)},(∀q∈s,q∈G.AF)->∃os:List (T2×Int×List T2),os.map (λq=>(q.1,q.2.1))=s/\∀q∈os,G.AF.find? (λz=>decide (z.1=q.1))=some (q.1,q.2.1)/\∃a hl,G.holds.find? (λz=>decide (z.1=q.1))=some (q.1,a,hl)/\hl.length<64/\q.2.2.Perm hl/\q.2.2.Pairwise IS
 | [],_=>⟨[],rfl,λq hq=>by cases hq⟩
 | x::s,h=>by obtain⟨os,e,k⟩:=Yi g λq hq=>h q (ZD _ hq);have hx:=h x (ZL ..);obtain⟨a,hl,f,nd,z⟩:=g.at_ x hx;obtain⟨hs,p,q⟩:=sorts (λt:T2=>t) (l:=hl) (by rw[IK];exact nd);rw[IK] at q;refine⟨(x.1,x.2,hs)::os,by rw[AK,e],λy hy=>?_⟩;rcases ZM hy with rfl|hy;(.exact⟨FN g.o1 hx,a,hl,f,z,p,q⟩);.exact k y hy
theorem Good.told(g:Good G):∃hs os rs,Told G hs os rs:=by
 obtain⟨hs,p1,q1⟩:=sorts (λt:T2=>t) (l:=G.hand) (by rw[IK];exact g.h1);obtain⟨so,p2,q2⟩:=sorts (λq:T2×Int=>q.1) g.o1;obtain⟨rs,p3,q3⟩:=sorts (λq:T2×Int=>q.1) g.r1;obtain⟨os,e,k⟩:=Yi g λq hq=>p2.mem_iff.mp hq;have e1:os.map (·.1)=so.map (·.1):=by rw[<-e,AR];rfl
 rw[IK] at q1;exact⟨hs,os,rs,p1,q1,⟨by rw[e1];exact p2.map _,by rw[e1];exact q2,k⟩,p3,q3⟩
abbrev Ru:Stmt:=inClass (top 14) 17
abbrev R1:Stmt:=inClass (top 14) 11
abbrev Pr:Stmt:=inClass (top 14) 23
abbrev Uh:Stmt:=inClass (top 14) 24
abbrev Ry:Stmt:=inClass (top 21) 0
abbrev Js:Stmt:=inClass (top 21) 1
abbrev Hl:Stmt:=inClass (top 21) 2
abbrev Mh:Stmt:=inClass (top 21) 3
abbrev Wo:Stmt:=inClass (top 23) 0
abbrev Rp:Stmt:=inClass (top 23) 1
abbrev Rq:Stmt:=inClass (top 23) 2
abbrev Rt:Stmt:=inClass (top 23) 3
abbrev Rm:Stmt:=inClass (top 23) 4
abbrev Rr:Stmt:=inClass (top 23) 5
abbrev Jj3:Stmt:=inClass (top 23) 11
abbrev Rn:Stmt:=inClass (top 23) 6
abbrev Mf:Stmt:=inClass (top 23) 7
abbrev Hi:Stmt:=inClass (top 23) 9
abbrev Hg:Stmt:=inClass (top 23) 10
abbrev Fy:Stmt:=inClass (top 23) 12
abbrev D0:Stmt:=inClass (top 23) 14
abbrev Jp:Stmt:=inClass (top 23) 15
abbrev Ro:Stmt:=inClass (top 23) 16
abbrev Nf:Stmt:=inClass (top 23) 22
structure Kt(K:W.Frag)(mg:Str->Option Value)(C NL:Addr):Prop where
 cl:RV K C
 nL:DR K C "latest"
 nW:DR K C "waiting"
 a7:mg "Post"=some (.ref C)
 cNL:Tv K mg "NoLetter" NL
 list:mg "list"=none
def X0(C:Addr):Sp:=λvs H Q _=>∃(p dx:Addr),vs=[.ref p]/\H p=some (.ins C dx [])/\∀(d:Addr)(H':Hp),H d=none->HF C H' p d 0 []->(∀b o,H b=some o->b≠p->H' b=some o)->Q .EE H'
def Fn(C:Addr):Sp:=λvs H Q _=>∃(p d:Addr)(c:Int)(ls:List (Int×Addr))(k s g a:V),vs=[.ref p,k,s,g,a]/\HF C H p d c ls/\ls.length<=500 /\
 ∀(t:Addr)(H':Hp),H t=none->H' t=some (.BC [.int (c+1),k,s,g,a])->HF C H' p d (c+1) (ls++[(c+1,t)])->(∀b o,H b=some o->b≠p->b≠d->H' b=some o)->Q (.int (c+1)) H'
def M8(C:Addr):Sp:=λvs H Q _=>∃(p d:Addr)(c:Int)(ls:List (Int×Addr)),vs=[.ref p]/\HF C H p d c ls /\
 ∀(l:Addr)(H':Hp),H l=none->H' l=some (.BI (ls.map λx=>V.ref x.2))->Bi H H'->Q (.ref l) H'
def Ug(C NL:Addr):Sp:=λvs H Q E=>∃(p d:Addr)(c:Int)(ls:List (Int×Addr))(n:Int),vs=[.ref p,.int n]/\HF C H p d c ls /\
 ((∃(l1 l2:List (Int×Addr))(t:Addr),ls=l1++(n,t)::l2/\∀(H':Hp),HF C H' p d c (l1++l2)->(∀b o,H b=some o->b≠d->H' b=some o)->Q (.ref t) H')\/((∀l∈ls,l.1≠n)/\E (.ref NL) none H))
section
theorem Jjw:Ao ["self"] ["self"] (Aj Ry):={}
theorem Jcd(F:EK K "__init__" "Post.__init__" Ry f fd)(T:Kt K mg C NL):CV P w K mg base 1 f fd ["self"] (X0 C):=by
 refine F.IQ Jjw λvs H Q E h=>?_;obtain⟨p,dx,rfl,hp,k⟩:=h;refine⟨rfl,λDP A outer s hr=>?_⟩;refine⟨_,Ad (C7 (pv 0) Ah rfl) (Ae (C7 (pv 0) Er rfl)),?_⟩;refine⟨_,rfl,p,C,dx,[],rfl,hp,T.cl,T.nL,(by show 0<1000;decide),?_⟩;intro d hd;have eO:p≠d:=λz=>by rw[<-z,Ac] at hd;cases hd
 have QR:H d=none:=by rw[Ab (Ne.symm eO)] at hd;exact hd
 refine⟨_,rfl,p,C,dx,_,rfl,(by rw[Ab eO];exact Ac),T.cl,T.nW,(by show 1<1000;decide),?_⟩;refine k d _ QR ⟨⟨dx,Ac⟩,by rw[Ab (Ne.symm eO),Ac];rfl,λl hl=>by simp at hl,CN⟩ λb o e hb=>?_;rw[Ab hb,Ab (Ak e QR),Ab hb];exact e
theorem Jju:Ao ["self","kind","sender","goal","about"] ["self","kind","sender","goal","about"] (Aj Js):={}
theorem Hs(F:EK K "put" "Post.put" Js f fd)(T:Kt K mg C NL):CV P w K mg base 1 f fd ["self","kind","sender","goal","about"] (Fn C):=by
 refine F.IQ Jju λvs H Q E h=>?_;obtain⟨p,d,c,ls,kk,ss,gg,aa,rfl,S,hl,k⟩:=h;refine⟨rfl,λDP A outer s hr=>?_⟩;have hu:=B3 hr;obtain⟨⟨dx,h1⟩,hd,le,nd⟩:=id S;have dy:p≠d:=S.ne;refine⟨_,Ad (B8 (pv 0) Ah Dh) (Ad (Bz hu (An (pv 0) rfl) (An (pv 0) rfl) (Ca (Aa (An (pv 0) rfl) (Aa (pv 1) (Aa (pv 2) (Aa (pv 3) (Aa (pv 4) Af)))))) rfl) (Ae (Ar (An (pv 0) rfl)))),?_⟩;refine⟨_,rfl,p,C,dx,_,_,rfl,h1,T.cl,T.nL,E1 _ _,_,_,rfl,rfl,dx,_,h1,(by rw[Uu];show 2<1000;decide),?_⟩;rw[Zy];have h2:(upd H p (.ins C dx (Ef (c+1) d))) p=some (.ins C dx (Ef (c+1) d)):=Ac;have d2:(upd H p (.ins C dx (Ef (c+1) d))) d=some (.dK (kvsOf ls)):=by rw[Ab dy.symm];exact hd
 refine⟨_,rfl,p,C,dx,_,_,rfl,h2,T.cl,T.nL,E1 _ _,_,rfl,_,rfl,_,rfl,_,rfl,(by show 5<=sizeLine;decide),?_⟩;intro t ht;have qg:p≠t:=Ak h2 ht;have qm:d≠t:=Ak d2 ht;have rS:H t=none:=by rw[Ab qg.symm] at ht;exact ht
 have h3:∀o,(upd (upd H p (.ins C dx (Ef (c+1) d))) t o) p=some (.ins C dx (Ef (c+1) d)):=λo=>by rw[Ab qg];exact h2
 have d3:∀o,(upd (upd H p (.ins C dx (Ef (c+1) d))) t o) d=some (.dK (kvsOf ls)):=λo=>by rw[Ab qm];exact d2
 refine⟨_,rfl,p,C,dx,_,_,rfl,h3 _,T.cl,T.nW,Em _ _,_,rfl,p,C,dx,_,_,rfl,h3 _,T.cl,T.nL,E1 _ _,d,_,rfl,FF.k (k:=Sum.inl (c+1)) (d3 _) (by rw[Kd];exact A7 (by lia)),?_⟩;have pC:B9 (kvsOf ls) (Sum.inl (c+1):Key)=none:=by rw[Kc,BA.mpr λl hl=>by have:=le l hl;simp;lia];rfl
 have pS:putK (kvsOf ls) (Sum.inl (c+1):Key) (V.ref t)=kvsOf (ls++[(c+1,t)]):=by rw[Fz _ pC];unfold kvsOf;rw[ZF];rfl
 rw[pS];refine⟨_,rfl,p,C,dx,_,_,rfl,(by rw[Ab dy];exact h3 _),T.cl,T.nL,E1 _ _,?_⟩;refine k t _ rS (by rw[Ab qm.symm,Ac]) ⟨⟨dx,by rw[Ab dy];exact h3 _⟩,Ac,λl hl=>?_,?_⟩ λb o e hp hb=>?_;.rcases ZI hl with hl|hl;(.have:=le l hl;lia);·(have e:l=(c+1,t):=by simpa using hl);rw[e];exact A' _
 .rw[ZF];refine Fi nd λm=>?_;obtain⟨l,hl,e⟩:=ZN m;have:=le l hl;have e':l.1=c+1:=e;lia
 .rw[Ab hb,Ab (Ak e rS),Ab hp];exact e
theorem Jjv:Ao ["self"] ["self"] (Aj Hl):={}
theorem U1(F:EK K "letters" "Post.letters" Hl f fd)(T:Kt K mg C NL):CV P w K mg base 1 f fd ["self"] (M8 C):=by
 refine F.IQ Jjv λvs H Q E h=>?_;obtain⟨p,d,c,ls,rfl,S,k⟩:=h;refine⟨rfl,λDP A outer s hr=>?_⟩;obtain⟨⟨dx,h1⟩,hd,le,nd⟩:=id S;refine⟨_,Ae (Ar (Dm (Lk rfl) (by rfl) T.list PyProof.Rows.boot_list (Aa (K0 CK HU MK K5 (An (pv 0) rfl)) Af))),?_⟩;refine⟨_,rfl,p,C,dx,_,_,rfl,h1,T.cl,T.nW,Em _ _,(.inr (.inr (.inl ⟨rfl,.inl ⟨_,hd⟩⟩))),d,_,rfl,rfl,hd,λv hv=>?_⟩;have xM:d≠v:=Ak hd hv;refine⟨v,d,_,rfl,Ac,by rw[Ab xM];exact hd,λl hl=>?_⟩;have wx:l≠v:=λz=>by rw[z,Ac] at hl;cases hl
 have rj:H l=none:=by rw[Ab wx] at hl;exact hl
 refine k l _ rj (by rw[Ac];unfold kvsOf;rw[AR];rfl) λb o e=>?_;rw[Ab (Ak e rj),Ab (Ak e hv)];exact e
theorem Jjt:Ao ["self","n"] ["self","n"] (Aj Mh):={}
theorem Z2(F:EK K "taken" "Post.taken" Mh f fd)(T:Kt K mg C NL):EU P w K mg base 1 f fd ["self","n"] (Ug C NL):=by
 refine F5 F Jjt λvs H Q E h=>?_;obtain⟨p,d,c,ls,n,rfl,S,k⟩:=h;refine⟨rfl,λDP A outer s hr=>?_⟩;have hu:=B3 hr;obtain⟨⟨dx,h1⟩,hd,le,nd⟩:=id S;have dy:p≠d:=S.ne;refine⟨_,Ad (Bf (Dq (D5 hu (pv 1) (An (pv 0) rfl))) (Ae (F1 rfl rfl T.cNL Gj)) A4) (Ae (Ar (Uw (An (pv 0) rfl) (pv 1) ⟨rfl,rfl,rfl,rfl⟩))),?_⟩;refine⟨_,rfl,_,rfl,p,C,dx,_,_,rfl,h1,T.cl,T.nW,Em _ _,d,_,rfl,DJ.k (k:=Sum.inl n) hd,_,rfl,?_⟩;rcases k with⟨l1,l2,t,rfl,k⟩|⟨cu,k⟩;·(have ev:B9 (kvsOf (l1++(n,t)::l2)) (Sum.inl n:Key)=some (.ref t):=by rw[Kc,Vr nd];rfl);rw[ev];refine Cd ?_;refine⟨_,rfl,p,C,dx,_,_,rfl,h1,T.cl,T.nW,Em _ _,d,rfl,.inl ⟨_,.inl hd⟩,_,rfl,_,Sum.inl n,_,hd,rfl,ev,?_⟩;rw[Vx nd];(refine k _ ⟨⟨dx,by rw[Ab dy];exact h1⟩,Ac,λl hl=>le l ?_,?_⟩ λb o e hb=>by rw[Ab hb];exact e);(.rcases ZI hl with hl|hl;(.exact ZB _ hl);.exact ZC _ (ZD _ hl));.rw[ZF,AK] at nd;rw[ZF];refine AO.mpr ⟨(AO.mp nd).1,(AV.mp (AO.mp nd).2.1).2,λa ha b hb=>(AO.mp nd).2.2 a ha b (ZD _ hb)⟩
 ·(have ev:B9 (kvsOf ls) (Sum.inl n:Key)=none:=by rw[Kc,BA.mpr λl hl=>by simpa using cu l hl];rfl);rw[ev];exact Ck k
end
section
def Xx(C:Addr):Sp:=λvs H Q _=>∃(p t:Addr)(G:BS)(th:T2),vs=[.ref p,.ref t]/\AQ C H p G/\H t=some (.BC (tv th))/\Q (.bl (decide ((G.AM.find? (λq=>decide (q.1=th))).map (·.2)=some 0))) H
theorem Jjr:Ao ["self","thing"] ["self","thing"] (Aj Ru):={}
theorem Jca(F:EK K "is_spent" "House.is_spent" Ru f fd)(T:Txt K mg C Cn DO MI NW):CV P w K mg base 1 f fd ["self","thing"] (Xx C):=by refine F.IQ Jjr λvs H Q E h=>?_;obtain⟨p,t,G,th,rfl,S,ht,k⟩:=h;refine⟨rfl,λDP A outer s hr=>?_⟩;have hu:=B3 hr;obtain⟨dx,hp⟩:=S.ob;refine⟨_,Ae (Ar (Jz Cy (Jbw hu (An (pv 0) rfl) (pv 1) ⟨rfl,rfl,rfl,rfl⟩) Ah (A6 _))),?_⟩;refine⟨_,rfl,p,C,dx,_,_,rfl,hp,T.cl,T.nR,Cw G,G.r,rfl,.inr ⟨_,.inl S.dr⟩,_,rfl,_,Gn S.dr ht,?_⟩;cases e:(G.AM.find? λq=>decide (q.1=th)) with | none =>rw[e] at k;exact⟨rfl,k⟩ | some q =>rw[e] at k;refine⟨rfl,?_⟩;(have e2:decide (V.int q.2=V.int 0)=decide ((some q).map (·.2)=some (0:Int)):=by simp);show Q (V.bl (decide (V.int q.2=V.int 0))) H;rw[e2];exact k
end
structure Ek(K:W.Frag)(mg:Str->Option Value)(C NH NI:Addr):Prop where
 cl:RV K C
 nS:DR K C "share"
 nH:DR K C "houses"
 nP:DR K C "post"
 nI:DR K C "inquiries"
 nF:DR K C "finds"
 nE:DR K C "enclosed"
 a7:mg "World"=some (.ref C)
 cNH:Tv K mg "NoHouse" NH
section
def Dt(CW C CP NH:Addr):Sp:=λvs H Q E=>∃(p:Addr)(h:Int)(W:FZ),vs=[.ref p,.int h]/\AN CW C CP H p W/\((Xq W h/\E (.ref NH) none H)\/∃q G,IH W h q G/\Q (.ref q) H)
theorem Jbi:Ao ["self","h"] ["self","h"] (Aj D0):={}
theorem Do(F:EK K "house" "World.house" D0 f fd)(T:Txt K mg C Cn DO MI NW)(TW:Ek K mg CW NH NI):EU P w K mg base 1 f fd ["self","h"] (Dt CW C CP NH):=by
 refine F5 F Jbi λvs H Q E h=>?_;obtain⟨p,h,W,rfl,S,k⟩:=h;refine⟨rfl,λDP A outer s hr=>?_⟩;obtain⟨dx,hp⟩:=S.ob;refine⟨_,Ad (Bf (bM (Ps (A3 Nn (pv 1) Ah (A6 _)) (Ni (A3 Jib (pv 1) (Bg Bq (by rfl) T.len B' (Aa (An (pv 0) rfl) Af)) (A6 _))))) (Ae (F1 rfl rfl TW.cNH Gj)) A4) (Ae (Ar (Az D9 (An (pv 0) rfl) (pv 1)))),?_⟩;have e0:((W.qs.map λq=>V.ref q.1).length:Int)=W.qs.length:=by simp
 refine⟨_,rfl,_,_,rfl,rfl,_,rfl,?_⟩;rcases k with⟨o,k⟩|⟨q,G,i,k⟩;.refine Tj (λ_=>Ck k) (λc=>?_);have c:¬h<0:=λz=>c (AJ z);refine⟨_,rfl,_,rfl,p,CW,dx,_,_,rfl,hp,TW.cl,TW.nH,Dc W,W.hs,_,rfl,.inl (EC.of S.hs),_,_,rfl,rfl,_,rfl,?_⟩;rw[e0,AJ (show(W.qs.length:Int)<=h from o.resolve_left c)];exact Ck k
 .obtain⟨i1,i2⟩:=i.lt;rw[AG (show ¬h<0 by lia)];refine Cd ?_;refine⟨_,rfl,_,rfl,p,CW,dx,_,_,rfl,hp,TW.cl,TW.nH,Dc W,W.hs,_,rfl,.inl (EC.of S.hs),_,_,rfl,rfl,_,rfl,?_⟩;rw[e0,AG (show ¬(W.qs.length:Int)<=h by lia)];refine Cd ?_;exact⟨_,rfl,p,CW,dx,_,_,rfl,hp,TW.cl,TW.nH,Dc W,_,rfl,W.hs,_,_,_,rfl,rfl,EC.of S.hs,i.PD,k⟩
def Q4(CW C CP NH:Addr):Sp:=λvs H Q E=>∃(p:Addr)(h:Int)(W:FZ),vs=[.ref p,.int h]/\AN CW C CP H p W/\((Xq W h/\E (.ref NH) none H)\/∃q G,IH W h q G/\Rf C [.ref q] H Q E)
theorem Jd0:Ao ["self","h"] ["self","h"] (Aj Rp):={}
theorem Jb3(F:EK K "make" "World.make" Rp f fd)(T:Txt K mg C Cn DO MI NW)(TW:Ek K mg CW NH NI)(MH:CO K CW "house" "World.house" D0 ["self","h"] fH dH)(M1:CO K C "make" "House.make" Yb ["self"] f1 d1)(G1:EU P w K mg base 1 f1 d1 ["self"] (Rf C)):EU P w K mg base 2 f fd ["self","h"] (Q4 CW C CP NH):=by
 have GH:EU P w K mg base 1 fH dH ["self","h"] (Dt CW C CP NH):=Do MH.fn T TW;refine F5 F Jd0 λvs H Q E h=>?_;obtain⟨p,h,W,rfl,S,k⟩:=h;refine⟨rfl,λDP A outer s hr=>?_⟩;have GO:CU 1 _:=hr.mono (by decide);obtain⟨dx,hp⟩:=S.ob;refine⟨_,Ae (Ar (C9 (pl:=_) (Ap (pl:=_) (pv 0) TW.cl MH.mt GH GO MH.bd .nil Bm (Aa (pv 1) Af)) T.cl M1.mt G1 hr M1.bd .nil Bm)),?_⟩;refine⟨_,rfl,p,dx,_,rfl,hp,C4 W ZV,_,rfl,p,h,W,rfl,S,?_⟩;rcases k with k|⟨q,G,i,k⟩;.exact .inl k
 .obtain⟨EJ,hq⟩:=(i.at S).ob;exact .inr ⟨q,G,i,q,EJ,_,rfl,hq,By G ZV,k⟩
def Q5(CW C CP NH Cn DO:Addr):Sp:=λvs H Q E=>∃(p:Addr)(h:Int)(va vb:V)(W:FZ),vs=[.ref p,.int h,va,vb]/\AN CW C CP H p W/\((Xq W h/\E (.ref NH) none H)\/∃q G,IH W h q G/\Rg C Cn DO [.ref q,va,vb] H (λ_ H'=>Q .EE H') E)
theorem Jd2:Ao ["self","h","a","b"] ["self","h","a","b"] (Aj Rq):={}
theorem Jb5(F:EK K "hold" "World.hold" Rq f fd)(T:Txt K mg C Cn DO MI NW)(TW:Ek K mg CW NH NI)(MH:CO K CW "house" "World.house" D0 ["self","h"] fH dH)(M1:CO K C "hold" "House.hold" Ye ["self","a","b"] f1 d1)(G1:EU P w K mg base 3 f1 d1 ["self","a","b"] (Rg C Cn DO)):EU P w K mg base 4 f fd ["self","h","a","b"] (Q5 CW C CP NH Cn DO):=by
 have GH:EU P w K mg base 1 fH dH ["self","h"] (Dt CW C CP NH):=Do MH.fn T TW;refine F5 F Jd2 λvs H Q E h=>?_;obtain⟨p,h,va,vb,W,rfl,S,k⟩:=h;refine⟨rfl,λDP A outer s hr=>?_⟩;have GO:CU 1 _:=hr.mono (by decide);obtain⟨dx,hp⟩:=S.ob;refine⟨_,Ae (A5 (Ap (pl:=_) (Ap (pl:=_) (pv 0) TW.cl MH.mt GH GO MH.bd .nil Bm (Aa (pv 1) Af)) T.cl M1.mt G1 hr M1.bd .nil Bm (Aa (pv 2) (Aa (pv 3) Af)))),?_⟩;refine⟨_,rfl,p,dx,_,rfl,hp,C4 W ZV,_,rfl,p,h,W,rfl,S,?_⟩;rcases k with k|⟨q,G,i,k⟩;.exact .inl k
 .obtain⟨EJ,hq⟩:=(i.at S).ob;exact .inr ⟨q,G,i,q,EJ,_,rfl,hq,By G ZV,_,rfl,_,rfl,k⟩
def Q7(CW C CP NH Cn DO MI:Addr):Sp:=λvs H Q E=>∃(p:Addr)(h:Int)(va vb:V)(W:FZ),vs=[.ref p,.int h,va,vb]/\AN CW C CP H p W/\((Xq W h/\E (.ref NH) none H)\/∃q G,IH W h q G/\Ri C Cn DO MI [.ref q,va,vb] H (λ_ H'=>Q .EE H') E)
theorem Jd5:Ao ["self","h","a","b"] ["self","h","a","b"] (Aj Rt):={}
theorem Jb8(F:EK K "drop" "World.drop" Rt f fd)(T:Txt K mg C Cn DO MI NW)(TW:Ek K mg CW NH NI)(MH:CO K CW "house" "World.house" D0 ["self","h"] fH dH)(M1:CO K C "drop" "House.drop" Yg ["self","a","b"] f1 d1)(G1:EU P w K mg base 4 f1 d1 ["self","a","b"] (Ri C Cn DO MI)):EU P w K mg base 5 f fd ["self","h","a","b"] (Q7 CW C CP NH Cn DO MI):=by
 have GH:EU P w K mg base 1 fH dH ["self","h"] (Dt CW C CP NH):=Do MH.fn T TW;refine F5 F Jd5 λvs H Q E h=>?_;obtain⟨p,h,va,vb,W,rfl,S,k⟩:=h;refine⟨rfl,λDP A outer s hr=>?_⟩;have GO:CU 1 _:=hr.mono (by decide);obtain⟨dx,hp⟩:=S.ob;refine⟨_,Ae (A5 (Ap (pl:=_) (Ap (pl:=_) (pv 0) TW.cl MH.mt GH GO MH.bd .nil Bm (Aa (pv 1) Af)) T.cl M1.mt G1 hr M1.bd .nil Bm (Aa (pv 2) (Aa (pv 3) Af)))),?_⟩;refine⟨_,rfl,p,dx,_,rfl,hp,C4 W ZV,_,rfl,p,h,W,rfl,S,?_⟩;rcases k with k|⟨q,G,i,k⟩;.exact .inl k
 .obtain⟨EJ,hq⟩:=(i.at S).ob;exact .inr ⟨q,G,i,q,EJ,_,rfl,hq,By G ZV,_,rfl,_,rfl,k⟩
def Q3(CW C CP NH Cn DO MI:Addr):Sp:=λvs H Q E=>∃(p:Addr)(h:Int)(va vb:V)(W:FZ),vs=[.ref p,.int h,va,vb]/\AN CW C CP H p W/\((Xq W h/\E (.ref NH) none H)\/∃q G,IH W h q G/\Ra C Cn DO MI [.ref q,va,vb] H (λ_ H'=>Q .EE H') E)
theorem Jdz:Ao ["self","h","a","b"] ["self","h","a","b"] (Aj Rm):={}
theorem Jb0(F:EK K "take" "World.take" Rm f fd)(T:Txt K mg C Cn DO MI NW)(TW:Ek K mg CW NH NI)(MH:CO K CW "house" "World.house" D0 ["self","h"] fH dH)(M1:CO K C "take" "House.take" X7 ["self","a","b"] f1 d1)(G1:EU P w K mg base 4 f1 d1 ["self","a","b"] (Ra C Cn DO MI)):EU P w K mg base 5 f fd ["self","h","a","b"] (Q3 CW C CP NH Cn DO MI):=by
 have GH:EU P w K mg base 1 fH dH ["self","h"] (Dt CW C CP NH):=Do MH.fn T TW;refine F5 F Jdz λvs H Q E h=>?_;obtain⟨p,h,va,vb,W,rfl,S,k⟩:=h;refine⟨rfl,λDP A outer s hr=>?_⟩;have GO:CU 1 _:=hr.mono (by decide);obtain⟨dx,hp⟩:=S.ob;refine⟨_,Ae (A5 (Ap (pl:=_) (Ap (pl:=_) (pv 0) TW.cl MH.mt GH GO MH.bd .nil Bm (Aa (pv 1) Af)) T.cl M1.mt G1 hr M1.bd .nil Bm (Aa (pv 2) (Aa (pv 3) Af)))),?_⟩;refine⟨_,rfl,p,dx,_,rfl,hp,C4 W ZV,_,rfl,p,h,W,rfl,S,?_⟩;rcases k with k|⟨q,G,i,k⟩;.exact .inl k
 .obtain⟨EJ,hq⟩:=(i.at S).ob;exact .inr ⟨q,G,i,q,EJ,_,rfl,hq,By G ZV,_,rfl,_,rfl,k⟩
def Q6(CW C CP NH Cn:Addr):Sp:=λvs H Q E=>∃(p:Addr)(h:Int)(vb:V)(W:FZ),vs=[.ref p,.int h,vb]/\AN CW C CP H p W/\((Xq W h/\E (.ref NH) none H)\/∃q G,IH W h q G/\Rh C Cn [.ref q,vb] H (λ_ H'=>Q .EE H') E)
theorem Jd4:Ao ["self","h","b"] ["self","h","b"] (Aj Rr):={}
theorem Jb7(F:EK K "free" "World.free" Rr f fd)(T:Txt K mg C Cn DO MI NW)(TW:Ek K mg CW NH NI)(MH:CO K CW "house" "World.house" D0 ["self","h"] fH dH)(M1:CO K C "free" "House.free" Yf ["self","b"] f1 d1)(G1:EU P w K mg base 2 f1 d1 ["self","b"] (Rh C Cn)):EU P w K mg base 3 f fd ["self","h","b"] (Q6 CW C CP NH Cn):=by
 have GH:EU P w K mg base 1 fH dH ["self","h"] (Dt CW C CP NH):=Do MH.fn T TW;refine F5 F Jd4 λvs H Q E h=>?_;obtain⟨p,h,vb,W,rfl,S,k⟩:=h;refine⟨rfl,λDP A outer s hr=>?_⟩;have GO:CU 1 _:=hr.mono (by decide);obtain⟨dx,hp⟩:=S.ob;refine⟨_,Ae (A5 (Ap (pl:=_) (Ap (pl:=_) (pv 0) TW.cl MH.mt GH GO MH.bd .nil Bm (Aa (pv 1) Af)) T.cl M1.mt G1 hr M1.bd .nil Bm (Aa (pv 2) Af))),?_⟩;refine⟨_,rfl,p,dx,_,rfl,hp,C4 W ZV,_,rfl,p,h,W,rfl,S,?_⟩;rcases k with k|⟨q,G,i,k⟩;.exact .inl k
 .obtain⟨EJ,hq⟩:=(i.at S).ob;exact .inr ⟨q,G,i,q,EJ,_,rfl,hq,By G ZV,_,rfl,k⟩
def Ep(CW C CP NH:Addr)(K:W.Frag):Sp:=λvs H Q E=>∃(p:Addr)(h:Int)(W:FZ),vs=[.ref p,.int h]/\AN CW C CP H p W/\((Xq W h/\E (.ref NH) none H)\/∃q G,IH W h q G/\Jl C K [.ref q] H Q E)
theorem Jbh:Ao ["self","h"] ["self","h"] (Aj Hg):={}
theorem Z0(F:EK K "state" "World.state" Hg f fd)(T:Txt K mg C Cn DO MI NW)(TW:Ek K mg CW NH NI)(MH:CO K CW "house" "World.house" D0 ["self","h"] fH dH)(M1:CO K C "state" "House.state" Ng ["self"] f1 d1)(G1:EU P w K mg base 2 f1 d1 ["self"] (Jl C K)):EU P w K mg base 3 f fd ["self","h"] (Ep CW C CP NH K):=by
 have GH:EU P w K mg base 1 fH dH ["self","h"] (Dt CW C CP NH):=Do MH.fn T TW;refine F5 F Jbh λvs H Q E h=>?_;obtain⟨p,h,W,rfl,S,k⟩:=h;refine⟨rfl,λDP A outer s hr=>?_⟩;have GO:CU 1 _:=hr.mono (by decide);obtain⟨dx,hp⟩:=S.ob;refine⟨_,Ae (Ar (C9 (pl:=_) (Ap (pl:=_) (pv 0) TW.cl MH.mt GH GO MH.bd .nil Bm (Aa (pv 1) Af)) T.cl M1.mt G1 hr M1.bd .nil Bm)),?_⟩;refine⟨_,rfl,p,dx,_,rfl,hp,C4 W ZV,_,rfl,p,h,W,rfl,S,?_⟩;rcases k with k|⟨q,G,i,k⟩;.exact .inl k
 .obtain⟨EJ,hq⟩:=(i.at S).ob;exact .inr ⟨q,G,i,q,EJ,_,rfl,hq,By G ZV,k⟩
end
def UY(G:BS)(tb:T2)(wt:Int):List (T2×Int):=if tb∈G.AF.map (·.1) then Ba G.AF tb (Ag G.AF tb-wt) else G.AF
theorem Je8{l:List (T2×Int)}{t:T2}(h:t∉l.map (·.1)):l.find? (λq=>decide (q.1=t))=none:=BA.mpr λq hq=>by have:¬q.1=t:=λz=>h (AI.mpr ⟨q,hq,z⟩);simpa using this
theorem Kf(hd:H d=some (Cf l))(ht:H t=some (.BC (tv th)))(f:l.find? (λq=>decide (q.1=th))=some (th,v)):DJ H d (.ref t) (some (V.int v)):=by have:=Gn hd ht;rw[f] at this;exact this
section
def X3(C:Addr):Sp:=λvs H Q _=>∃(p b:Addr)(G:BS)(tb:T2)(wt:Int),vs=[.ref p,.ref b,.int wt]/\AQ C H p G/\H b=some (.BC (tv tb))/\G.AF.length<=500/\Done C p G H { G with AZ:=G.AZ+1,AF:=UY G tb wt } (Q .EE)
theorem Jj0:Ao ["self","b","weight"] ["self","b","weight"] (Aj R0):={}
theorem Jcg{f:Addr}{fd:FuncData}(F:EK K "given" "House.given" R0 f fd)(T:Txt K mg C Cn DO MI NW):CV P w K mg base 1 f fd ["self","b","weight"] (X3 C):=by
 refine F.IQ Jj0 λvs H Q E h=>?_;obtain⟨p,b,G,tb,wt,rfl,S,hb,z,k⟩:=h;refine⟨rfl,λDP A outer s hr=>?_⟩;have hu:=B3 hr;obtain⟨dx,hp⟩:=S.ob;refine⟨_,Ad (Bf (Dq (Im hu (pv 1) (An (pv 0) rfl))) (Ae (Jx hu (An (pv 0) rfl) (pv 1) (pv 2) vF (λ_ _ _=>rfl))) A4) (Ae (B8 (pv 0) Ah Dh)),?_⟩;refine⟨_,rfl,_,rfl,p,C,dx,_,_,rfl,hp,T.cl,T.nO,C0 G,G.o,_,rfl,Gn S.dO hb,_,rfl,?_⟩;by_cases h:tb∈G.AF.map (·.1);.have fo:=Kk h;rw[fo];refine Ck ?_;have g1:DJ H G.o (.ref b) (some (V.int (Ag G.AF tb))):=Kf S.dO hb fo;refine⟨_,rfl,p,C,dx,_,_,rfl,hp,T.cl,T.nO,C0 _,_,rfl,G.o,_,rfl,g1,_,rfl,_,_,rfl,rfl,_,FF.t (k:=tk tb) S.dO hb (by rw[ZA];exact A7 (by lia)),?_⟩;rw[Df];have S1:AQ C (upd H G.o (Cf (Ba G.AF tb (Ag G.AF tb-wt)))) p { G with AF:=Ba G.AF tb (Ag G.AF tb-wt) }:=S.IT _;obtain⟨EJ,FY⟩:=S1.ob;refine⟨_,rfl,p,C,EJ,_,_,rfl,FY,T.cl,T.nT,B7 _,_,_,rfl,rfl,EJ,_,FY,Di _,?_⟩;rw[Bc];(have e:UY G tb wt=Ba G.AF tb (Ag G.AF tb-wt):=by unfold UY;rw[AE h]);rw[e] at k;exact Eg (G1:={ G with AF:=Ba G.AF tb (Ag G.AF tb-wt) }) (by simp[BG]) rfl rfl S1 k
 .rw[Je8 h];refine Cd ?_;(have e:UY G tb wt=G.AF:=by unfold UY;rw[AB h]);rw[e] at k;refine⟨_,rfl,p,C,dx,_,_,rfl,hp,T.cl,T.nT,B7 _,_,_,rfl,rfl,dx,_,hp,Di _,?_⟩;rw[Bc];exact k _ (S.fld dx G.AY (G.AZ+1)) λb' o e h1 h2=>by rw[Ab h1];exact e
def WU(G:BS)(tb:T2)(F':Bool):List T2:=if F'=true then Bt G.hand tb else G.hand
def ZX(G:BS)(tb:T2)(sh:Int)(F':Bool):List (T2×Int):=Ba G.AF tb (Ag G.AF tb+(if F'=true then sh-1 else 2*sh-1))
def Ud(C:Addr):Sp:=λvs H Q _=>∃(p b:Addr)(G:BS)(tb:T2)(sh:Int)(F':Bool),vs=[.ref p,.ref b,.int sh,.bl F']/\AQ C H p G/\H b=some (.BC (tv tb))/\G.AF.length<=500/\G.hand.length<=500/\tb∈G.AF.map (·.1) /\
 Done C p G H { G with AZ:=G.AZ+1,hand:=WU G tb F',AF:=ZX G tb sh F' } (Q .EE)
theorem Jjs:Ao ["self","b","share","mine"] ["self","b","share","mine"] (Aj Mg):={}
theorem Z3(F:EK K "passed" "House.passed" Mg f fd)(T:Txt K mg C Cn DO MI NW):CV P w K mg base 1 f fd ["self","b","share","mine"] (Ud C):=by refine F.IQ Jjs λvs H Q E h=>?_;obtain⟨p,b,G,tb,sh,F',rfl,S,hb,z1,z2,h,k⟩:=h;refine⟨rfl,λDP A outer s hr=>?_⟩;have hu:=B3 hr;obtain⟨dx,hp⟩:=S.ob;refine⟨_,Ad (Bf (Eu (pv 3)) (Ad (Bz hu (An (pv 0) rfl) (pv 1) Fg rfl) (Ae (Jx hu (An (pv 0) rfl) (pv 1) (Be R7 (pv 2) Ah) Dh (λ_ _ _=>rfl)))) (Ae (Jx hu (An (pv 0) rfl) (pv 1) (Be R7 (Be Fo Ah (pv 2)) Ah) Dh (λ_ _ _=>rfl)))) (Ae (B8 (pv 0) Ah Dh)),?_⟩;have fo:=Kk h;refine⟨_,rfl,F',rfl,?_⟩;cases F' with | true =>refine Ck ?_;refine⟨_,rfl,p,C,dx,_,_,rfl,hp,T.cl,T.nH,E4 G,_,rfl,G.h,_,rfl,FF.t (k:=tk tb) S.dh hb (by rw[ZA];exact A7 (by lia)),?_⟩;rw[Eh];have S1:AQ C (upd H G.h (A9 (Bt G.hand tb))) p { G with hand:=Bt G.hand tb }:=S.MA (Bt G.hand tb);(have JT:Q_ p G H (upd H G.h (A9 (Bt G.hand tb))):=λb' o e h1 h2=>by rw[Ab λe'=>h2 (by rw[e'];simp[BG])];exact e);have b1:=JT _ _ hb (S.tup_ne hb).1 (S.tup_ne hb).2;rw[show(HO.dT ((Bt G.hand tb).map λq=>(tk q,V.bl true)))=A9 (Bt G.hand tb) from rfl];generalize (upd H G.h (A9 (Bt G.hand tb)))=H1 at S1 JT b1;obtain⟨EJ,FY⟩:=S1.ob;have g1:DJ H1 G.o (.ref b) (some (V.int (Ag G.AF tb))):=Kf S1.dO b1 fo;refine⟨_,rfl,p,C,EJ,_,_,rfl,FY,T.cl,T.nO,C0 _,_,rfl,G.o,_,rfl,g1,_,rfl,_,_,rfl,rfl,_,_,rfl,rfl,_,FF.t (k:=tk tb) S1.dO b1 (by rw[ZA];exact A7 (by show G.AF.length<=1000;lia)),?_⟩;rw[Df];have S2:=S1.IT (Ba G.AF tb (Ag G.AF tb+(sh-1)));(have JV:Q_ p G H (upd H1 G.o (Cf (Ba G.AF tb (Ag G.AF tb+(sh-1))))):=λb' o' e h1 h2=>by rw[Ab λe'=>h2 (by rw[e'];simp[BG])];exact JT _ _ e h1 h2);obtain⟨HZ,FH⟩:=S2.ob;refine⟨_,rfl,p,C,HZ,_,_,rfl,FH,T.cl,T.nT,B7 _,_,_,rfl,rfl,HZ,_,FH,Di _,?_⟩;rw[Bc];exact k _ (S2.fld HZ G.AY (G.AZ+1)) λb' o e h1 h2=>by rw[Ab h1];exact JV _ _ e h1 h2 | false =>refine Cd ?_;have g1:DJ H G.o (.ref b) (some (V.int (Ag G.AF tb))):=Kf S.dO hb fo;refine⟨_,rfl,p,C,dx,_,_,rfl,hp,T.cl,T.nO,C0 _,_,rfl,G.o,_,rfl,g1,_,rfl,_,_,rfl,rfl,.inl ⟨by decide,by decide⟩,_,_,rfl,rfl,_,_,rfl,rfl,_,FF.t (k:=tk tb) S.dO hb (by rw[ZA];exact A7 (by lia)),?_⟩;rw[Df];have S1:AQ C (upd H G.o (Cf (Ba G.AF tb (Ag G.AF tb+(2*sh-1))))) p { G with AF:=Ba G.AF tb (Ag G.AF tb+(2*sh-1)) }:=S.IT _;obtain⟨EJ,FY⟩:=S1.ob;refine⟨_,rfl,p,C,EJ,_,_,rfl,FY,T.cl,T.nT,B7 _,_,_,rfl,rfl,EJ,_,FY,Di _,?_⟩;rw[Bc];exact Eg (G1:={ G with AF:=Ba G.AF tb (Ag G.AF tb+(2*sh-1)) }) (by simp[BG]) rfl rfl S1 k
end
theorem R4(hd:H d=some (Ec l))(ht:H t=some (.BC (tv th)))(f:l.find? (λq=>decide (q.1=th))=some (th,a,hl)):DJ H d (.ref t) (some (V.ref a)):=by have:=DJ.t (k:=tk th) hd ht;rw[Dk (k:=λq:T2×Addr×List T2=>q.1) (f:=λq=>V.ref q.2.1),f] at this;exact this
structure js(mg:Str->Option Value):Prop where
 dict:mg "dict"=none
 list:mg "list"=none
 max:mg "max"=none
section
def Fx:Sp:=λvs H Q _=>∃(sa l:Addr)(as:List Addr)(ts:List T2)(hl:HL)(n:Nat)(R:List T2),vs=[.ref sa,.ref l]/\H sa=some (.BI (as.map V.ref))/\BB H as ts/\ts.length<=400/\H l=some (Ec hl)/\hl.length<=400 /\
 (∀q∈hl,H q.2.1=some (A9 q.2.2)/\q.2.2.length<=400/\q.2.1≠l)/\KQ (NX hl) n (ts.filter λt=>decide (t∈hl.map (·.1))) [] R/\n<=5000/\∀(x:Addr)(H':Hp),H x=none->Bi H H'->H' x=some (A9 R)->Q (.ref x) H'
theorem XF:Ao ["starts","holds","found","thing","ahead"] ["starts","holds"] (Aj E9):={}
theorem Io(F:EK K "reached" "reached" E9 f fd):CV P w K mg base 1 f fd ["starts","holds"] Fx:=by
 refine F.IQ XF λvs H Q E h=>?_;obtain⟨sa,l,as,ts,hl,n,R,rfl,es,th,zt,el,zl,hq,kQ,zn,k⟩:=h;refine⟨rfl,λDP A outer s hr=>?_⟩;have hu:=B3 hr;refine⟨_,Ad (Aw (i:=2) XF.nd rfl (Or.inl rfl) Dv) (Ad (Hn (te:=B6 0) (i:=4) (caps:=[("holds",1)]) XF.nd rfl rfl rfl rfl (Dl (pv 0)) rfl ZV rfl ZV rfl ⟨rfl,trivial⟩ (λy h=>LZ ⟨_,rfl⟩ h) ⟨⟨rfl,rfl,rfl,rfl⟩,trivial⟩ ZV (λ_ _ _ _ _=>D3 (Dq (Im hu (pv 0) (pv 1)))) (λ_ _ _ _ _=>pv 0)) (Ad (Ut PassesOwn.never (Us (pv 4) (λ_=>rfl)) (Ad (Aw (i:=3) XF.nd rfl (Or.inl rfl) (K0 CJ PySem.F.slot_list_pop PySem.F.type_list_pop vI (pv 4))) (Ae (Bf (Dq (D5 hu (pv 3) (pv 2))) (Ad (Bz hu (pv 2) (pv 3) Fg rfl) (Ae (A5 (Lu CJ MM MJ Pz (pv 4) (Aa (PE.RZ (En (te:=B6 0) (caps:=[("holds",1)]) rfl (Mm (Cp hu (pv 1) (pv 3))) rfl ZV rfl ZV rfl ⟨rfl,trivial⟩ (λy h=>LZ ⟨_,rfl⟩ h) ⟨⟨rfl,rfl,rfl,rfl⟩,trivial⟩ ZV (λ_ _ _ _ _=>D3 (Dq (Im hu (pv 0) (pv 1)))) (λ_ _ _ _ _=>pv 0))) Af))))) A4)))) (Ae (Ar (pv 2))))),?_⟩;intro fa VH;have s1:=Ai (o:=.dT []) VH;have e1:(upd H fa (.dT [])) fa=some (A9 []):=Ac;generalize upd H fa (.dT [])=H1 at s1 e1;have kH:BB H1 as ts:=BB.keep (HN s1) th;refine⟨_,rfl,sa,rfl,⟨_,EC.of (s1 _ _ es)⟩,λaa VJ=>?_⟩;refine Hw (b:=λt=>decide (t∈hl.map (·.1))) (caps:=[("holds",1)]) VJ (by lia) (s1 _ _ es) kH (λH2 a t Q' sm ha ht q=>?_) λH2 bs sm ea tb=>?_;.obtain⟨o,g,eo⟩:=K9 (k:=λq:T2×Addr×List T2=>q.1) (f:=λq=>V.ref q.2.1) (.inl (sm _ _ (s1 _ _ el))) ha;refine⟨_,rfl,_,rfl,l,o,rfl,g,?_⟩;rw[eo];exact⟨_,rfl,q⟩
 have ax:H aa=none:=by cases c:H aa with | none=>rfl | some o=>rw[s1 _ _ c] at VJ;cases VJ
 have aw:fa≠aa:=λz=>by rw[<-z,e1] at VJ;cases VJ
 refine⟨λm σ H'=>∃(ahead found:List T2)(KJ:List Addr)(u3:Option V),σ=[some (.ref sa),some (.ref l),some (.ref fa),u3,some (.ref aa)]/\Bi H H'/\H' fa=some (A9 found)/\H' aa=some (.BI (KJ.map V.ref))/\BB H' KJ ahead/\KQ (NX hl) m ahead found R/\found.length+m<=5000/\∀t∈ahead,t∈hl.map (·.1),⟨n,_,[],bs,_,rfl,Am s1 sm,sm _ _ e1,ea,tb,kQ,by simpa using zn,λt ht=>by have:=(AD.mp ht).2;simpa using this⟩,?_⟩;rintro m σ H' ⟨ahead,found,KJ,u3,rfl,sh,ef,UC,XD,rc,zm,hk⟩;refine⟨_,rfl,_,.inl ⟨_,EC.of UC,rfl⟩,?_⟩;cases m with | zero =>obtain⟨e0,eR⟩:=rc;rw[e0] at XD;have e2:KJ=[]:=BW.mp (Paired.length XD);rw[e2];refine Cd ⟨_,rfl,k fa H' VH sh ?_⟩;rw[eR];exact ef | succ m =>have j8:=rc.len;obtain⟨a,t,YG,rc⟩:=rc;rw[YG] at XD j8;obtain⟨JM,c,e2,kG,ec⟩:=T5 XD;subst e2;(have em:(JM++[c]).map V.ref=JM.map V.ref++[V.ref c]:=by rw[ZF];rfl);rw[em] at UC ⊢;rw[show(!(JM.map V.ref++[V.ref c]).isEmpty)=true by cases JM<;>rfl];refine Ck ⟨_,λEV H' h=>⟨m,JD m,h⟩,?_⟩;refine⟨_,rfl,.inl ⟨rfl,_,EC.of UC⟩,aa,_,_,rfl,rfl,UC,Yv _ _,?_⟩;rw[show(JM.map V.ref++[V.ref c]).dropLast=JM.map V.ref by simp];(have s3:Bi H (upd H' aa (.BI (JM.map V.ref))):=λb o e=>by rw[Ab (Ak e ax)];exact sh _ _ e);(have QP:BU H' (upd H' aa (.BI (JM.map V.ref))):=OI λo' e=>by rw[UC] at e;cases e;exact⟨λ_ z=>(by cases z),λ_ _ z=>(by cases z)⟩);(have RT:(upd H' aa (.BI (JM.map V.ref))) fa=some (A9 found):=by rw[Ab aw];exact ef);have bG:(upd H' aa (.BI (JM.map V.ref))) aa=some (.BI (JM.map V.ref)):=Ac;have RY:BB (upd H' aa (.BI (JM.map V.ref))) JM a:=BB.keep QP kG;have YE:=QP.BC _ _ ec;generalize upd H' aa (.BI (JM.map V.ref))=H3 at s3 QP RT bG RY YE;refine⟨_,rfl,_,rfl,fa,_,rfl,Fl RT YE,_,rfl,?_⟩;rcases rc with⟨hf,rc⟩|⟨hf,rc⟩;(.rw[AE hf];exact Cd ⟨a,found,JM,_,rfl,s3,RT,bG,RY,rc,by lia,λu hu=>hk u (by rw[YG];exact ZB _ hu)⟩);.rw[AB hf];refine Ck ⟨_,rfl,_,rfl,fa,_,rfl,FF.t (k:=tk t) RT YE (by rw[ZA];exact Na (by lia)),?_⟩;rw[Eh,show Bt found t=found++[t] by unfold Bt;rw[AB hf]];(have s4:Bi H (upd H3 fa (A9 (found++[t]))):=λb o e=>by rw[Ab (Ak e VH)];exact s3 _ _ e);(have LB:BU H3 (upd H3 fa (A9 (found++[t]))):=OI λo' e=>by rw[RT] at e;cases e;exact⟨λ_ z=>(by cases z),λ_ _ z=>(by cases z)⟩);have YD:(upd H3 fa (A9 (found++[t]))) fa=some (A9 (found++[t])):=Ac;(have YF:(upd H3 fa (A9 (found++[t]))) aa=some (.BI (JM.map V.ref)):=by rw[Ab aw.symm];exact bG);have RX:BB (upd H3 fa (A9 (found++[t]))) JM a:=BB.keep LB RY;have fX:=LB.BC _ _ YE;rw[show HO.dT ((found++[t]).map λq=>(tk q,V.bl true))=A9 (found++[t]) from rfl];generalize upd H3 fa (A9 (found++[t]))=H4 at s4 LB YD YF RX fX;have kD:t∈hl.map (·.1):=hk t (by rw[YG];exact ZC _ (by simp));obtain⟨ad,fJ⟩:=Mr kD;have mq:=AX fJ;obtain⟨q1,q2,q3⟩:=hq _ mq;have q1:H ad=some (A9 (Ce hl t)):=q1;have q2:(Ce hl t).length<=400:=q2;have q3:ad≠l:=q3;refine⟨_,rfl,.inl ⟨rfl,_,EC.of YF⟩,_,rfl,_,rfl,l,_,rfl,R4 (s4 _ _ el) fX fJ,ad,_,rfl,s4 _ _ q1,λob pl QQ=>?_⟩;(have JGe:aa≠ad:=λz=>by rw[z,q1] at ax;cases ax);(have JGc:fa≠ad:=λz=>by rw[z,q1] at VH;cases VH);refine Lh (b:=λu=>decide (u∈hl.map (·.1))) (caps:=[("holds",1)]) (l:=Ce hl t) (key:=λq=>q) (val:=λ_=>V.bl true) (ob:=ob) QQ (by lia) Ac (λH2 a' u Q' kJ ha yH q=>?_) λH5 YK qO ep5 WT=>?_;(.obtain⟨o,g,eo⟩:=K9 (k:=λq:T2×Addr×List T2=>q.1) (f:=λq=>V.ref q.2.1) (.inl (kJ l (Ec hl) (by rw[Ab q3.symm];exact s4 _ _ el))) ha;refine⟨_,rfl,_,rfl,l,o,rfl,g,?_⟩;rw[eo];exact⟨_,rfl,q⟩);.have f5:H5 ad=some (.FJ ob (A9 (Ce hl t))):=qO _ _ Ac;refine⟨upd H5 ad (A9 (Ce hl t)),⟨ad,ob,_,f5,λo v z=>?_,rfl⟩,?_⟩;(.have z:H ad=some (.FJ o v):=z;rw[q1] at z;cases z);(have kS:pl≠ad:=λz=>by rw[z,Ac] at QQ;cases QQ);(have s6:Bi H4 (upd H5 ad (A9 (Ce hl t))):=λb o e=>by by_cases hb:b=ad;(.subst hb;rw[s4 _ _ q1] at e;rw[Ac];exact e);.rw[Ab hb];exact qO _ _ (by rw[Ab hb];exact e));(have ji:(upd H5 ad (A9 (Ce hl t))) pl=some (.BI (YK.map V.ref)):=by rw[Ab kS];exact ep5);(have RP:BB (upd H5 ad (A9 (Ce hl t))) YK (NX hl t):=by (have WT:BB H5 YK (NX hl t):=by rw[IK] at WT;exact WT);refine As (λb u e=>?_) WT;rw[Ab λz=>by rw[z,f5] at e;cases e];exact e);generalize upd H5 ad (A9 (Ce hl t))=H6 at s6 ji RP;have zz:=rc.len;rw[ZE] at zz;have l1:=Paired.length RX;have l2:=Paired.length RP;refine⟨aa,pl,_,_,rfl,rfl,s6 _ _ YF,ji,EO (Na (by rw[ZA,ZA];lia)),?_⟩;rw[<-ZF];(have TZ:BU H6 (upd H6 aa (.BI ((JM++YK).map V.ref))):=OI λo' e=>by rw[s6 _ _ YF] at e;cases e;exact⟨λ_ z=>(by cases z),λ_ _ z=>(by cases z)⟩);refine⟨a++NX hl t,found++[t],JM++YK,_,rfl,λb o e=>?_,?_,Ac,BB.keep TZ (Ji (BB.keep (HN s6) RX) RP),rc,?_,λu hu=>?_⟩;(.rw[Ab (Ak e ax)];exact s6 _ _ (s4 _ _ e));(.rw[Ab aw];exact s6 _ _ YD);(.rw[ZE];show found.length+1+m<=5000;lia);.rcases ZI hu with hu|hu;(.exact hk u (by rw[YG];exact ZB _ hu));.have:=(AD.mp hu).2;simpa using this
end
section
def vP(C:Addr):Sp:=λvs H Q _=>∃(p ta:Addr)(G:BS)(as:List Addr)(ts:List T2),vs=[.ref p,.ref ta]/\AQ C H p G/\G.holds.map (·.1)=G.AF.map (·.1)/\H ta=some (.BI (as.map V.ref))/\BB H as ts/\Done C p G H (Al G ts) (Q .EE)
theorem YT:Ao ["self","things","thing"] ["self","things"] (Aj Pr):={}
theorem Jen(F:EK K "lose" "House.lose" Pr f fd)(T:Txt K mg C Cn DO MI NW):CV P w K mg base 1 f fd ["self","things"] (vP C):=by
 refine F.IQ YT λvs H Q E h=>?_;obtain⟨p,ta,G,as,ts,rfl,S,ke,et,th,k⟩:=h;refine⟨rfl,λDP A outer s hr=>?_⟩;have hu:=B3 hr;have lt:=Paired.length th;refine⟨_,Ae (Dg PassesOwn.never rfl (Dl (pv 1)) (Bl (i:=2) YT.nd rfl (Or.inl rfl)) (Ae (Bf (Dq (Im hu (pv 2) (An (pv 0) rfl))) (Ad (A5 (Fb hu (An (pv 0) rfl) (pv 2) ⟨rfl,rfl,rfl,rfl⟩)) (Ae (A5 (Fb hu (An (pv 0) rfl) (pv 2) ⟨rfl,rfl,rfl,rfl⟩)))) A4))),?_⟩;refine⟨_,rfl,ta,rfl,⟨_,EC.of et⟩,?_⟩;refine Hf (K:=K) (a:=ta) (xs:=as.map V.ref) (λi σ H2=>∃u2:Option V,σ=[some (.ref p),some (.ref ta),u2]/\AQ C H2 p (Al G (ts.take i))/\Q_ p G H H2) ⟨_,rfl,by rw[HC,Ox];exact S,λb o e _ _=>e⟩ (λi σ H2 _ h=>let⟨_,_,_,fr⟩:=h;EC.of (fr _ _ et (S.QF et).1 (S.QF et).2)) ?_ ?_;.rintro i x σ H2 hx ⟨u2,rfl,S2,JV⟩;rw[ZH] at hx;cases ea:as[i]? with | none=>rw[ea] at hx;cases hx | some a =>rw[ea] at hx;have hx:V.ref a=x:=ZO hx;subst hx;obtain⟨t,ht⟩:=Au (xs:=ts) (j:=i) (by have:=(ZJ ea).1;lia);have ha:=Ax th i a t ea ht;have UX:=JV _ _ ha (S.tup_ne ha).1 (S.tup_ne ha).2;obtain⟨HZ,FH⟩:=S2.ob;obtain⟨o,g,eo⟩:=K9 (k:=λq:T2×Int=>q.1) (f:=λq=>V.int q.2) (.inl S2.dO) UX;have f1:=Et (λq:T2×Int=>q.1) G.AF ht;have f2:=Et (λq:T2×Addr×List T2=>q.1) G.holds ht;refine⟨_,rfl,_,rfl,p,C,HZ,_,_,rfl,FH,T.cl,T.nO,C0 _,G.o,o,rfl,g,_,rfl,?_⟩;rw[eo];(have ks:(Al G (ts.take i)).holds.map (·.1)=(Al G (ts.take i)).AF.map (·.1):=by show(G.holds.filter λq=>decide (q.1∉ts.take i)).map (·.1)=(G.AF.filter λq=>decide (q.1∉ts.take i)).map (·.1);rw[C6 (λq:T2×Addr×List T2=>q.1) G.holds (λt=>decide (t∉ts.take i)),C6 (λq:T2×Int=>q.1) G.AF (λt=>decide (t∉ts.take i)),ke]);by_cases h:t∈(Al G (ts.take i)).AF.map (·.1);(.rw[AJ h];obtain⟨v1,lF⟩:=Fq (l:=(Al G (ts.take i)).AF) (k:=λq=>q.1) (f:=λq=>V.int q.2) h;obtain⟨v2,lE⟩:=Fq (l:=(Al G (ts.take i)).holds) (k:=λq=>q.1) (f:=λq=>V.ref q.2.1) (by rw[ks];exact h);refine Ck ⟨_,rfl,p,C,HZ,_,_,rfl,FH,T.cl,T.nO,C0 _,G.o,rfl,.inr ⟨_,.inl S2.dO⟩,_,rfl,_,tk t,_,a,S2.dO,rfl,UX,lF,?_⟩;rw[Ff (k:=λq:T2×Int=>q.1) (f:=λq=>V.int q.2)];have S3:=S2.IT ((Al G (ts.take i)).AF.filter λq=>decide (q.1≠t));(have NY:Q_ p G H (upd H2 G.o (Cf ((Al G (ts.take i)).AF.filter λq=>decide (q.1≠t)))):=λb o e h1 h2=>by rw[Ab λz=>h2 (by rw[z];simp[BG])];exact JV _ _ e h1 h2);have fB:=NY _ _ ha (S.tup_ne ha).1 (S.tup_ne ha).2;rw[show HO.dT (((Al G (ts.take i)).AF.filter λq=>decide (q.1≠t)).map λq=>(tk q.1,V.int q.2))=Cf ((Al G (ts.take i)).AF.filter λq=>decide (q.1≠t)) from rfl];have S3:AQ C (upd H2 G.o (Cf ((Al G (ts.take i)).AF.filter λq=>decide (q.1≠t)))) p { Al G (ts.take i) with AF:=(Al G (ts.take i)).AF.filter λq=>decide (q.1≠t) }:=S3;generalize upd H2 G.o (Cf ((Al G (ts.take i)).AF.filter λq=>decide (q.1≠t)))=H3 at S3 NY fB;obtain⟨ND,OH⟩:=S3.ob;refine⟨_,rfl,p,C,ND,_,_,rfl,OH,T.cl,T.nL,Dw _,G.l,rfl,.inr ⟨_,.inl S3.dl⟩,_,rfl,_,tk t,_,a,S3.dl,rfl,fB,lE,?_⟩;have e3:Da (({ Al G (ts.take i) with AF:=(Al G (ts.take i)).AF.filter λq=>decide (q.1≠t) }:BS).holds.map λ(q:T2×Addr×List T2)=>(tk q.1,V.ref q.2.1)) (tk t)=((Al G (ts.take i)).holds.filter λq=>decide (q.1≠t)).map λ(q:T2×Addr×List T2)=>(tk q.1,V.ref q.2.1) :=Ff (k:=λq:T2×Addr×List T2=>q.1) (f:=λq=>V.ref q.2.1) _ t;rw[e3];have S4:=S3.RI (hl:=(Al G (ts.take i)).holds.filter λq=>decide (q.1≠t)) EL;(have eG:Al G (ts.take (i+1))={ Al G (ts.take i) with AF:=(Al G (ts.take i)).AF.filter (λq=>decide (q.1≠t)),holds:=(Al G (ts.take i)).holds.filter (λq=>decide (q.1≠t)) }:=by unfold Al;rw[f1,f2]);refine⟨_,rfl,by rw[eG];exact S4,λb o e h1 h2=>?_⟩;rw[Ab λz=>h2 (by rw[z];show G.l∈BG G;simp[BG])];exact NY _ _ e h1 h2);.rw[AG h];have kU:∀q∈(Al G (ts.take i)).AF,q.1≠t:=λq hq z=>h (AI.mpr ⟨q,hq,z⟩);have kT:∀q∈(Al G (ts.take i)).holds,q.1≠t:=λq hq z=>h (by rw[<-ks];exact AI.mpr ⟨q,hq,z⟩);(have eG:Al G (ts.take (i+1))=Al G (ts.take i):=by (have a1:(Al G (ts.take i)).AF.filter (λq=>decide (q.1≠t))=(Al G (ts.take i)).AF:=EM.mpr λq hq=>by simpa using kU q hq);(have a2:(Al G (ts.take i)).holds.filter (λq=>decide (q.1≠t))=(Al G (ts.take i)).holds:=EM.mpr λq hq=>by simpa using kT q hq);unfold Al at a1 a2 ⊢;rw[f1,f2,a1,a2]);exact Cd ⟨_,rfl,by rw[eG];exact S2,JV⟩
 .rintro σ H2 ⟨u2,rfl,S2,JV⟩;rw[ZA,lt,BM] at S2;exact k H2 S2 JV
end
section
def Bs(G:BS)(rs:List (T2×Int)):List (T2×Int):=(rs.filter λq=>!Bh G q.1).filter λq=>decide (0<q.2)
def Wf(C:Addr):Sp:=λvs H Q _=>∃(p:Addr)(G:BS)(n:Nat)(rs:List (T2×Int)),vs=[.ref p]/\AQ C H p G/\Ok G n/\n<=62/\(∀t∈G.hand,RU t)/\(∀q∈G.holds,∀t∈q.2.2,RU t)/\rs.Perm G.AM/\(rs.map (·.1)).Pairwise IS /\
 ∀(x:Addr)(as:List Addr)(H':Hp),H x=none->H' x=some (.BI (as.map V.ref))->HP H' as (Bs G rs)->AQ C H' p (GV G)->Q_ p G H H'->Q (.ref x) H'
theorem UI:Ao ["self","held","holder","thing","unheld","back"] ["self"] (Aj Uh):={}
def uh(K:W.Frag):TE:=jx (De (B6 0) (De (Pj (Q0 K (B6 1) "records") (B6 0)) Kv))
def uj(K:W.Frag):TT:=Lr (RR (XG λi j=>.bl (decide (j<i))) (Pj (Q0 K (B6 1) "records") (B6 0)) (tC (.int 0)))
theorem Yq(F:EK K "give_back" "House.give_back" Uh f fd)(T:Txt K mg C Cn DO MI NW)(Tx:js mg):CV P w K mg base 1 f fd ["self"] (Wf C):=by
 refine F.IQ UI λvs H Q E h=>?_;obtain⟨p,G,n,rs,rfl,S,ok,zn,XQ,XO,pm,pw,k⟩:=h;refine⟨rfl,λDP A outer s hr=>?_⟩;have hu:=B3 hr;obtain⟨dx,hp⟩:=S.ob;refine⟨_,Ad (Aw (i:=1) UI.nd rfl (by first|exact Or.inl rfl|exact Or.inr rfl) (Dm (Xm (Xh hr)) (by rfl) Tx.dict PyProof.Rows.boot_dict (Aa (An (pv 0) rfl) Af))) (Ad (Dg PassesOwn.never rfl (Mm (An (pv 0) rfl)) (Bl (i:=2) UI.nd rfl (Or.inl rfl)) (Ae (A5 (Lu CK PySem.F.slot_dict_update PySem.F.type_dict_update (Jev hu) (pv 1) (Aa (Cp hu (An (pv 0) rfl) (pv 2)) Af))))) (N'.RZ (Ad (Hn (te:=B6 0) (i:=4) (caps:=[("held",1)]) UI.nd rfl rfl rfl rfl (Dl (Bg (Cm rfl) (by rfl) T.sorted DI (Aa (An (pv 0) rfl) Af))) rfl ZV rfl ZV rfl ⟨rfl,trivial⟩ (λy h=>LZ ⟨_,rfl⟩ h) ⟨⟨rfl,rfl,rfl,rfl⟩,trivial⟩ ZV (λ_ _ _ _ _=>D3 (Dq (D5 hu (pv 0) (pv 1)))) (λ_ _ _ _ _=>pv 0)) (Ad (Hn (te:=uh K) (tt:=uj K) (i:=5) (caps:=[("self",0)]) UI.nd rfl rfl rfl rfl (Dl (pv 4)) rfl ZV rfl ZV rfl ⟨rfl,trivial⟩ (λy h=>LZ ⟨_,rfl⟩ h) ⟨⟨rfl,rfl,rfl,rfl⟩,trivial⟩ ZV (λ_ _ _ _ _=>D3 (A3 Px (Cp hu (An (pv 1) rfl) (pv 0)) Ah (A6 _))) (λ_ _ _ _ _=>Ca (Aa (pv 0) (Aa (Cp hu (An (pv 1) rfl) (pv 0)) Af)))) (Ad (Dg PassesOwn.never rfl (Dl (pv 4)) (Bl (i:=3) UI.nd rfl (Or.inl rfl)) (Ae (A5 (Fb hu (An (pv 0) rfl) (pv 3) ⟨rfl,rfl,rfl,rfl⟩)))) (Ae (Ar (pv 5)))))))),?_⟩;have z1:=ok.hz;have z2:=ok.OL;have z3:=ok.rz;refine⟨_,rfl,p,C,dx,_,_,rfl,hp,T.cl,T.nH,E4 G,G.h,_,rfl,S.dh,Og ok.hn XQ,λhd cw=>?_⟩;have e0:Ew [] (G.hand.map λq=>(tk q,V.bl true))=G.hand.map λq=>(tk q,V.bl true):=by have:=G9 G.hand [];rw[O4 _ _ (by simpa using ok.hn)] at this;simpa using this
 rw[e0];have s1:=Ai (o:=A9 G.hand) cw;have e1:(upd H hd (A9 G.hand)) hd=some (A9 G.hand):=Ac;rw[show HO.dT (G.hand.map λq=>(tk q,V.bl true))=A9 G.hand from rfl];generalize upd H hd (A9 G.hand)=H1 at s1 e1;have S1:=S.same s1;obtain⟨EJ,FY⟩:=S1.ob;have cX:(G.holds.map (·.1)).Nodup:=by rw[ok.ke];exact ok.on
 have XI:∀{b:Addr} {o:HO},H b=some o->b≠hd:=λe=>Ak e cw;have kS:p≠G.l:=λz=>S.OK (b:=G.l) (by simp[BG]) z.symm;refine⟨_,rfl,p,C,EJ,_,_,rfl,FY,T.cl,T.nL,Dw G,G.l,_,rfl,S1.dl,λob=>?_⟩;refine Jcz (d:=G.l) (ob:=ob) (λi σ H2=>∃u2:Option V,σ=[some (.ref p),some (.ref hd),u2,none,none,none]/\H2 hd=some (A9 (Ct G.hand (G.holds.take i)))/\∀b o,(upd H1 G.l (.FJ ob (Ec G.holds))) b=some o->b≠hd->H2 b=some o) ⟨_,rfl,by rw[Ab (XI S.dl).symm,e1];rfl,λb o e _=>e⟩ (λi σ H2 _ h=>let⟨_,_,_,fr⟩:=h;fr _ _ Ac (XI S.dl)) ?_ ?_;.rintro i a kk v σ H2 hx ha ⟨u2,rfl,eh,fr⟩;rw[ZH] at hx;cases eq:G.holds[i]? with | none=>rw[eq] at hx;cases hx | some q =>rw[eq] at hx;have hx:(tk q.1,V.ref q.2.1)=(kk,v):=ZO hx;have mq:=ZP eq;have e2:kk=tk q.1:=(Prod.mk.inj hx).1.symm;rw[e2,nq] at ha;have yS:H2 p=some (.ins C EJ (Bx G)):=fr _ _ (by rw[Ab kS];exact FY) (XI hp);have bA:H2 G.l=some (.FJ ob (Ec G.holds)):=fr _ _ Ac (XI S.dl);(have yQ:H2 q.2.1=some (A9 q.2.2):=by have h0:=S.hl q mq;refine fr _ _ ?_ (XI h0);rw[Ab (S.TY.2.2.2 q mq).2.2.1];exact S1.hl q mq);(have gv:B9 (G.holds.map λ(q:T2×Addr×List T2)=>(tk q.1,V.ref q.2.1)) (tk q.1)=some (V.ref q.2.1):=by rw[Dk (k:=λq:T2×Addr×List T2=>q.1) (f:=λq=>V.ref q.2.1),FX.FN (k:=λq:T2×Addr×List T2=>q.1) cX mq];rfl);have l0:=ok.ln q mq;(have l1:(Ct G.hand (G.holds.take i)).length<=62+62*62:=by have h1:=Lz (B:=62) (qs:=G.holds.take i) (hand:=G.hand) (λr hr=>by have:=(ok.ln r (List.mem_of_mem_take hr)).2;lia);(have h2:(G.holds.take i).length<=G.holds.length:=by rw[B_];lia);have h3:(G.holds.take i).length*62<=62*62:=FC _ (by lia);lia);refine⟨_,rfl,.inr (.inr (.inl ⟨rfl,.inr ⟨_,eh⟩⟩)),_,rfl,p,C,EJ,_,_,rfl,yS,T.cl,T.nL,Dw G,_,rfl,G.l,_,rfl,.inr ⟨_,tk q.1,a,.inr ⟨ob,bA⟩,rfl,ha,gv.symm⟩,hd,q.2.1,_,_,rfl,rfl,eh,.inl yQ,(XI (S.hl q mq)).symm,?_,λ_=>Og l0.1 (XO q mq),?_⟩;(.rw[ZA,ZA];exact EO (Na (by lia)));.rw[G9,<-Tq G.hand eq];exact⟨_,rfl,Ac,λb o e hb=>by rw[Ab hb];exact fr b o e hb⟩
 .rintro σ H2 ⟨u2,rfl,eh,fr⟩;rw[ZA,BM] at eh;have bA:H2 G.l=some (.FJ ob (Ec G.holds)):=fr _ _ Ac (XI S.dl);refine⟨upd H2 G.l (Ec G.holds),⟨G.l,ob,_,bA,λo v z=>?_,rfl⟩,?_⟩;(.have z:H G.l=some (.FJ o v):=z;rw[S.dl] at z;cases z);(have s3:Bi H (upd H2 G.l (Ec G.holds)):=λb o e=>by by_cases hb:b=G.l;(.subst hb;rw[S.dl] at e;rw[Ac];exact e);.rw[Ab hb];exact fr _ _ (by rw[Ab hb];exact s1 _ _ e) (XI e));(have e3:(upd H2 G.l (Ec G.holds)) hd=some (A9 (Ct G.hand G.holds)):=by rw[Ab (XI S.dl).symm];exact eh);generalize upd H2 G.l (Ec G.holds)=H3 at s3 e3;have S3:=S.same s3;obtain⟨ND,OH⟩:=S3.ob;refine⟨_,rfl,p,C,ND,_,_,rfl,OH,T.cl,T.nR,Cw G,G.r,_,rs.map (·.1),rfl,vG S3.dr,(by rw[ZA];lia),?_,pw,λsl dF WY vv=>⟨sl,rfl,⟨_,EC.of Ac⟩,λul rN=>?_⟩⟩;(·(have e4:((G.AM.map λq=>(q.1,V.int q.2)).map (·.1))=G.AM.map (·.1):=by rw[AR];rfl);rw[e4];exact pm.map _);have s4:=Ai (o:=.BI (dF.map V.ref)) WY;have VM:(upd H3 sl (.BI (dF.map V.ref))) sl=some (.BI (dF.map V.ref)):=Ac;have t4:BB (upd H3 sl (.BI (dF.map V.ref))) dF (rs.map (·.1)):=BB.keep (HN s4) vv;generalize upd H3 sl (.BI (dF.map V.ref))=H4 at s4 VM t4 rN;(have xX:rs.length<=62:=by have:=pm.length_eq;lia);refine Hw (b:=λt=>!Bh G t) (caps:=[("held",1)]) rN (by rw[ZA];lia) VM t4 (λH5 a t Q' sm ha ht q=>?_) λH5 bs sm eu tu=>?_;(.refine⟨_,rfl,_,rfl,hd,_,rfl,Fl (sm _ _ (s4 _ _ e3)) ha,?_⟩;(have e5:(!(if t∈Ct G.hand G.holds then some (V.bl true) else none).isSome)=!Bh G t:=by rw[<-Jai];by_cases c:t∈Ct G.hand G.holds;(.rw[AE c,AJ c];rfl);.rw[AB c,AG c];rfl);rw[e5];exact⟨_,rfl,q⟩);have eU:(rs.map (·.1)).filter (λt=>!Bh G t)=(rs.filter λq=>!Bh G q.1).map (·.1):=(C6 (λq:T2×Int=>q.1) rs λt=>!Bh G t).symm;rw[eU] at tu;have s5:Bi H H5:=Am s3 (Am s4 sm);have bO:∀q∈rs.filter (λq=>!Bh G q.1),q∈rs:=λq hq=>(AD.mp hq).1;(have vp:(rs.filter λq=>!Bh G q.1).length<=62:=by have:=AS (λq=>!Bh G q.1) rs;lia);have sG:Bs G rs=(rs.filter λq=>!Bh G q.1).filter λq=>decide (0<q.2):=rfl;(have qB:((rs.filter λq=>!Bh G q.1).map (·.1)).Nodup:=by have h1:(rs.map (·.1)).Nodup:=(pm.map _).nodup_iff.mpr ok.rn;exact h1.sublist (List.filter_sublist.map _));generalize jU:(rs.filter λq=>!Bh G q.1)=us at tu bO vp sG qB;have S5:=S.same s5;have kg:=Paired.length tu;rw[ZA] at kg;have val:∀q∈us,G.AM.find? (λr=>decide (r.1=q.1))=some q:=λq hq=>FX.FN (k:=λq:T2×Int=>q.1) ok.rn (pm.subset (bO q hq));refine⟨_,rfl,ul,rfl,⟨_,EC.of eu⟩,λbl cy=>?_⟩;refine Gb (K:=K) (a:=ul) (p:=bl) (xs:=bs.map V.ref) (tt:=uj K) (te:=uh K) (caps:=[("self",0)]) (λi ys H6=>∃cs:List Addr,ys=cs.map V.ref/\H6 bl=some (.BI ys)/\Bi H5 H6/\HP H6 cs ((us.take i).filter λq=>decide (0<q.2))) ⟨[],rfl,Ac,Ai cy,.nil⟩ (λi ys H6 _ h=>let⟨_,_,e,sm,_⟩:=h;⟨EC.of (sm _ _ eu),e⟩) ?_ ?_;(.rintro i x ys H6 N hx ⟨cs,ey,e6,s6,ba⟩ hN;rw[ZH] at hx;cases eb:bs[i]? with | none=>rw[eb] at hx;cases hx | some b =>rw[eb] at hx;have hx:V.ref b=x:=ZO hx;subst hx;obtain⟨q,hq⟩:=Au (xs:=us) (j:=i) (by have:=(ZJ eb).1;lia);have hb:=Ax tu i b q.1 eb (by rw[ZH,hq];rfl);have sH:=s6 _ _ hb;have S6:=S5.same s6;obtain⟨RM,UW⟩:=S6.ob;have gv:DJ H6 G.r (.ref b) (some (V.int q.2)):=Kf S6.dr sH (val q (ZP hq));have ft:=Tr (b:=λq:T2×Int=>decide (0<q.2)) hq;refine⟨_,rfl,p,C,RM,_,_,rfl,UW,T.cl,T.nR,Cw G,_,rfl,G.r,_,rfl,gv,_,_,rfl,rfl,_,rfl,?_⟩;by_cases c:0<q.2;(.rw[AJ c] at ft ⊢;refine Ck ⟨_,rfl,_,rfl,p,C,RM,_,_,rfl,UW,T.cl,T.nR,Cw G,_,rfl,G.r,_,rfl,gv,(by show 2<=sizeLine;decide),λx1 lA=>?_⟩;have s7:=Ai (o:=.BC [V.ref b,V.int q.2]) lA;have x7:(upd H6 x1 (.BC [V.ref b,V.int q.2])) x1=some (.BC [V.ref b,V.int q.2]):=Ac;have e7:=s7 _ _ e6;generalize upd H6 x1 (.BC [V.ref b,V.int q.2])=H7 at s7 x7 e7;(have UR:BU H7 (upd H7 bl (.BI (ys++[V.ref x1]))):=OI λo' e=>by rw[e7] at e;cases e;exact⟨λ_ z=>(by cases z),λ_ _ z=>(by cases z)⟩);(have lcs:cs.length<=us.length:=by rw[Paired.length ba];exact K7 _ us i);refine⟨e7,by rw[ey,ZA];exact Na (by lia),hN _ _ ⟨cs++[x1],by rw[ey,ZF];rfl,Ac,λd o e=>?_,?_⟩⟩;(.rw[Ab (Ak e cy)];exact s7 _ _ (s6 _ _ e));.rw[ft,AE rfl];exact E2 (HP.keep UR (HP.keep (HN s7) ba)) ⟨b,UR.BC _ _ x7,UR.BC _ _ (s7 _ _ sH)⟩);.rw[AG c] at ft ⊢;refine Cd (hN _ _ ⟨cs,ey,e6,s6,?_⟩);rw[ft,AB (by decide),AH];exact ba);.rintro ys H6 ⟨cs,ey,e6,s6,ba⟩;rw[ZA,kg,BM,<-sG] at ba;rw[ey] at e6;have S6:=S5.same s6;have je:=s6 _ _ eu;have vt:BB H6 bs (us.map (·.1)):=BB.keep (HN s6) tu;(have og:bl≠G.r:=λz=>by rw[z,S5.dr] at cy;cases cy);(have pI:H bl=none:=by cases c:H bl with | none=>rfl | some o=>rw[s5 _ _ c] at cy;cases cy);refine⟨_,rfl,ul,rfl,⟨_,EC.of je⟩,?_⟩;have vk:∀j,({ G with AM:=G.AM.filter λq=>decide (q.1∉(us.map (·.1)).take j) }:BS).AM=G.AM.filter λq=>decide (q.1∉(us.map (·.1)).take j):=λ_=>rfl;refine Hf (K:=K) (a:=ul) (xs:=bs.map V.ref) (λi σ H7=>∃u3:Option V,σ=[some (.ref p),some (.ref hd),u2,u3,some (.ref ul),some (.ref bl)]/\AQ C H7 p { G with AM:=G.AM.filter λq=>decide (q.1∉(us.map (·.1)).take i) }/\∀b o,H6 b=some o->b≠G.r->H7 b=some o) ⟨_,rfl,?_,λb o e _=>e⟩ (λi σ H7 _ h=>let⟨_,_,_,fr⟩:=h;EC.of (fr _ _ je λz=>by rw[z,S6.dr] at je;cases je)) ?_ ?_;(·(have e8:(G.AM.filter λq=>decide (q.1∉(us.map (·.1)).take 0))=G.AM:=EM.mpr λq _=>by simp);rw[e8];exact S6);(.rintro i x σ H7 hx ⟨u3,rfl,S7,PB⟩;rw[ZH] at hx;cases eb:bs[i]? with | none=>rw[eb] at hx;cases hx | some b =>rw[eb] at hx;have hx:V.ref b=x:=ZO hx;subst hx;obtain⟨q,hq⟩:=Au (xs:=us) (j:=i) (by have:=(ZJ eb).1;lia);(have lQ:(us.map (·.1))[i]?=some q.1:=by rw[ZH,hq];rfl);have hb:=Ax vt i b q.1 eb lQ;(have yk:=PB _ _ hb λz=>by rw[z,S6.dr] at hb;cases hb);obtain⟨mZ,eP⟩:=S7.ob;(have wQ:q.1∈(G.AM.filter λr=>decide (r.1∉(us.map (·.1)).take i)).map (·.1):=by refine AI.mpr ⟨q,AD.mpr ⟨pm.subset (bO q (ZP hq)),?_⟩,rfl⟩;have:q.1∉(us.map (·.1)).take i:=λz=>Lv qB lQ z;simpa using this);obtain⟨v,hv⟩:=Fq (l:=G.AM.filter λ(r:T2×Int)=>decide (r.1∉(us.map λ(z:T2×Int)=>z.1).take i)) (k:=λ(q:T2×Int)=>q.1) (f:=λ(q:T2×Int)=>V.int q.2) (t:=q.1) wQ;refine⟨_,rfl,p,C,mZ,_,_,rfl,eP,T.cl,T.nR,Cw _,G.r,rfl,.inr ⟨_,.inl S7.dr⟩,_,rfl,_,tk q.1,_,b,S7.dr,rfl,yk,hv,?_⟩;(have e9:Da ((({ G with AM:=G.AM.filter λq=>decide (q.1∉(us.map (·.1)).take i) }:BS).AM).map λq=>(tk q.1,V.int q.2)) (tk q.1)=(G.AM.filter λr=>decide (r.1∉(us.map (·.1)).take (i+1))).map λq=>(tk q.1,V.int q.2):=by rw[Et (λq:T2×Int=>q.1) G.AM lQ];exact Ff (k:=λq:T2×Int=>q.1) (f:=λq=>V.int q.2) _ _);rw[e9];have S8:=S7.QI (G.AM.filter λr=>decide (r.1∉(us.map (·.1)).take (i+1)));exact⟨_,rfl,S8,λb o e hb=>by rw[Ab hb];exact PB _ _ e hb⟩);.rintro σ H7 ⟨u3,rfl,S7,PB⟩;rw[ZA,kg,<-ZA (f:=λq:T2×Int=>q.1),BM] at S7;have TZ:BU H6 H7:=⟨λb xs e=>PB _ _ e (λz=>by rw[z,S6.dr] at e;cases e),λb o v e=>PB _ _ e (λz=>by rw[z,S6.dr] at e;cases e)⟩;refine⟨_,rfl,k bl cs H7 pI (PB _ _ e6 og) (HP.keep TZ ba) ?_ λb o e h1 h2=>PB _ _ (s6 _ _ (s5 _ _ e)) λz=>h2 (by rw[z];simp[BG])⟩;(have eK:GV G={ G with AM:=G.AM.filter λq=>decide (q.1∉us.map (·.1)) }:=by unfold GV;(have:(G.AM.filter λq=>Bh G q.1)=G.AM.filter λq=>decide (q.1∉us.map (·.1)):=IL λq hq=>by by_cases c:Bh G q.1=true;(·(have nm:q.1∉us.map (·.1):=λz=>by obtain⟨r,hr,er⟩:=ZN z;rw[<-jU] at hr;have:=(AD.mp hr).2;rw[er,c] at this;cases this);rw[c,AJ nm]);·(have c:Bh G q.1=false:=by simpa using c);(have im:q.1∈us.map (·.1):=by rw[<-jU];exact AI.mpr ⟨q,AD.mpr ⟨pm.symm.subset hq,by rw[c];rfl⟩,rfl⟩);rw[c];simp only[im,not_true_eq_false,decide_false]);rw[this]);rw[eK];exact S7
end
section
def Rj(C:Addr):Sp:=λvs H Q _=>∃(p:Addr)(G:BS)(n m:Nat)(rs:List (T2×Int))(R:List T2),vs=[.ref p]/\AQ C H p G/\Ok G n/\n<=62/\(∀t∈G.hand,RU t)/\(∀q∈G.holds,∀t∈q.2.2,RU t)/\rs.Perm G.AM/\(rs.map (·.1)).Pairwise IS /\
 KQ (NX G.holds) m (startT G) [] R/\m<=5000/\Ok (keepR G R) n /\
 ∀(x:Addr)(as:List Addr)(H':Hp),(∀b o,H b=some o->b≠p->b∉BG G->b≠x)->H' x=some (.BI (as.map V.ref))->HP H' as (Bs (keepR G R) rs)->AQ C H' p (HV (GV (keepR G R)))->Q_ p G H H'->Q (.ref x) H'
theorem bV:Ao ["self","lent","kept"] ["self"] (Aj R1):={}
def Jja(K:W.Frag):TT:=Lr (RR (XG λi j=>.bl (decide (j<i))) (Pj (Q0 K (B6 1) "outs") (B6 0)) (tC (.int 0)))
theorem Jch(F:EK K "clean" "House.clean" R1 f fd)(T:Txt K mg C Cn DO MI NW)(Tx:js mg)(MR:QU K mg "reached" E9 ["starts","holds"] fR dR)(ML:CO K C "lose" "House.lose" Pr ["self","things"] fL dL)(MG:CO K C "give_back" "House.give_back" Uh ["self"] fG dG) : CV P w K mg base 2 f fd ["self"] (Rj C):=by
 have GR:CV P w K mg base 1 fR dR ["starts","holds"] Fx:=Io MR.fn;have GL:CV P w K mg base 1 fL dL ["self","things"] (vP C):=Jen ML.fn T;have GG:CV P w K mg base 1 fG dG ["self"] (Wf C):=Yq MG.fn T Tx;refine F.IQ bV λvs H Q E h=>?_;obtain⟨p,G,n,m,rs,R,rfl,S,ok,zn,XQ,XO,pm,pw,rc,zm,VD,k⟩:=h;refine⟨rfl,λDP A outer s hr=>?_⟩;have hu:=B3 hr;obtain⟨dx,hp⟩:=S.ob;refine⟨_,Ad (Hn (te:=B6 0) (tt:=Jja K) (i:=1) (caps:=[("self",0)]) bV.nd rfl rfl rfl rfl (Mm (An (pv 0) rfl)) rfl ZV rfl ZV rfl ⟨rfl,trivial⟩ (λy h=>LZ ⟨_,rfl⟩ h) ⟨⟨rfl,rfl,rfl,rfl⟩,trivial⟩ ZV (λ_ _ _ _ _=>D3 (A3 Px (Cp hu (An (pv 1) rfl) (pv 0)) Ah (A6 _))) (λ_ _ _ _ _=>pv 0)) (N'.RZ (Ad (Aw (i:=2) bV.nd rfl (by first|exact Or.inl rfl|exact Or.inr rfl) (Cs GR hr (by rfl) MR.mg MR.fn.kp MR.bd .nil Bb (Aa (Be Jgr (Dm (O1 rfl) (by rfl) Tx.list PyProof.Rows.boot_list (Aa (An (pv 0) rfl) Af)) (pv 1)) (Aa (An (pv 0) rfl) Af)))) (Ad (A5 (Ap (pl:=_) (pv 0) T.cl ML.mt GL hr ML.bd .nil Bb (Aa (PE.RZ (En (te:=B6 0) (caps:=[("kept",2)]) rfl (Mm (An (pv 0) rfl)) rfl ZV rfl ZV rfl ⟨rfl,trivial⟩ (λy h=>LZ ⟨_,rfl⟩ h) ⟨⟨rfl,rfl,rfl,rfl⟩,trivial⟩ ZV (λ_ _ _ _ _=>D3 (Dq (D5 hu (pv 0) (pv 1)))) (λ_ _ _ _ _=>pv 0))) Af))) (Ad (B8 (pv 0) Ah Dh) (Ae (Ar (C9 (pv 0) T.cl MG.mt GG hr MG.bd .nil Bb))))))),?_⟩;have z0:=ok.oz;have z1:=ok.hz;have z2:=ok.OL;have dw:p≠G.o:=λz=>S.OK (b:=G.o) (by simp[BG]) z.symm;refine⟨_,rfl,p,C,dx,_,_,rfl,hp,T.cl,T.nO,C0 G,G.o,_,rfl,S.dO,λob ll bA=>?_⟩;refine Lh (b:=λt=>decide (0<Ag G.AF t)) (caps:=[("self",0)]) (l:=G.AF) (key:=λq=>q.1) (val:=λq=>V.int q.2) (ob:=ob) bA (by lia) Ac (λH2 a t Q' sm ha ht q=>?_) λH2 bs sm el tl=>?_;.have FH:H2 p=some (.ins C dx (Bx G)):=sm _ _ (by rw[Ab dw];exact hp);(have gv:B9 (G.AF.map λq=>(tk q.1,V.int q.2)) (tk t)=some (V.int (Ag G.AF t)):=by rw[Dk (k:=λq:T2×Int=>q.1) (f:=λq=>V.int q.2),Kk ht];rfl);exact⟨_,rfl,p,C,dx,_,_,rfl,FH,T.cl,T.nO,C0 G,_,rfl,G.o,_,rfl,.inr ⟨_,tk t,a,.inr ⟨ob,sm _ _ Ac⟩,rfl,ha,gv.symm⟩,_,_,rfl,rfl,_,rfl,q⟩
 have eS:H2 G.o=some (.FJ ob (Cf G.AF)):=sm _ _ Ac;refine⟨upd H2 G.o (Cf G.AF),⟨G.o,ob,_,eS,λo v z=>?_,rfl⟩,?_⟩;.have z:H G.o=some (.FJ o v):=z;rw[S.dO] at z;cases z
 have xE:ll≠G.o:=λz=>by rw[z,Ac] at bA;cases bA
 have s3:Bi H (upd H2 G.o (Cf G.AF)):=λb o e=>by by_cases hb:b=G.o;(.subst hb;rw[S.dO] at e;rw[Ac];exact e);.rw[Ab hb];exact sm _ _ (by rw[Ab hb];exact e)
 have aK:(upd H2 G.o (Cf G.AF)) ll=some (.BI (bs.map V.ref)):=by rw[Ab xE];exact el
 have qD:BB (upd H2 G.o (Cf G.AF)) bs (Kb G):=by refine As (λb u e=>?_) tl;rw[Ab λz=>by rw[z,eS] at e;cases e];exact e
 generalize upd H2 G.o (Cf G.AF)=H3 at s3 aK qD;have S3:=S.same s3;obtain⟨ND,OH⟩:=S3.ob;refine⟨_,rfl,p,C,ND,_,_,rfl,OH,T.cl,T.nH,E4 G,G.h,_,rfl,.inl S3.dh,λl1 I_ yZ xm=>?_⟩;have t1:BB H3 I_ G.hand:=Yw (val:=λ_=>V.bl true) xm;have s4:=Ai (o:=.BI (I_.map V.ref)) yZ;have e4:(upd H3 l1 (.BI (I_.map V.ref))) l1=some (.BI (I_.map V.ref)):=Ac;have t4:BB (upd H3 l1 (.BI (I_.map V.ref))) I_ G.hand:=BB.keep (HN s4) t1;have VM:=s4 _ _ aK;have kC:BB (upd H3 l1 (.BI (I_.map V.ref))) bs (Kb G):=BB.keep (HN s4) qD;generalize upd H3 l1 (.BI (I_.map V.ref))=H4 at s4 e4 t4 VM kC;have n1:=Paired.length t4;have n2:=Paired.length kC;have n3:(Kb G).length<=62:=by have:(Kb G).length<=(G.AF.map (·.1)).length:=AS _ _;rw[ZA] at this;lia
 refine⟨_,rfl,l1,ll,_,_,rfl,rfl,e4,VM,EO (Na (by rw[ZA,ZA];lia)),λcl aH=>?_⟩;rw[<-ZF];have s5:=Ai (o:=.BI ((I_++bs).map V.ref)) aH;have e5:(upd H4 cl (.BI ((I_++bs).map V.ref))) cl=some (.BI ((I_++bs).map V.ref)):=Ac;have t5:BB (upd H4 cl (.BI ((I_++bs).map V.ref))) (I_++bs) (G.hand++Kb G):=BB.keep (HN s5) (Ji t4 kC);generalize upd H4 cl (.BI ((I_++bs).map V.ref))=H5 at s5 e5 t5;have S5:=S3.same (Am s4 s5);obtain⟨YH,WZ⟩:=S5.ob;refine⟨_,rfl,p,C,YH,_,_,rfl,WZ,T.cl,T.nL,Dw G,cl,G.l,I_++bs,G.hand++Kb G,G.holds,m,R,rfl,e5,t5,by rw[ZE];lia,S5.dl,by lia,λq hq=>⟨S5.hl q hq,by have:=(ok.ln q hq).2;lia,(S.TY.2.2.2 q hq).2.2.1⟩,rc,zm,λkp H6 rm s6 ek=>?_⟩;have S6:=S5.same s6;obtain⟨RM,UW⟩:=S6.ob;refine⟨_,rfl,p,RM,_,rfl,UW,By G ZV,_,rfl,p,C,RM,_,_,rfl,UW,T.cl,T.nO,C0 G,G.o,_,rfl,S6.dO,λkR gl lY=>?_⟩;have xH:kp≠G.o:=λz=>by rw[z,S5.dO] at rm;cases rm
 refine Lh (b:=λt=>decide (t∉R)) (caps:=[("kept",2)]) (l:=G.AF) (key:=λq=>q.1) (val:=λq=>V.int q.2) (ob:=kR) lY (by lia) Ac (λH7 a t Q' jC ha ht q=>?_) λH7 gs jC eg tg=>?_;.refine⟨_,rfl,_,rfl,kp,_,rfl,Fl (jC kp (A9 R) (by rw[Ab xH];exact ek)) ha,?_⟩;(have e8:(!(if t∈R then some (V.bl true) else none).isSome)=decide (t∉R):=by by_cases c:t∈R;(.rw[AE c];simp[c]);.rw[AB c];simp[c]);rw[e8];exact⟨_,rfl,q⟩
 have rZ:H7 G.o=some (.FJ kR (Cf G.AF)):=jC _ _ Ac;refine⟨upd H7 G.o (Cf G.AF),⟨G.o,kR,_,rZ,λo v z=>?_,rfl⟩,?_⟩;.have z:H G.o=some (.FJ o v):=z;rw[S.dO] at z;cases z
 have xJ:gl≠G.o:=λz=>by rw[z,Ac] at lY;cases lY
 have s8:Bi H6 (upd H7 G.o (Cf G.AF)):=λb o e=>by by_cases hb:b=G.o;(.subst hb;rw[S6.dO] at e;rw[Ac];exact e);.rw[Ab hb];exact jC _ _ (by rw[Ab hb];exact e)
 have tU:(upd H7 G.o (Cf G.AF)) gl=some (.BI (gs.map V.ref)):=by rw[Ab xJ];exact eg
 have qE:BB (upd H7 G.o (Cf G.AF)) gs ((G.AF.map (·.1)).filter λt=>decide (t∉R)):=by refine As (λb u e=>?_) tg;rw[Ab λz=>by rw[z,rZ] at e;cases e];exact e
 generalize upd H7 G.o (Cf G.AF)=H8 at s8 tU qE;have S8:=S6.same s8;refine⟨p,gl,G,gs,_,rfl,S8,ok.ke,tU,qE,λH9 S9 mB=>?_⟩;rw[Tt ok.ke] at S9;obtain⟨UD,XS⟩:=S9.ob;refine⟨_,rfl,p,C,UD,_,_,rfl,XS,T.cl,T.nT,B7 _,_,_,rfl,rfl,UD,_,XS,Di _,?_⟩;rw[Bc];have VP:=S9.fld UD (keepR G R).AY ((keepR G R).AZ+1);have SH:Q_ p G H8 (upd H9 p (.ins C UD (Bx { keepR G R with AZ:=(keepR G R).AZ+1 }))):=λb o e h1 h2=>by rw[Ab h1];exact mB _ _ e h1 h2
 have VP:AQ C (upd H9 p (.ins C UD (Bx { keepR G R with AZ:=(keepR G R).AZ+1 }))) p (HV (keepR G R)):=VP;generalize upd H9 p (.ins C UD (Bx { keepR G R with AZ:=(keepR G R).AZ+1 }))=j5 at VP SH;obtain⟨b_,br⟩:=VP.ob;have qT:Bi H H8:=Am s3 (Am s4 (Am s5 (Am s6 s8)));refine⟨_,rfl,p,b_,_,rfl,br,By _ ZV,p,HV (keepR G R),n,rs,rfl,VP,VD.HV,zn,XQ,λq hq=>XO q (AD.mp hq).1,pm,pw,λx as jz hx ex ba m9 bw=>?_⟩;have lB:∀b o,H b=some o->b≠p->b∉BG G->b≠x:=λb o e h1 h2=>Ak (SH _ _ (qT _ _ e) h1 h2) hx;refine k x as jz lB ex ba m9 λb o e h1 h2=>bw _ _ (SH _ _ (qT _ _ e) h1 h2) h1 λz=>h2 (List.Sublist.subset (Om (G:={ G with AF:=(keepR G R).AF }) EL) z)
end
end K61
namespace FX
open PySem PySem.Spec PyProof.Rows L2
theorem Jkj{a b c d:Str}{k1 k2:NameKind}{cl:List (Str×Addr)}{y:Str}(hc:∃z,cl.lookup c=some z)(hd:∃z,cl.lookup d=some z)(h:([(a,NameKind.local),(b,NameKind.local),(c,k1),(d,k2)]:List (Str×NameKind)).lookup y=some .cell\/([(a,NameKind.local),(b,NameKind.local),(c,k1),(d,k2)]:List (Str×NameKind)).lookup y=some .free):∃z,cl.lookup y=some z :=Tp (λp hp hk=>by simp only[BZ,DN,KW] at hp;rcases hp with rfl|rfl|rfl|rfl;(.rcases hk with hk|hk<;>cases hk);(.rcases hk with hk|hk<;>cases hk);(.exact hc);.exact hd) h
def II(H:Hp)(t:Addr)(n:Int)(kind:Str)(s g:Int)(tb:T2)(x:Int):Prop:=∃a b,H t=some (.BC [.int n,.str kind,.int s,.int g,.ref a])/\H a=some (.BC [.ref b,.int x])/\H b=some (.BC (tv tb))
theorem II.keep(h:II H t n kind s g tb x)(k:BU H H'):II H' t n kind s g tb x:=let⟨a,b,e1,e2,e3⟩:=h;⟨a,b,k.BC _ _ e1,k.BC _ _ e2,k.BC _ _ e3⟩
end FX
namespace K61
open PySem L2 FX
def Jkt(G:BS)(tb:T2)(wt:Int)(G':BS):Prop:=(tb.1=G.BP/\∃o,G.AF.find? (λq=>decide (q.1=tb))=some (tb,o)/\G'={ G with AZ:=G.AZ+1,hand:=Bt G.hand tb,AF:=Ba G.AF tb (o-wt) })\/(tb.1≠G.BP/\G'={ G with AZ:=G.AZ+1,hand:=Bt G.hand tb,AM:=Ba G.AM tb (Vq G.AM tb+wt) })
def Wt(kind:Str)(G:BS)(tb:T2)(wt:Int)(G':BS):Prop:=(kind="hold"/\Jkt G tb wt G')\/(kind="more"/\G'={ G with AZ:=G.AZ+1,AM:=Ba G.AM tb (Vq G.AM tb+wt) })\/(kind="back"/\G'={ G with AZ:=G.AZ+1,AF:=UY G tb wt })
theorem Wt.BG(h:Wt kind G tb wt G'):BG G'=BG G:=by rcases h with⟨_,⟨_,o,_,rfl⟩|⟨_,rfl⟩⟩|⟨_,rfl⟩|⟨_,rfl⟩<;>rfl
section
def Sz(G:BS):Prop:=G.hand.length<=500/\G.AF.length<=500/\G.AM.length<=500
def Fv(CW C CP:Addr):Sp:=λvs H Q _=>∃(p t:Addr)(W:FZ)(n s g:Int)(kind:Str)(tb:T2)(wt:Int)(q:Addr)(G G':BS),vs=[.ref p,.ref t]/\AN CW C CP H p W/\II H t n kind s g tb wt/\IH W g q G/\Wt kind G tb wt G'/\Sz G /\
 ∀H',AN CW C CP H' p { W with qs:=W.qs.set g.toNat (q,G') }->F_ p W H H'->Q .EE H'
theorem JB:Ao ["self","letter","kind","house","thing","weight"] ["self","letter"] (Aj Jp):={}
theorem Ws(F:EK K "weight_came" "World.weight_came" Jp f fd)(T:Txt K mg C Cn DO MI NW)(TW:Ek K mg CW NH NI)(M1:CO K C "came" "House.came" Yh ["self","b","weight"] f1 d1)(G1:CV P w K mg base 2 f1 d1 ["self","b","weight"] (Wj C))(M2:CO K C "added" "House.added" R3 ["self","b","weight"] f2 d2)(G2:CV P w K mg base 2 f2 d2 ["self","b","weight"] (Rk C))(M3:CO K C "given" "House.given" R0 ["self","b","weight"] f3 d3):CV P w K mg base 3 f fd ["self","letter"] (Fv CW C CP):=by
 have G3:CV P w K mg base 1 f3 d3 ["self","b","weight"] (X3 C):=Jcg M3.fn T;refine F.ok JB (λvs H Q E h=>?_) (λDP A outer s H vs Q E hr h=>?_);.obtain⟨p,t,W,n,s,g,kind,tb,wt,q,G,G',rfl,_⟩:=h;rfl
 .obtain⟨p,t,W,n,s,g,kind,tb,wt,q,G,G',rfl,S,⟨a,b,e1,e2,e3⟩,i,cm,⟨z1,z2,z3⟩,k⟩:=h;have GO:CU 1 _:=hr.mono (by decide);obtain⟨dx,hp⟩:=S.ob;refine⟨_,Ad (Aw (i:=2) JB.nd rfl (Or.inl rfl) (Az Av (pv 1) Ah)) (Ad (Aw (i:=3) JB.nd rfl (Or.inl rfl) (Az D9 (An (pv 0) rfl) (Az Av (pv 1) Ah))) (Ad (Aw (i:=4) JB.nd rfl (Or.inl rfl) (Az Av (Az Av (pv 1) Ah) Ah)) (Ad (Aw (i:=5) JB.nd rfl (Or.inl rfl) (Az Av (Az Av (pv 1) Ah) Ah)) (Ae (Bf (A3 Cy (pv 2) Bk (A6 _)) (Ae (A5 (Ap (pl:=_) (pv 3) T.cl M1.mt G1 hr M1.bd .nil Bb (Aa (pv 4) (Aa (pv 5) Af))))) (Ae (Bf (A3 Cy (pv 2) Bk (A6 _)) (Ae (A5 (Ap (pl:=_) (pv 3) T.cl M2.mt G2 hr M2.bd .nil Bb (Aa (pv 4) (Aa (pv 5) Af))))) (Ae (A5 (Ap (pl:=_) (pv 3) T.cl M3.mt G3 GO M3.bd .nil Bb (Aa (pv 4) (Aa (pv 5) Af)))))))))))),?_⟩;refine⟨_,rfl,t,_,_,_,rfl,rfl,CL.of e1,rfl,?_⟩;refine⟨_,rfl,p,CW,dx,_,_,rfl,hp,TW.cl,TW.nH,Dc W,_,rfl,t,_,_,_,rfl,rfl,CL.of e1,rfl,W.hs,_,_,_,rfl,rfl,EC.of S.hs,i.PD,?_⟩;refine⟨_,rfl,t,_,_,_,rfl,rfl,CL.of e1,rfl,a,_,_,_,rfl,rfl,CL.of e2,rfl,?_⟩;refine⟨_,rfl,t,_,_,_,rfl,rfl,CL.of e1,rfl,a,_,_,_,rfl,rfl,CL.of e2,rfl,?_⟩;obtain⟨EJ,hq⟩:=(i.at S).ob;(have dn:Done C q G H G' λH'=>Q .EE H':=λH' S' fr=>by obtain⟨x1,x2⟩:=S.step i.2 S' fr λb hb=>.inl (by rw[cm.BG] at hb;exact hb);exact k H' x1 x2);rcases cm with⟨rfl,cm⟩|⟨rfl,rfl⟩|⟨rfl,rfl⟩;(.refine Ja ⟨_,rfl,q,EJ,_,rfl,hq,By G ZV,_,rfl,_,rfl,q,b,G,tb,wt,rfl,i.at S,e3,z1,z2,z3,?_⟩;rcases cm with⟨h1,o,h2,rfl⟩|⟨h1,rfl⟩;(.exact .inl ⟨h1,o,h2,dn⟩);.exact .inr ⟨h1,dn⟩);(.exact HY (Ja ⟨_,rfl,q,EJ,_,rfl,hq,By G ZV,_,rfl,_,rfl,q,b,G,tb,wt,rfl,i.at S,e3,z3,dn⟩));.exact HY (HY ⟨_,rfl,q,EJ,_,rfl,hq,By G ZV,_,rfl,_,rfl,q,b,G,tb,wt,rfl,i.at S,e3,z2,dn⟩)
def F4(G:BS)(tb:T2)(sh:Int)(F':Bool):BS:={ G with AZ:=G.AZ+1,hand:=WU G tb F',AF:=ZX G tb sh F' }
def Tz(p:Addr)(W:FZ)(H:Hp)(x:Addr):Prop:=∀b o,H b=some o->b∉Cb p W->b≠x
def Jj(CW C CP:Addr):Sp:=λvs H Q _=>∃(p t:Addr)(W:FZ)(n s JY goal:Int)(tb:T2)(q:Addr)(G:BS),vs=[.ref p,.ref t]/\AN CW C CP H p W/\II H t n "pass" s JY tb goal/\IH W JY q G/\Sz G/\tb∈G.AF.map (·.1)/\W.ls.length<=400 /\
 ((goal=JY/\∀(x t1:Addr)(H':Hp),AN CW C CP H' p { W with qs:=W.qs.set JY.toNat (q,F4 G tb W.share true),c:=W.c+1,ls:=W.ls++[(W.c+1,t1)] }->II H' t1 (W.c+1) "more" JY s tb W.share->F_ p W H H'->x≠W.hs->Tz p W H x->H' x=some (.BI [.int (W.c+1)])->Q (.ref x) H') \/
  (goal≠JY/\∀(x t1 t2:Addr)(H':Hp),AN CW C CP H' p { W with qs:=W.qs.set JY.toNat (q,F4 G tb W.share false),c:=W.c+1+1,ls:=W.ls++[(W.c+1,t1)]++[(W.c+1+1,t2)] }->II H' t1 (W.c+1) "hold" JY goal tb W.share->II H' t2 (W.c+1+1) "more" JY s tb W.share->F_ p W H H'->x≠W.hs->Tz p W H x->H' x=some (.BI [.int (W.c+1),.int (W.c+1+1)])->Q (.ref x) H'))
theorem MB:Ao ["self","letter","home","thing","goal","went"] ["self","letter"] (Aj Ro):={}
theorem Jb2(F:EK K "pass_came" "World.pass_came" Ro f fd)(T:Txt K mg C Cn DO MI NW)(TW:Ek K mg CW NH NI)(TP:Kt K mg CP NL)(M1:CO K C "passed" "House.passed" Mg ["self","b","share","mine"] f1 d1)(M3:CO K CP "put" "Post.put" Js ["self","kind","sender","goal","about"] f3 d3) : CV P w K mg base 2 f fd ["self","letter"] (Jj CW C CP):=by
 have G1:CV P w K mg base 1 f1 d1 ["self","b","share","mine"] (Ud C):=Z3 M1.fn T;have G3:CV P w K mg base 1 f3 d3 ["self","kind","sender","goal","about"] (Fn CP):=Hs M3.fn TP;refine F.ok MB (λvs H Q E h=>?_) (λDP A outer s H vs Q E hr h=>?_);.obtain⟨p,t,W,n,s,JY,goal,tb,q,G,rfl,_⟩:=h;rfl
 .obtain⟨p,t,W,n,s,JY,goal,tb,q,G,rfl,S,⟨a,b,e1,e2,e3⟩,i,⟨z1,z2,z3⟩,ho,zl,k⟩:=h;obtain⟨dx,hp⟩:=S.ob;refine⟨_,Ad (Aw (i:=2) MB.nd rfl (Or.inl rfl) (Az Av (pv 1) Ah)) (Ad (Aw (i:=3) MB.nd rfl (Or.inl rfl) (Az Av (Az Av (pv 1) Ah) Ah)) (Ad (Aw (i:=4) MB.nd rfl (Or.inl rfl) (Az Av (Az Av (pv 1) Ah) Ah)) (Ad (A5 (Ap (pl:=_) (Az D9 (An (pv 0) rfl) (pv 2)) T.cl M1.mt G1 hr M1.bd .nil Bb (Aa (pv 3) (Aa (An (pv 0) rfl) (Aa (Jz Cy (pv 4) (pv 2) (A6 _)) Af))))) (Ad (Aw (i:=5) MB.nd rfl (Or.inl rfl) (Fa Af)) (Ad (Bf (A3 nY (pv 4) (pv 2) (A6 _)) (Ae (A5 (Lu CJ HR HQ F6 (pv 5) (Aa (Ap (pl:=_) (An (pv 0) rfl) TP.cl M3.mt G3 hr M3.bd .nil Bb (Aa Bk (Aa (pv 2) (Aa (pv 4) (Aa (Ca (Aa (pv 3) (Aa (An (pv 0) rfl) Af))) Af))))) Af)))) A4) (Ad (A5 (Lu CJ HR HQ F6 (pv 5) (Aa (Ap (pl:=_) (An (pv 0) rfl) TP.cl M3.mt G3 hr M3.bd .nil Bb (Aa Bk (Aa (pv 2) (Aa (Az Av (pv 1) Ah) (Aa (Ca (Aa (pv 3) (Aa (An (pv 0) rfl) Af))) Af))))) Af))) (Ae (Ar (pv 5))))))))),?_⟩;refine⟨_,rfl,t,_,_,_,rfl,rfl,CL.of e1,rfl,?_⟩;refine⟨_,rfl,t,_,_,_,rfl,rfl,CL.of e1,rfl,a,_,_,_,rfl,rfl,CL.of e2,rfl,?_⟩;refine⟨_,rfl,t,_,_,_,rfl,rfl,CL.of e1,rfl,a,_,_,_,rfl,rfl,CL.of e2,rfl,?_⟩;obtain⟨EJ,hq⟩:=(i.at S).ob;refine⟨_,rfl,p,CW,dx,_,_,rfl,hp,TW.cl,TW.nH,Dc W,_,rfl,W.hs,_,_,_,rfl,rfl,EC.of S.hs,i.PD,q,EJ,_,rfl,hq,By G ZV,_,rfl,_,rfl,p,CW,dx,_,_,rfl,hp,TW.cl,TW.nS,Gw W,_,rfl,_,rfl,rfl,q,b,G,tb,W.share,decide (V.int goal=V.int JY),rfl,i.at S,e3,z2,z1,ho,λH1 S1 JT=>?_⟩;obtain⟨W1,FU⟩:=S.step i.2 S1 JT λb hb=>.inl hb;have MO:=F_.DS S FU;refine⟨BF _,λx hx=>?_⟩;have s2:=Ai (o:=.BI []) hx;have ex:(upd H1 x (.BI [])) x=some (.BI []):=Ac;have W2:=W1.same s2;have ck:=MO.trans (HN s2);(have aZ:x≠W.hs:=λz=>by rw[z] at hx;rw[W1.hs] at hx;cases hx);(have p8:Tz p W H x:=λb o e hb z=>by rw[<-z,FU b o e hb] at hx;cases hx);have dB:=ck.BC _ _ e1;have RT:=ck.BC _ _ e3;obtain⟨HZ,FH⟩:=W2.ob;obtain⟨ND,aD⟩:=W2.po.ob;have cK:x∉Cb p { W with qs:=W.qs.set JY.toNat (q,F4 G tb W.share (decide (V.int goal=V.int JY))) }:=W2.QE ex aZ;refine⟨_,rfl,_,rfl,rfl,_,rfl,?_⟩;rcases k with⟨rfl,k⟩|⟨ne,k⟩;(.rw[show(!decide (V.int goal=V.int goal))=false by simp];refine Cd ?_;refine⟨_,rfl,.inl ⟨rfl,_,EC.of ex⟩,_,rfl,p,CW,HZ,_,_,rfl,FH,TW.cl,TW.nP,Dz _,W.po,ND,_,rfl,aD,C8 _ _ ZV ZV,_,rfl,_,rfl,t,_,_,_,rfl,rfl,CL.of dB,rfl,_,rfl,_,rfl,p,CW,HZ,_,_,rfl,FH,TW.cl,TW.nS,Gw _,(by show 2<=sizeLine;decide),λa2 UX=>?_⟩;have s3:=Ai (o:=.BC [V.ref b,V.int W.share]) UX;have W3:=W2.same s3;refine⟨W.po,W.pd,W.c,W.ls,_,_,_,_,rfl,W3.po,BE zl (by decide),λt1 H4 ht et S4 UB=>?_⟩;obtain⟨W4,OW⟩:=W3.IE S4 UB;have LB:=F_.DS W3 OW;have fN:H4 x=some (.BI []):=OW _ _ (s3 _ _ ex) cK;refine⟨x,_,_,rfl,rfl,fN,A7 (by show 0<=1000;decide),?_⟩;(have kq:BU H4 (upd H4 x (.BI ([]++[V.int (W.c+1)]))):=OI λo' e=>by rw[fN] at e;cases e;exact⟨λ_ z=>(by cases z),λ_ _ z=>(by cases z)⟩);refine⟨_,rfl,k x t1 _ ?_ ⟨a2,b,kq.BC _ _ et,kq.BC _ _ (LB.BC _ _ Ac),kq.BC _ _ (LB.BC _ _ (s3 _ _ RT))⟩ (λb' o' e' HM=>?_) aZ p8 Ac⟩;(·(have:=W4.keep (H':=upd H4 x (.BI ([]++[V.int (W.c+1)]))) λb' o' HM e'=>by rw[Ab (λz=>cK (by rw[<-z];exact HM))];exact e');rw[show decide (V.int goal=V.int goal)=true by simp] at this;exact this);·(have e_:b'≠x:=λz=>by rw[z] at e' HM;rw[FU x o' e' HM] at hx;cases hx);rw[Ab e_];exact UB b' o' (s3 _ _ (s2 _ _ (FU b' o' e' HM))) (λz=>HM (ZB _ (by rw[z];simp[B5]))) λz=>HM (ZB _ (by rw[z];simp[B5])));.rw[show(!decide (V.int goal=V.int JY))=true by simp[ne]];refine Ck ?_;refine⟨_,rfl,.inl ⟨rfl,_,EC.of ex⟩,_,rfl,p,CW,HZ,_,_,rfl,FH,TW.cl,TW.nP,Dz _,W.po,ND,_,rfl,aD,C8 _ _ ZV ZV,_,rfl,_,rfl,_,rfl,_,rfl,p,CW,HZ,_,_,rfl,FH,TW.cl,TW.nS,Gw _,(by show 2<=sizeLine;decide),λa2 UX=>?_⟩;have s3:=Ai (o:=.BC [V.ref b,V.int W.share]) UX;have W3:=W2.same s3;refine⟨W.po,W.pd,W.c,W.ls,_,_,_,_,rfl,W3.po,BE zl (by decide),λt1 H4 ht et S4 UB=>?_⟩;obtain⟨W4,OW⟩:=W3.IE S4 UB;have LB:=F_.DS W3 OW;have fN:H4 x=some (.BI []):=OW _ _ (s3 _ _ ex) cK;refine⟨x,_,_,rfl,rfl,fN,A7 (by show 0<=1000;decide),?_⟩;(have kq:BU H4 (upd H4 x (.BI ([]++[V.int (W.c+1)]))):=OI λo' e=>by rw[fN] at e;cases e;exact⟨λ_ z=>(by cases z),λ_ _ z=>(by cases z)⟩);have l1:II (upd H4 x (.BI ([]++[V.int (W.c+1)]))) t1 (W.c+1) "hold" JY goal tb W.share:=⟨a2,b,kq.BC _ _ et,kq.BC _ _ (LB.BC _ _ Ac),kq.BC _ _ (LB.BC _ _ (s3 _ _ RT))⟩;(have W5:=W4.keep (H':=upd H4 x (.BI ([]++[V.int (W.c+1)]))) λb' o' HM e'=>by rw[Ab (λz=>cK (by rw[<-z];exact HM))];exact e');have mG:(upd H4 x (.BI ([]++[V.int (W.c+1)]))) x=some (.BI [V.int (W.c+1)]):=Ac;have hZ:=kq.BC _ _ (LB.BC _ _ (s3 _ _ dB));have hX:=kq.BC _ _ (LB.BC _ _ (s3 _ _ RT));(have qA:∀b' o',H b'=some o'->b'∉Cb p W->(upd H4 x (.BI ([]++[V.int (W.c+1)]))) b'=some o':=λb' o' e' HM=>by (have e_:b'≠x:=λz=>by rw[z] at e' HM;rw[FU x o' e' HM] at hx;cases hx);rw[Ab e_];exact UB b' o' (s3 _ _ (s2 _ _ (FU b' o' e' HM))) (λz=>HM (ZB _ (by rw[z];simp[B5]))) λz=>HM (ZB _ (by rw[z];simp[B5])));generalize upd H4 x (.BI ([]++[V.int (W.c+1)]))=H5 at l1 W5 mG hZ hX qA;obtain⟨YH,WZ⟩:=W5.ob;obtain⟨RM,jW⟩:=W5.po.ob;refine⟨_,rfl,.inl ⟨rfl,_,EC.of mG⟩,_,rfl,p,CW,YH,_,_,rfl,WZ,TW.cl,TW.nP,Dz _,W.po,RM,_,rfl,jW,C8 _ _ ZV ZV,_,rfl,_,rfl,t,_,_,_,rfl,rfl,CL.of hZ,rfl,_,rfl,_,rfl,p,CW,YH,_,_,rfl,WZ,TW.cl,TW.nS,Gw _,(by show 2<=sizeLine;decide),λa6 yl=>?_⟩;have s6:=Ai (o:=.BC [V.ref b,V.int W.share]) yl;have W6:=W5.same s6;refine⟨W.po,W.pd,W.c+1,W.ls++[(W.c+1,t1)],_,_,_,_,rfl,W6.po,(by rw[ZE];show _+1<=500;lia),λt2 H7 yK mI S7 PB=>?_⟩;obtain⟨W7,cL⟩:=W6.IE S7 PB;have TZ:=F_.DS W6 cL;have tL:H7 x=some (.BI [V.int (W.c+1)]):=cL _ _ (s6 _ _ mG) cK;refine⟨x,_,_,rfl,rfl,tL,A7 (by show 1<=1000;decide),?_⟩;(have kr:BU H7 (upd H7 x (.BI ([V.int (W.c+1)]++[V.int (W.c+1+1)]))):=OI λo' e=>by rw[tL] at e;cases e;exact⟨λ_ z=>(by cases z),λ_ _ z=>(by cases z)⟩);refine⟨_,rfl,k x t1 t2 _ ?_ (l1.keep (((HN s6).trans TZ).trans kr)) ⟨a6,b,kr.BC _ _ mI,kr.BC _ _ (TZ.BC _ _ Ac),kr.BC _ _ (TZ.BC _ _ (s6 _ _ hX))⟩ (λb' o' e' HM=>?_) aZ p8 Ac⟩;(·(have:=W7.keep (H':=upd H7 x (.BI ([V.int (W.c+1)]++[V.int (W.c+1+1)]))) λb' o' HM e'=>by rw[Ab (λz=>cK (by rw[<-z];exact HM))];exact e');rw[show decide (V.int goal=V.int JY)=false by simp[ne]] at this;exact this);·(have e_:b'≠x:=λz=>by rw[z] at e' HM;rw[FU x o' e' HM] at hx;cases hx);rw[Ab e_];exact PB b' o' (s6 _ _ (qA b' o' e' HM)) (λz=>HM (ZB _ (by rw[z];simp[B5]))) λz=>HM (ZB _ (by rw[z];simp[B5]))
end
section
def Gg(CW C CP:Addr):Sp:=λvs H Q _=>∃(p:Addr)(W:FZ),vs=[.ref p]/\AN CW C CP H p W/\∀(l:Addr)(H':Hp),H l=none->H' l=some (.BI (W.ls.map λx=>V.ref x.2))->Bi H H'->Q (.ref l) H'
theorem Wn:Ao ["self"] ["self"] (Aj Fy):={}
theorem Ux(F:EK K "letters" "World.letters" Fy f fd)(TW:Ek K mg CW NH NI)(TP:Kt K mg CP NL)(M1:CO K CP "letters" "Post.letters" Hl ["self"] f1 d1):CV P w K mg base 2 f fd ["self"] (Gg CW C CP):=by have G1:CV P w K mg base 1 f1 d1 ["self"] (M8 CP):=U1 M1.fn TP;refine F.IQ Wn λvs H Q E h=>?_;obtain⟨p,W,rfl,S,k⟩:=h;refine⟨rfl,λDP A outer s hr=>?_⟩;obtain⟨dx,hp⟩:=S.ob;obtain⟨EJ,hq⟩:=S.po.ob;refine⟨_,Ae (Ar (C9 (pl:=_) (An (pv 0) rfl) TP.cl M1.mt G1 hr M1.bd .nil Bb)),?_⟩;exact⟨_,rfl,p,CW,dx,_,_,rfl,hp,TW.cl,TW.nP,Dz W,W.po,EJ,_,rfl,hq,C8 _ _ ZV ZV,W.po,W.pd,W.c,W.ls,rfl,S.po,k⟩
structure nU(G:BS)(i:Nat):Prop where
 eq:∃h o l r,G=⟨(i:Int),0,0,h,o,l,r,[],[],[],[]⟩
def Xw(CW C CP:Addr):Sp:=λvs H Q _=>∃(p dx:Addr)(m sh:Int),vs=[.ref p,.int m,.int sh]/\H p=some (.ins CW dx [])/\0<=m/\m<=12 /\
 ∀(W:FZ)(H':Hp),AN CW C CP H' p W->W.share=sh->W.c=0->W.ls=[]->W.JX=[]->W.IG=[]->W.ED=[]->W.qs.length=m.toNat->(∀i q G,W.qs[i]?=some (q,G)->nU G i)->(∀b u,H b=some u->b≠p->H' b=some u)->Q .EE H'
theorem Jd1:Ao ["self","many","share"] ["self","many","share"] (Aj Wo):={}
theorem Jb4(F:EK K "__init__" "World.__init__" Wo f fd)(T:Txt K mg C Cn DO MI NW)(TW:Ek K mg CW NH NI)(TP:Kt K mg CP NL)(MmH:Mk K C fI)(FI:EK K "__init__" "House.__init__" Yd fI dI)(bI:Binds K dI ["self","number"] [])(MmP:Mk K CP fP)(FP:EK K "__init__" "Post.__init__" Ry fP dP)(bP:Binds K dP ["self"] []):CV P w K mg base 3 f fd ["self","many","share"] (Xw CW C CP):=by
 have GI:CV P w K mg base 1 fI dI ["self","number"] (LH C):=QL FI T;have GP:CV P w K mg base 1 fP dP ["self"] (X0 CP):=Jcd FP TP;refine F.IQ Jd1 λvs H Q E h=>?_;obtain⟨p,dx,m,sh,rfl,hp,m0,m1,k⟩:=h;refine⟨rfl,λDP A outer s hr=>?_⟩;refine⟨_,Ad (C7 (pv 0) (pv 2) rfl) (Ad (C7 (pv 0) (En (te:=Xt C (LH C) [] E0 (De (B6 0) Kv)) (caps:=[]) rfl (F2 rfl T.range (Aa (pv 1) Af)) rfl ZV rfl ZV rfl trivial (λy h=>Jkh h) trivial ZV (λ_ _ _ _ _=>Ml) (λ_ _ _ _ _=>R6 MmH GI hr (by rfl) T.a7 bI .nil Bb (Aa (pv 0) Af))) rfl) (Ad (C7 (pv 0) (Jbv MmP GP hr (by rfl) TP.a7 bP .nil Bb) rfl) (Ad (C7 (pv 0) Er rfl) (Ad (C7 (pv 0) Er rfl) (Ae (C7 (pv 0) Er rfl)))))),?_⟩;refine⟨_,rfl,_,rfl,p,CW,dx,[],rfl,hp,TW.cl,TW.nS,(by show 0<1000;decide),?_⟩;have h1:(upd H p (.ins CW dx (Aq "share" (.int sh) []))) p=some (.ins CW dx (Aq "share" (.int sh) [])):=Ac;have k1:Kp p H (upd H p (.ins CW dx (Aq "share" (.int sh) []))):=dX;generalize upd H p (.ins CW dx (Aq "share" (.int sh) []))=H1 at h1 k1;have mm:(m.toNat:Int)=m:=BH m0;refine⟨_,rfl,m,rfl,by lia,by lia,λr HW=>?_⟩;have xi:Lies (upd H1 r (.BI [])) [r,p]:=(Lies.mk (L:=[p]) (by simp) (λb hb=>by rw[ZK hb];exact⟨_,h1⟩)).new HW ⟨_,Ac⟩ λb o e=>⟨o,Ai HW b o e⟩;refine Oz (lo:=0) (n:=m.toNat) (tt:=λ_ H Q=>Q true H) (te:=Xt C (LH C) [] E0 (De (B6 0) Kv)) (caps:=[]) (σ:=[some (.ref p),some (.int m),some (.int sh)]) (λi ys H2=>H2 r=some (.BI ys)/\Bi H1 H2/\∃qs:List (Addr×BS),ys=qs.map (λq=>V.ref q.1)/\qs.length=i/\(∀j q G,qs[j]?=some (q,G)->nU G j)/\(∀q∈qs,AQ C H2 q.1 q.2)/\Lies H2 (Bw qs++[r,p])) ⟨Ac,Ai HW,[],rfl,rfl,λj q G e=>by simp at e,λq hq=>by simp at hq,xi⟩ (λi ys H2 _ h=>h.1) ?_ ?_;.rintro i ys H2 N hi ⟨er,s2,qs,rfl,ql,em,ho,li⟩ hN;refine Ck ?_;refine⟨_,rfl,λx mY nx Z' kY=>⟨x,mY,_,rfl,Ac,λh o l r' H3 fh fo fl fr S3 xn=>⟨rfl,?_⟩⟩⟩;(have aq:Bi H2 (upd (upd H2 mY (.own x)) x (.ins C mY [])):=λb o e=>by rw[Ab (Ak e nx),Ab (Ak e Z')];exact e);have s3:Bi H2 H3:=λb o e=>xn b o (aq b o e) (Ak e nx);have YA:=s3 _ _ er;(have e0:(0:Int)+(i:Int)=(i:Int):=by lia);rw[e0] at S3;refine⟨YA,A7 (by rw[ZA];lia),hN _ _ ⟨Ac,λb o e=>?_,qs++[(x,⟨(i:Int),0,0,h,o,l,r',[],[],[],[]⟩)],by rw[ZF];rfl,by rw[ZE,ql];rfl,λj q G e=>?_,λq hq=>?_,?_⟩⟩;(.rw[Ab (λz=>by rw[z,HW] at e;cases e)];exact s3 _ _ (s2 _ _ e));(.by_cases z:j<qs.length;(.rw[LO z] at e;exact em j q G e);.rw[List.getElem?_append_right (by lia)] at e;(have zj:j-qs.length=0:=by rcases Nat.eq_zero_or_pos (j-qs.length) with h|h;(.exact h);.rw[CC (by simp;lia)] at e;cases e);rw[zj] at e;(have e:(x,(⟨(i:Int),0,0,h,o,l,r',[],[],[],[]⟩:BS))=(q,G):=by simpa using e);(have ej:j=i:=by lia);rw[ej,<-(Prod.mk.inj e).2];exact⟨_,_,_,_,rfl⟩);(·(have all:∀q∈qs++[(x,(⟨(i:Int),0,0,h,o,l,r',[],[],[],[]⟩:BS))],AQ C H3 q.1 q.2:=λq hq=>by rcases ZI hq with hq|hq;(.exact(ho q hq).same s3);.rw[ZK hq];exact S3);have rW:=all q hq;have ne:=rW.QF YA;exact rW.keep λb o hb e=>by rw[Ab (λz=>by rw[z] at hb;exact hb.elim ne.1 ne.2)];exact e);·(have a1:Lies H3 ((x::BG ⟨(i:Int),0,0,h,o,l,r',[],[],[],[]⟩)++(Bw qs++[r,p])):=by refine li.add (AV.mpr ⟨λm=>S3.OK m rfl,S3.nd⟩) (λb hb=>?_) (λb hb=>?_) λb o e=>⟨o,s3 b o e⟩;(.rcases ZM hb with rfl|hb;(.exact nx);.simp only[BG,E',BZ,DN,KW] at hb;rcases hb with rfl|rfl|rfl|rfl;(.exact Cq aq fh);(.exact Cq aq fo);(.exact Cq aq fl);.exact Cq aq fr);.rcases ZM hb with rfl|hb;(.obtain⟨d,e⟩:=S3.ob;exact⟨_,e⟩);.obtain⟨kv,e⟩:=S3.KO hb;exact⟨_,e⟩);(have a2:Bw (qs++[(x,(⟨(i:Int),0,0,h,o,l,r',[],[],[],[]⟩:BS))])++[r,p]=(Bw qs++(x::BG ⟨(i:Int),0,0,h,o,l,r',[],[],[],[]⟩))++[r,p]:=by rw[F9];show(Bw qs++((x::BG ⟨(i:Int),0,0,h,o,l,r',[],[],[],[]⟩)++[]))++[r,p]=_;rw[AH]);rw[a2];refine((a1.perm ?_).keep λb o e=>?_);(.rw[<-AW];exact NT _ GF);.by_cases z:b=r;(.rw[z];exact⟨_,Ac⟩);.exact⟨o,by rw[Ab z];exact e⟩
 .rintro ys H2 ⟨er,s2,qs,rfl,ql,em,ho,li⟩;have FH:=s2 _ _ h1;have l1:=Ay "share" (.int sh) [];refine⟨_,rfl,p,CW,dx,_,rfl,FH,TW.cl,TW.nH,(by simp only[BN] at l1;lia),?_⟩;have l2:=Ay "houses" (.ref r) (Aq "share" (.int sh) []);have k3:Kp p H2 (upd H2 p (.ins CW dx (Aq "houses" (.ref r) (Aq "share" (.int sh) [])))):=dX;have OH:(upd H2 p (.ins CW dx (Aq "houses" (.ref r) (Aq "share" (.int sh) [])))) p=some (.ins CW dx (Aq "houses" (.ref r) (Aq "share" (.int sh) []))):=Ac;generalize upd H2 p (.ins CW dx (Aq "houses" (.ref r) (Aq "share" (.int sh) [])))=H3 at k3 OH;have xh:=li.keep (k3.ex ⟨_,OH⟩);intro po fY dw oZ JGd;refine⟨po,fY,rfl,Ac,λpd H4 eO P4 rD=>⟨rfl,?_⟩⟩;(have qR:Bi H3 (upd (upd H3 fY (.own po)) po (.ins CP fY [])):=λb o e=>by rw[Ab (Ak e dw),Ab (Ak e oZ)];exact e);have s4:Bi H3 H4:=λb o e=>rD b o (qR b o e) (Ak e dw);have eQ:=s4 _ _ OH;(have xg:Lies H4 (pd::po::(Bw qs++[r,p])):=by have a:=xh.new (b:=po) (H':=upd (upd H3 fY (.own po)) po (.ins CP fY [])) dw ⟨_,Ac⟩ λb o e=>⟨o,qR b o e⟩;refine a.new eO ⟨_,P4.dc⟩ λb o e=>?_;by_cases z:b=po;(.rw[z];obtain⟨d,e2⟩:=P4.ob;exact⟨_,e2⟩);.exact⟨o,rD b o e z⟩);refine⟨_,rfl,p,CW,dx,_,rfl,eQ,TW.cl,TW.nP,(by simp only[BN] at l1;lia),?_⟩;have l3:=Ay "post" (.ref po) (Aq "houses" (.ref r) (Aq "share" (.int sh) []));have k5:Kp p H4 (upd H4 p (.ins CW dx (Aq "post" (.ref po) (Aq "houses" (.ref r) (Aq "share" (.int sh) []))))):=dX;have WZ:(upd H4 p (.ins CW dx (Aq "post" (.ref po) (Aq "houses" (.ref r) (Aq "share" (.int sh) []))))) p=some (.ins CW dx (Aq "post" (.ref po) (Aq "houses" (.ref r) (Aq "share" (.int sh) [])))):=Ac;generalize upd H4 p (.ins CW dx (Aq "post" (.ref po) (Aq "houses" (.ref r) (Aq "share" (.int sh) []))))=H5 at k5 WZ;have xc:=xg.keep (k5.ex ⟨_,WZ⟩);intro iq lW;have q_:=xc.new (H':=upd H5 iq (.dK [])) lW ⟨_,Ac⟩ λb o e=>⟨o,Ai lW b o e⟩;have fV:(upd H5 iq (.dK [])) iq=some (.dK []):=Ac;have s6:=Ai (o:=.dK []) lW;generalize upd H5 iq (.dK [])=H6 at q_ fV s6;refine⟨_,rfl,p,CW,dx,_,rfl,s6 _ _ WZ,TW.cl,TW.nI,(by simp only[BN] at l1;lia),?_⟩;have l4:=Ay "inquiries" (.ref iq) (Aq "post" (.ref po) (Aq "houses" (.ref r) (Aq "share" (.int sh) [])));have k7:Kp p H6 (upd H6 p (.ins CW dx (Aq "inquiries" (.ref iq) (Aq "post" (.ref po) (Aq "houses" (.ref r) (Aq "share" (.int sh) [])))))):=dX;have eP:(upd H6 p (.ins CW dx (Aq "inquiries" (.ref iq) (Aq "post" (.ref po) (Aq "houses" (.ref r) (Aq "share" (.int sh) [])))))) p=some (.ins CW dx (Aq "inquiries" (.ref iq) (Aq "post" (.ref po) (Aq "houses" (.ref r) (Aq "share" (.int sh) []))))):=Ac;generalize upd H6 p (.ins CW dx (Aq "inquiries" (.ref iq) (Aq "post" (.ref po) (Aq "houses" (.ref r) (Aq "share" (.int sh) [])))))=H7 at k7 eP;have xb:=q_.keep (k7.ex ⟨_,eP⟩);intro fi lb;have q8:=xb.new (H':=upd H7 fi (.dK [])) lb ⟨_,Ac⟩ λb o e=>⟨o,Ai lb b o e⟩;have tV:(upd H7 fi (.dK [])) fi=some (.dK []):=Ac;have s8:=Ai (o:=.dK []) lb;generalize upd H7 fi (.dK [])=H8 at q8 tV s8;refine⟨_,rfl,p,CW,dx,_,rfl,s8 _ _ eP,TW.cl,TW.nF,(by simp only[BN] at l1;lia),?_⟩;have l5:=Ay "finds" (.ref fi) (Aq "inquiries" (.ref iq) (Aq "post" (.ref po) (Aq "houses" (.ref r) (Aq "share" (.int sh) []))));have k9:Kp p H8 (upd H8 p (.ins CW dx (Aq "finds" (.ref fi) (Aq "inquiries" (.ref iq) (Aq "post" (.ref po) (Aq "houses" (.ref r) (Aq "share" (.int sh) []))))))):=dX;have XS:(upd H8 p (.ins CW dx (Aq "finds" (.ref fi) (Aq "inquiries" (.ref iq) (Aq "post" (.ref po) (Aq "houses" (.ref r) (Aq "share" (.int sh) []))))))) p=some (.ins CW dx (Aq "finds" (.ref fi) (Aq "inquiries" (.ref iq) (Aq "post" (.ref po) (Aq "houses" (.ref r) (Aq "share" (.int sh) [])))))):=Ac;generalize upd H8 p (.ins CW dx (Aq "finds" (.ref fi) (Aq "inquiries" (.ref iq) (Aq "post" (.ref po) (Aq "houses" (.ref r) (Aq "share" (.int sh) []))))))=H9 at k9 XS;have xa:=q8.keep (k9.ex ⟨_,XS⟩);intro en lg;have gQ:=xa.new (H':=upd H9 en (.dK [])) lg ⟨_,Ac⟩ λb o e=>⟨o,Ai lg b o e⟩;have tX:(upd H9 en (.dK [])) en=some (.dK []):=Ac;have dt:=Ai (o:=.dK []) lg;generalize upd H9 en (.dK [])=HA at gQ tX dt;refine⟨_,rfl,p,CW,dx,_,rfl,dt _ _ XS,TW.cl,TW.nE,(by simp only[BN] at l1;lia),?_⟩;have kB:Kp p HA (upd HA p (.ins CW dx (Aq "enclosed" (.ref en) (Aq "finds" (.ref fi) (Aq "inquiries" (.ref iq) (Aq "post" (.ref po) (Aq "houses" (.ref r) (Aq "share" (.int sh) [])))))))):=dX;have rX:(upd HA p (.ins CW dx (Aq "enclosed" (.ref en) (Aq "finds" (.ref fi) (Aq "inquiries" (.ref iq) (Aq "post" (.ref po) (Aq "houses" (.ref r) (Aq "share" (.int sh) [])))))))) p=some (.ins CW dx (Aq "enclosed" (.ref en) (Aq "finds" (.ref fi) (Aq "inquiries" (.ref iq) (Aq "post" (.ref po) (Aq "houses" (.ref r) (Aq "share" (.int sh) []))))))):=Ac;generalize upd HA p (.ins CW dx (Aq "enclosed" (.ref en) (Aq "finds" (.ref fi) (Aq "inquiries" (.ref iq) (Aq "post" (.ref po) (Aq "houses" (.ref r) (Aq "share" (.int sh) [])))))))=HB at kB rX;have nd:=gQ.nd;(have pm:(en::fi::iq::pd::po::(Bw qs++[r,p])).Perm ([p,r,po,pd,iq,fi,en]++Bw qs):=by have a:(Bw qs++[r,p]).Perm ([r,p]++Bw qs):=GF;have b:(en::fi::iq::pd::po::(Bw qs++[r,p])).Perm ([en,fi,iq,pd,po,r,p]++Bw qs):=((((a.cons po).cons pd).cons iq).cons fi).cons en;refine b.trans (NT _ ?_);exact(List.reverse_perm [p,r,po,pd,iq,fi,en]));have KH:=pm.nodup_iff.mp nd;have rE:Kp p H9 HB:=Kp.trans (λb o e _=>dt b o e) kB;have rF:Kp p H7 HB:=Kp.trans (Kp.trans (λb o e _=>s8 b o e) k9) rE;have xp:Kp p H5 HB:=Kp.trans (Kp.trans (λb o e _=>s6 b o e) k7) rF;have ki:Kp p H4 HB:=k5.trans xp;have kj:Kp p H2 HB:=(k3.trans (λb o e _=>s4 b o e)).trans ki;have tn:=(AO.mp KH).1;simp only[AV,BZ,DN,KW,not_or,CN,and_true,not_false_eq_true] at tn;obtain⟨⟨a1,a2,a3,a4,a5,a6⟩,_⟩:=tn;have cu:∀b∈Bw qs,b≠p:=λb hb z=>(AO.mp KH).2.2 p (by simp) b hb z.symm;refine k ⟨sh,r,po,iq,fi,en,pd,0,[],qs,[],[],[]⟩ HB ⟨⟨dx,by rw[rX,<-Jf4]⟩,kj _ _ er (Ne.symm a1),λq hq=>(ho q hq).keep λb o hb e=>kj b o e (cu b (CG.mpr ⟨q,hq,hb⟩)),P4.keep (λo e=>ki _ _ e (Ne.symm a2)) (λo e=>ki _ _ e (Ne.symm a3)),(k7.trans rF) _ _ fV (Ne.symm a4),(k9.trans rE) _ _ tV (Ne.symm a5),kB _ _ tX (Ne.symm a6),KH⟩ rfl rfl rfl rfl rfl rfl ql em λb u e hb=>kj b u (s2 b u (k1 b u e hb)) hb
theorem LK:Ao ["self","n","letter","kind"] ["self","n"] (Aj Hi):={}
def Md(CW C CP Cn NW:Addr):Sp:=λvs H Q E=>∃(p b:Addr)(h g:Int)(W:FZ)(tb:T2)(q:Addr)(G:BS),vs=[.ref p,.int h,.int g,.ref b]/\AN CW C CP H p W/\H b=some (.BC (tv tb))/\IH W h q G/\(∃q2 G2,IH W g q2 G2)/\G.AF.length<=500/\G.AM.length<=500/\W.ls.length<=500 /\
 ((tb∉G.hand/\E (.ref Cn) none H) \/
  (tb∈G.hand/\tb.1=G.BP/\∃o,G.AF.find? (λq=>decide (q.1=tb))=some (tb,o)/\G.AM.find? (λq=>decide (q.1=tb))=none /\
   ∀(t:Addr)(H':Hp),AN CW C CP H' p { W with qs:=W.qs.set h.toNat (q,{ G with AZ:=G.AZ+1,AF:=Ba G.AF tb (o+W.share) }),c:=W.c+1,ls:=W.ls++[(W.c+1,t)] }->II H' t (W.c+1) "hold" h g tb W.share->F_ p W H H'->Q (.int (W.c+1)) H') \/
  (tb∈G.hand/\tb.1≠G.BP/\∃wt,G.AM.find? (λq=>decide (q.1=tb))=some (tb,wt)/\((wt=0/\E (.ref NW) none H) \/
   (wt=1/\∀(t:Addr)(H':Hp),AN CW C CP H' p { W with qs:=W.qs.set h.toNat (q,{ G with AZ:=G.AZ+1,AM:=Ba G.AM tb 0 }),c:=W.c+1,ls:=W.ls++[(W.c+1,t)] }->II H' t (W.c+1) "pass" h tb.1 tb g->F_ p W H H'->Q (.int (W.c+1)) H') \/
   (2<=wt/\∀(t:Addr)(H':Hp),AN CW C CP H' p { W with qs:=W.qs.set h.toNat (q,{ G with AZ:=G.AZ+1,AM:=Ba G.AM tb (wt-wt / 2) }),c:=W.c+1,ls:=W.ls++[(W.c+1,t)] }->II H' t (W.c+1) "hold" h g tb (wt / 2)->F_ p W H H'->Q (.int (W.c+1)) H'))))
theorem QK:Ao ["self","h","g","b","house","weight"] ["self","h","g","b"] (Aj Rn):={}
theorem Qg(h:l.find? (λq=>decide (q.1=t))=some (t,w)):(Ba l t v).find? (λq=>decide (q.1=t))=some (t,v):=by have m:t∈l.map (·.1):=AI.mpr ⟨_,AX h,rfl⟩;unfold Ba;rw[AE m];clear m;induction l with | nil=>simp at h | cons q l ih =>rw[AK];by_cases e:q.1=t;(.rw[AE e,BR];simp[e]);.rw[AB e,BR];rw[BR] at h;simp only[e,decide_false] at h ⊢;exact ih h
theorem Jb1(F:EK K "send" "World.send" Rn f fd)(T:Txt K mg C Cn DO MI NW)(TW:Ek K mg CW NH NI)(TP:Kt K mg CP NL)(MH:CO K CW "house" "World.house" D0 ["self","h"] fH dH)(M1:CO K C "part" "House.part" Ya ["self","b","share"] f1 d1)(G1:EU P w K mg base 3 f1 d1 ["self","b","share"] (Wd C Cn NW))(M2:CO K C "is_spent" "House.is_spent" Ru ["self","thing"] f2 d2)(M3:CO K CP "put" "Post.put" Js ["self","kind","sender","goal","about"] f3 d3) : EU P w K mg base 4 f fd ["self","h","g","b"] (Md CW C CP Cn NW):=by
 have GH:EU P w K mg base 1 fH dH ["self","h"] (Dt CW C CP NH):=Do MH.fn T TW;have G2:EU P w K mg base 1 f2 d2 ["self","thing"] (Xx C):=FX.DZ.RO (Jca M2.fn T);have G3:EU P w K mg base 1 f3 d3 ["self","kind","sender","goal","about"] (Fn CP):=FX.DZ.RO (Hs M3.fn TP);refine F5 F QK λvs H Q E h=>?_;obtain⟨p,b,h,g,W,tb,q,G,rfl,S,hb,i,⟨q2,n5,i2⟩,z1,z2,z3,k⟩:=h;refine⟨rfl,λDP A outer s hr=>?_⟩;have GO:CU 1 _:=hr.mono (by decide);obtain⟨dx,hp⟩:=S.ob;refine⟨_,Ad (Aw (i:=4) QK.nd rfl (Or.inl rfl) (Ap (pl:=_) (pv 0) TW.cl MH.mt GH GO MH.bd .nil Bm (Aa (pv 1) Af))) (Ad (A5 (Ap (pl:=_) (pv 0) TW.cl MH.mt GH GO MH.bd .nil Bm (Aa (pv 2) Af))) (Ad (Aw (i:=5) QK.nd rfl (Or.inl rfl) (Ap (pl:=_) (pv 4) T.cl M1.mt G1 hr M1.bd .nil Bm (Aa (pv 3) (Aa (An (pv 0) rfl) Af)))) (Ad (Bf (Eu (Ap (pl:=_) (pv 4) T.cl M2.mt G2 GO M2.bd .nil Bm (Aa (pv 3) Af))) (Ae (Ar (Ap (pl:=_) (An (pv 0) rfl) TP.cl M3.mt G3 GO M3.bd .nil Bm (Aa Bk (Aa (pv 1) (Aa (Az Av (pv 3) Ah) (Aa (Ca (Aa (pv 3) (Aa (pv 2) Af))) Af))))))) A4) (Ae (Ar (Ap (pl:=_) (An (pv 0) rfl) TP.cl M3.mt G3 GO M3.bd .nil Bm (Aa Bk (Aa (pv 1) (Aa (pv 2) (Aa (Ca (Aa (pv 3) (Aa (pv 5) Af))) Af)))))))))),?_⟩;obtain⟨EJ,hq⟩:=(i.at S).ob;refine⟨_,rfl,p,dx,_,rfl,hp,C4 W ZV,_,rfl,p,h,W,rfl,S,.inr ⟨q,G,i,_,rfl,p,dx,_,rfl,hp,C4 W ZV,_,rfl,p,g,W,rfl,S,.inr ⟨q2,n5,i2,?_⟩⟩⟩;refine⟨_,rfl,q,EJ,_,rfl,hq,By G ZV,_,rfl,_,rfl,p,CW,dx,_,_,rfl,hp,TW.cl,TW.nS,Gw W,q,b,G,tb,W.share,rfl,i.at S,hb,z1,z2,?_⟩;rcases k with k|⟨h1,h2,o,h3,h4,k⟩|⟨h1,h2,wt,h3,k⟩;.exact .inl k
 .refine .inr (.inl ⟨h1,h2,o,h3,λH1 S1 JT=>?_⟩);obtain⟨W1,FU⟩:=S.step i.2 S1 JT λb hb=>.inl hb;have MO:=F_.DS S FU;obtain⟨HZ,aE⟩:=S1.ob;refine⟨_,rfl,q,HZ,_,rfl,aE,By _ ZV,_,rfl,q,b,_,tb,rfl,S1,MO.BC _ _ hb,_,rfl,?_⟩;(have e4:decide (((G.AM.find? (λq=>decide (q.1=tb))).map (·.2))=some 0)=false:=by rw[h4];rfl);rw[e4];refine Cd ?_;obtain⟨ND,OH⟩:=W1.ob;obtain⟨VN,a8⟩:=W1.po.ob;refine⟨_,rfl,p,CW,ND,_,_,rfl,OH,TW.cl,TW.nP,Dz _,W.po,VN,_,rfl,a8,C8 _ _ ZV ZV,_,rfl,_,rfl,_,rfl,_,rfl,(by show 2<=sizeLine;decide),λa ha=>?_⟩;have s2:=Ai (o:=.BC [V.ref b,V.int W.share]) ha;have W2:=W1.same s2;refine⟨W.po,W.pd,W.c,W.ls,_,_,_,_,rfl,W2.po,z3,λt H3 ht et S3 NY=>?_⟩;obtain⟨W3,SV⟩:=W2.IE S3 NY;have QP:=F_.DS W2 SV;refine k t H3 W3 ⟨a,b,et,QP.BC _ _ Ac,QP.BC _ _ (s2 _ _ (MO.BC _ _ hb))⟩ λb' o' e' HM=>?_;exact NY b' o' (s2 _ _ (FU b' o' e' HM)) (λz=>HM (ZB _ (by rw[z];simp[B5]))) λz=>HM (ZB _ (by rw[z];simp[B5]))
 .refine .inr (.inr ⟨h1,h2,wt,h3,?_⟩);rcases k with k|⟨rfl,k⟩|⟨h4,k⟩;(.exact .inl k);(.refine .inr ⟨by decide,λH1 S1 JT=>?_⟩;(have eg:(1:Int)-Ga 1=0:=by decide);rw[eg] at S1;obtain⟨W1,FU⟩:=S.step i.2 S1 JT λb hb=>.inl hb;have MO:=F_.DS S FU;obtain⟨HZ,aE⟩:=S1.ob;refine⟨_,rfl,q,HZ,_,rfl,aE,By _ ZV,_,rfl,q,b,_,tb,rfl,S1,MO.BC _ _ hb,_,rfl,?_⟩;(have e4:decide ((((Ba G.AM tb 0).find? (λq=>decide (q.1=tb))).map (·.2))=some 0)=true:=by rw[Qg h3];rfl);rw[e4];refine Ck ?_;obtain⟨ND,OH⟩:=W1.ob;obtain⟨VN,a8⟩:=W1.po.ob;have jY:=MO.BC _ _ hb;refine⟨_,rfl,p,CW,ND,_,_,rfl,OH,TW.cl,TW.nP,Dz _,W.po,VN,_,rfl,a8,C8 _ _ ZV ZV,_,rfl,_,rfl,b,_,_,_,rfl,rfl,CL.of jY,rfl,_,rfl,_,rfl,(by show 2<=sizeLine;decide),λa ha=>?_⟩;have s2:=Ai (o:=.BC [V.ref b,V.int g]) ha;have W2:=W1.same s2;refine⟨W.po,W.pd,W.c,W.ls,_,_,_,_,rfl,W2.po,z3,λt H3 ht et S3 NY=>?_⟩;obtain⟨W3,SV⟩:=W2.IE S3 NY;have QP:=F_.DS W2 SV;refine k t H3 W3 ⟨a,b,et,QP.BC _ _ Ac,QP.BC _ _ (s2 _ _ jY)⟩ λb' o' e' HM=>?_;exact NY b' o' (s2 _ _ (FU b' o' e' HM)) (λz=>HM (ZB _ (by rw[z];simp[B5]))) λz=>HM (ZB _ (by rw[z];simp[B5])));.refine .inr ⟨by lia,λH1 S1 JT=>?_⟩;(have eg:Ga wt=wt / 2:=by unfold Ga;rw[AB (by lia)]);rw[eg] at S1;obtain⟨W1,FU⟩:=S.step i.2 S1 JT λb hb=>.inl hb;have MO:=F_.DS S FU;obtain⟨HZ,aE⟩:=S1.ob;refine⟨_,rfl,q,HZ,_,rfl,aE,By _ ZV,_,rfl,q,b,_,tb,rfl,S1,MO.BC _ _ hb,_,rfl,?_⟩;(have e4:decide ((((Ba G.AM tb (wt-wt / 2)).find? (λq=>decide (q.1=tb))).map (·.2))=some 0)=false:=by rw[Qg h3];refine AG λz=>?_;have:wt-wt / 2=0:=ZO z;lia);rw[e4];refine Cd ?_;obtain⟨ND,OH⟩:=W1.ob;obtain⟨VN,a8⟩:=W1.po.ob;have jY:=MO.BC _ _ hb;refine⟨_,rfl,p,CW,ND,_,_,rfl,OH,TW.cl,TW.nP,Dz _,W.po,VN,_,rfl,a8,C8 _ _ ZV ZV,_,rfl,_,rfl,_,rfl,_,rfl,(by show 2<=sizeLine;decide),λa ha=>?_⟩;rw[eg] at *;have s2:=Ai (o:=.BC [V.ref b,V.int (wt / 2)]) ha;have W2:=W1.same s2;refine⟨W.po,W.pd,W.c,W.ls,_,_,_,_,rfl,W2.po,z3,λt H3 ht et S3 NY=>?_⟩;obtain⟨W3,SV⟩:=W2.IE S3 NY;have QP:=F_.DS W2 SV;refine k t H3 W3 ⟨a,b,et,QP.BC _ _ Ac,QP.BC _ _ (s2 _ _ jY)⟩ λb' o' e' HM=>?_;exact NY b' o' (s2 _ _ (FU b' o' e' HM)) (λz=>HM (ZB _ (by rw[z];simp[B5]))) λz=>HM (ZB _ (by rw[z];simp[B5]))
end
structure Zl(H:Hp)(c h:Int)(L:List (Int×Addr))(bs:List (T2×Int)):Prop where
 BP:L.map (·.1)=(List.range bs.length).map λ(i:Nat)=>c+1+(i:Int)
 MQ:Paired (λ(y:Int×Addr)(q:T2×Int)=>II H y.2 y.1 "back" h q.1.1 q.1 q.2) L bs
section
def Me(CW C CP:Addr):Sp:=λvs H Q _=>∃(p l:Addr)(h:Int)(W:FZ)(as:List Addr)(bs:List (T2×Int)),vs=[.ref p,.int h,.ref l]/\AN CW C CP H p W/\H l=some (.BI (as.map V.ref))/\l∉Cb p W/\HP H as bs/\bs.length<=60/\W.ls.length<=400 /\
 ∀(x:Addr)(L:List (Int×Addr))(H':Hp),AN CW C CP H' p { W with c:=W.c+(bs.length:Nat),ls:=W.ls++L }->Zl H' W.c h L bs->F_ p W H H'->x≠W.hs->Tz p W H x->H' x=some (.BI (L.map λy=>V.int y.1))->Q (.ref x) H'
theorem Jd3:Ao ["self","h","records"] ["self","h","records"] (Aj Nf):={}
def ui(CP:Addr)(K:W.Frag):TE:=Pi CP "put" (Fn CP) [] E0 (Q0 K (B6 2) "post") (De (tC (.str "back")) (De (B6 1) (De (RR (f' K) (RR (f' K) (B6 0) (tC (.int 0))) (tC (.int 0))) (De (B6 0) Kv))))
theorem Jb6(F:EK K "give_back" "World.give_back" Nf f fd)(TW:Ek K mg CW NH NI)(TP:Kt K mg CP NL)(M3:CO K CP "put" "Post.put" Js ["self","kind","sender","goal","about"] f3 d3):CV P w K mg base 2 f fd ["self","h","records"] (Me CW C CP):=by
 have G3:CV P w K mg base 1 f3 d3 ["self","kind","sender","goal","about"] (Fn CP):=Hs M3.fn TP;refine F.IQ Jd3 λvs H Q E h=>?_;obtain⟨p,l,h,W,as,bs,rfl,S,el,xZ,bk,zb,zl,k⟩:=h;refine⟨rfl,λDP A outer s hr=>?_⟩;have rC:=Paired.length bk;refine⟨_,Ae (Ar (En (te:=ui CP K) (caps:=[("h",1),("self",0)]) rfl (Dl (pv 2)) rfl ZV rfl ZV rfl ⟨rfl,rfl,trivial⟩ (λy h=>Jkj ⟨_,rfl⟩ ⟨_,rfl⟩ h) ⟨⟨rfl,rfl,rfl,rfl⟩,⟨rfl,rfl,rfl,rfl⟩,trivial⟩ ZV (λ_ _ _ _ _=>Ml) (λ_ _ _ _ _=>Ap (pl:=_) (An (pv 2) rfl) TP.cl M3.mt G3 hr M3.bd .nil Bb (Aa Bk (Aa (pv 1) (Aa (Az Av (Az Av (pv 0) Ah) Ah) (Aa (pv 0) Af))))))),?_⟩;refine⟨_,rfl,l,rfl,⟨_,EC.of el⟩,λr HW=>?_⟩;have s0:=Ai (o:=.BI []) HW;have wz:l≠r:=Ak el HW;have cU:r∉Cb p W:=S.ME HW;have S0:AN CW C CP (upd H r (.BI [])) p { W with c:=W.c+((0:Nat):Int),ls:=W.ls++[] }:=by rw[show W.c+((0:Nat):Int)=W.c by simp,AH];exact S.same s0
 refine Gb (K:=K) (a:=l) (xs:=as.map V.ref) (tt:=λ_ H Q=>Q true H) (te:=ui CP K) (caps:=[("h",1),("self",0)]) (σ:=[some (.ref p),some (.int h),some (.ref l)]) (λi ys H2=>H2 r=some (.BI ys)/\H2 l=some (.BI (as.map V.ref))/\∃L,ys=L.map (λy=>V.int y.1)/\AN CW C CP H2 p { W with c:=W.c+(i:Nat),ls:=W.ls++L }/\Zl H2 W.c h L (bs.take i)/\HP H2 as bs/\F_ p W H H2) ⟨Ac,s0 _ _ el,[],rfl,S0,⟨rfl,.nil⟩,bk.keep (HN s0),λb o e _=>s0 b o e⟩ (λi ys H2 _ h=>⟨EC.of h.2.1,h.1⟩) ?_ ?_;.rintro i v ys H2 N hi ⟨er,tR,L,rfl,W2,b2,my,MN⟩ hN;refine Ck ?_;rw[ZH] at hi;cases XX:as[i]? with | none=>rw[XX] at hi;cases hi | some ai =>rw[XX] at hi;cases hi;(have yd:i<bs.length:=by rw[<-rC];exact(ZJ XX).1);obtain⟨q,hq⟩:=Au yd;obtain⟨cc,ea,ec⟩:=Ax my i ai q XX hq;(have lL:L.length=i:=by have:=Paired.length b2.MQ;rw[B_] at this;lia);obtain⟨HZ,FH⟩:=W2.ob;obtain⟨ND,aD⟩:=W2.po.ob;refine⟨_,rfl,p,CW,HZ,_,_,rfl,FH,TW.cl,TW.nP,Dz _,W.po,ND,_,rfl,aD,C8 _ _ ZV ZV,_,rfl,_,rfl,ai,_,_,_,rfl,rfl,CL.of ea,rfl,cc,_,_,_,rfl,rfl,CL.of ec,rfl,_,rfl,?_⟩;refine⟨W.po,W.pd,_,_,_,_,_,_,rfl,W2.po,(by rw[ZE,lL];lia),λt H4 ht et S4 UB=>?_⟩;obtain⟨W4,OW⟩:=W2.IE S4 UB;have LB:=F_.DS W2 OW;have NC:H4 r=some (.BI (L.map λy=>V.int y.1)):=OW _ _ er cU;have VM:H4 l=some (.BI (as.map V.ref)):=OW _ _ tR xZ;(have kq:BU H4 (upd H4 r (.BI (L.map (λy=>V.int y.1)++[V.int (W.c+(i:Nat)+1)]))):=OI λo' e=>by rw[NC] at e;cases e;exact⟨λ_ z=>(by cases z),λ_ _ z=>(by cases z)⟩);refine⟨NC,A7 (by rw[ZA];lia),hN _ _ ⟨Ac,by rw[Ab wz];exact VM,L++[(W.c+(i:Nat)+1,t)],by rw[ZF];rfl,?_,?_,my.keep (LB.trans kq),λb' o' e' HM=>?_⟩⟩;(·(have e1:W.c+((i+1:Nat):Int)=W.c+(i:Nat)+1:=by lia);rw[e1,<-AW];exact W4.keep λb o hb e=>by rw[Ab (λz=>cU (by rw[<-z];exact hb))];exact e);(.rw[DE,hq];refine⟨?_,Es ?_ (As (λ_ _ rr=>rr.keep (LB.trans kq)) b2.MQ)⟩;(.have n1:=b2.BP;(have n2:(bs.take i).length=i:=by rw[B_];lia);rw[n2] at n1;rw[ZF,n1,ZE,n2];show _=(List.range (i+1)).map _;rw[DT,ZF];congr 1;show [W.c+(i:Nat)+1]=[W.c+1+(i:Int)];congr 1;lia);.exact⟨ai,cc,kq.BC _ _ et,kq.BC _ _ (LB.BC _ _ ea),kq.BC _ _ (LB.BC _ _ ec)⟩);·(have fA:b'≠r:=λz=>by rw[z] at e';rw[HW] at e';cases e');rw[Ab fA];exact OW b' o' (MN b' o' e' HM) HM
 .rintro ys H2 ⟨er,tR,L,rfl,W2,b2,my,MN⟩;rw[ZA,rC] at W2 b2;rw[BM] at b2;exact k r L H2 W2 b2 MN (λz=>cU (by rw[z];exact ZB _ (by simp[B5]))) (λb o e _ z=>by rw[<-z,e] at HW;cases HW) er
theorem Iw:∀b∈BG (HV (GV (keepR G R))),b∈BG G:=λb hb=>by unfold BG at hb ⊢;have hb:b∈G.h::G.o::G.l::G.r::(G.holds.filter (λq=>decide (q.1∈R))).map (·.2.1):=hb;simp only[BZ] at hb ⊢;rcases hb with h|h|h|h|h;(.exact .inl h);(.exact .inr (.inl h));(.exact .inr (.inr (.inl h)));(.exact .inr (.inr (.inr (.inl h))));.obtain⟨q,hq,e⟩:=ZN h;exact .inr (.inr (.inr (.inr (AI.mpr ⟨q,(AD.mp hq).1,e⟩))))
def Jk(CW C CP:Addr):Sp:=λvs H Q _=>∃(p:Addr)(h:Int)(W:FZ)(q:Addr)(G:BS)(n m:Nat)(rs:List (T2×Int))(R:List T2),vs=[.ref p,.int h]/\AN CW C CP H p W/\IH W h q G/\Ok G n/\n<=62/\(∀t∈G.hand,RU t)/\(∀q∈G.holds,∀t∈q.2.2,RU t)/\rs.Perm G.AM/\(rs.map (·.1)).Pairwise IS /\
 KQ (NX G.holds) m (startT G) [] R/\m<=5000/\Ok (keepR G R) n/\(Bs (keepR G R) rs).length<=60/\W.ls.length<=400 /\
 ∀(x:Addr)(L:List (Int×Addr))(H':Hp),AN CW C CP H' p { W with qs:=W.qs.set h.toNat (q,HV (GV (keepR G R))),c:=W.c+((Bs (keepR G R) rs).length:Nat),ls:=W.ls++L }->Zl H' W.c h L (Bs (keepR G R) rs)->F_ p W H H'->x≠W.hs->Tz p W H x->H' x=some (.BI (L.map λy=>V.int y.1))->Q (.ref x) H'
theorem Jbj:Ao ["self","h"] ["self","h"] (Aj Mf):={}
theorem Z1(F:EK K "clean" "World.clean" Mf f fd)(T:Txt K mg C Cn DO MI NW)(TW:Ek K mg CW NH NI)(MH:CO K CW "house" "World.house" D0 ["self","h"] fH dH)(M1:CO K C "clean" "House.clean" R1 ["self"] f1 d1)(G1:CV P w K mg base 2 f1 d1 ["self"] (Rj C))(M2:CO K CW "give_back" "World.give_back" Nf ["self","h","records"] f2 d2)(G2:CV P w K mg base 2 f2 d2 ["self","h","records"] (Me CW C CP)):CV P w K mg base 3 f fd ["self","h"] (Jk CW C CP):=by
 have GH:CV P w K mg base 1 fH dH ["self","h"] (λvs H Q _=>Dt CW C CP NH vs H Q E0):=FX.DZ.no (Do MH.fn T TW);refine F.IQ Jbj λvs H Q E h=>?_;obtain⟨p,h,W,q,G,n,m,rs,R,rfl,S,i,ok,zn,XQ,XO,pm,pw,rc,zm,VD,zb,zl,k⟩:=h;refine⟨rfl,λDP A outer s hr=>?_⟩;have GO:CU 1 _:=hr.mono (by decide);obtain⟨dx,hp⟩:=S.ob;obtain⟨EJ,hq⟩:=(i.at S).ob;refine⟨_,Ae (Ar (Ap (pl:=_) (pv 0) TW.cl M2.mt G2 hr M2.bd .nil Bb (Aa (pv 1) (Aa (C9 (pl:=_) (Ap (pl:=_) (pv 0) TW.cl MH.mt GH GO MH.bd .nil Bb (Aa (pv 1) Af)) T.cl M1.mt G1 hr M1.bd .nil Bb) Af)))),?_⟩;refine⟨_,rfl,p,dx,_,rfl,hp,C4 W ZV,_,rfl,_,rfl,p,dx,_,rfl,hp,C4 W ZV,_,rfl,p,h,W,rfl,S,.inr ⟨q,G,i,q,EJ,_,rfl,hq,By G ZV,q,G,n,m,rs,R,rfl,i.at S,ok,zn,XQ,XO,pm,pw,rc,zm,VD,λx as H1 nx ex bk S1 JT=>?_⟩⟩;obtain⟨W1,FU⟩:=S.step i.2 S1 JT λb hb=>.inl (Iw b hb);have eN:=S.HG (b:=W.hs) (by simp[B5]) (ZP i.2);have aZ:x≠W.hs:=λz=>nx _ _ S.hs eN.1 eN.2 z.symm;have sub:∀b,b∉Cb p W->b∉Cb p { W with qs:=W.qs.set h.toNat (q,HV (GV (keepR G R))) }:=λb hb m=>by rcases ZI m with m|m;(.exact hb (ZB _ m));.obtain⟨z,hz,hm⟩:=CG.mp m;have hz:z∈W.qs.set h.toNat (q,HV (GV (keepR G R))):=hz;rcases LN hz with hz|rfl;(.exact hb (ZC _ (CG.mpr ⟨z,hz,hm⟩)));.refine hb (ZC _ (CG.mpr ⟨(q,G),ZP i.2,?_⟩));exact hm.imp id λz=>Iw b z
 refine⟨p,x,h,_,as,_,rfl,W1,ex,W1.QE ex aZ,bk,zb,zl,λy L H2 W2 b2 MN aY aX ey=>?_⟩;exact k y L H2 W2 b2 (λb o e hb=>MN b o (FU b o e hb) (sub b hb)) aY (λb o e hb=>aX b o (FU b o e hb) (sub b hb)) ey
end
end K61
namespace FX
open PySem PySem.Spec PyProof.Rows L2
def PH(G:BS)(t:T2):Prop:=t∈G.hand\/∃q∈G.holds,t∈q.2.2
theorem Ki(h:t∈Ce G.holds ta):PH G t:=by unfold Ce at h;cases e:G.holds.find? λq=>decide (q.1=ta) with | none=>rw[e] at h;cases h | some q=>rw[e] at h;exact .inr ⟨q,AX e,h⟩
def YO(m:Nat)(t:T2):Prop:=RU t/\t.1<m
structure Sd(m:Nat)(G:BS)(n:Nat):Prop where
 ok:Ok G n
 nn:∀q∈G.AM,0<=q.2
 ip:∀t,PH G t->YO m t
 rk:∀t,PH G t->t.1≠G.BP->t∈G.AM.map (·.1)
 ir:∀t∈G.AM.map (·.1),YO m t
 n0:0<=G.BP
 n1:G.BP<m
 m0:0<=G.AY
 m1:G.AY<=n
theorem P0(h:q∈Ba l t v):q=(t,v)\/q∈l:=by
 unfold Ba at h;by_cases c:t∈l.map (·.1);.rw[AE c] at h;obtain⟨r,hr,e⟩:=ZN h;by_cases d:r.1=t;(.rw[AE d] at e;exact .inl (by rw[<-e,d]));.rw[AB d] at e;exact .inr (by rw[<-e];exact hr)
 .rw[AB c] at h;rcases ZI h with h|h;(.exact .inr h);.exact .inl (by simpa using h)
theorem Du(l:List (T2×Int))(t:T2)(v:Int):t∈(Ba l t v).map (·.1)/\(∀u∈l.map (·.1),u∈(Ba l t v).map (·.1))/\∀u∈(Ba l t v).map (·.1),u=t\/u∈l.map (·.1):=by
 rw[F0];by_cases c:t∈l.map (·.1);.rw[AE c];exact⟨c,λu hu=>hu,λu hu=>.inr hu⟩
 .rw[AB c];refine⟨ZC _ (by simp),λu hu=>ZB _ hu,λu hu=>?_⟩;rcases ZI hu with hu|hu;(.exact .inr hu);.exact .inl (by simpa using hu)
theorem Cu:∀(l:List (T2×Int))(t u:T2)(v:Int),Ag (Ba l t v) u=if u=t then v else Ag l u:=by
 have app:∀(l:List (T2×Int))(t u:T2)(v:Int),t∉l.map (·.1)->Ag (l++[(t,v)]) u=if u=t then v else Ag l u:=λl t u v h=>by unfold Ag;rw[List.find?_append];by_cases e:u=t;(.rw[AE e,e];(have:l.find? (λq=>decide (q.1=t))=none:=BA.mpr λq hq=>by have:¬q.1=t:=λz=>h (AI.mpr ⟨q,hq,z⟩);simpa using this);rw[this];simp);.rw[AB e];have:¬t=u:=λz=>e z.symm;cases l.find? (λq=>decide (q.1=u))<;>simp[this]
 have mp:∀(l:List (T2×Int))(t u:T2)(v:Int),t∈l.map (·.1)->Ag (l.map λq=>if q.1=t then(q.1,v) else q) u=if u=t then v else Ag l u:=λl t u v h=>by induction l with | nil=>simp at h | cons q l ih =>unfold Ag;rw[AK,BR,BR];by_cases e:q.1=t;(.rw[AE e];by_cases e2:u=t;(.rw[AE e2,e2,e];simp);.rw[AB e2];have n1:¬q.1=u:=λz=>e2 (z▸e);rw[AG n1];by_cases hl:t∈l.map (·.1);(.have:=ih hl;rw[AB e2] at this;exact this);·(have:(l.map λq=>if q.1=t then(q.1,v) else q)=l:=by refine(BY λr hr=>?_).trans (List.map_id l);have:¬r.1=t:=λz=>hl (AI.mpr ⟨r,hr,z⟩);rw[AB this];rfl);rw[this]);.rw[AB e];(have hl:t∈l.map (·.1):=by rcases ZM h with h|h;(.exact absurd h.symm e);.exact h);by_cases e2:q.1=u;(.rw[AJ e2];have:¬u=t:=λz=>e (e2.trans z);rw[AB this]);.rw[AG e2];exact ih hl
 intro l t u v;unfold Ba;by_cases c:t∈l.map (·.1);.rw[AE c];exact mp l t u v c
 .rw[AB c];exact app l t u v c
theorem Dj(l:List (T2×Int))(P:T2->Bool)(t:T2):Ag (l.filter λq=>P q.1) t=if P t=true then Ag l t else 0:=by induction l with | nil=>by_cases c:P t=true<;>simp[c,Ag] | cons q l ih =>rw[DC];by_cases e:q.1=t;(.by_cases c:P q.1=true;(.rw[AE c,AE (by rw[<-e];exact c)];unfold Ag;rw[BR,BR,AJ e]);.rw[AB c,ih,AB (by rw[<-e];exact c),AB (by rw[<-e];exact c)]);·(have e1:Ag (q::l) t=Ag l t:=by unfold Ag;rw[BR,AG e]);rw[e1];by_cases c:P q.1=true;(.rw[AE c];(have:Ag (q::l.filter λq=>P q.1) t=Ag (l.filter λq=>P q.1) t:=by unfold Ag;rw[BR,AG e]);rw[this,ih]);.rw[AB c,ih]
theorem Iv(h:∀q∈l,0<=q.2)(t:T2):0<=Ag l t:=by unfold Ag;cases e:l.find? (λq=>decide (q.1=t)) with | none=>exact A' _ | some q=>exact h q (AX e)
section
theorem Sd.of(x:Sd m G n)(au:Ok G' (n+1))(nu:G'.BP=G.BP)(md:G'.AY=G.AY)(hd:∀t∈G'.hand,PH G t\/(YO m t/\(t.1≠G.BP->t∈G'.AM.map (·.1))))(hl:∀q∈G'.holds,∀t∈q.2.2,PH G t)(nn:∀q∈G'.AM,0<=q.2)(ir:∀t∈G'.AM.map (·.1),t∈G.AM.map (·.1)\/YO m t)(ks:∀t,PH G' t->t∈G.AM.map (·.1)->t∈G'.AM.map (·.1)):Sd m G' (n+1):=by
 refine⟨au,nn,λt ht=>?_,λt ht e=>?_,λt ht=>(ir t ht).elim (x.ir t) id,by rw[nu];exact x.n0,by rw[nu];exact x.n1,by rw[md];exact x.m0,by rw[md];have:=x.m1;lia⟩;.rcases ht with ht|⟨q,hq,ht⟩;(.rcases hd t ht with h|h;(.exact x.ip t h);.exact h.1);.exact x.ip t (hl q hq t ht)
 .rw[nu] at e;rcases id ht with h|⟨q,hq,h⟩;(.rcases hd t h with h|h;(.exact ks t ht (x.rk t h e));.exact h.2 e);.exact ks t ht (x.rk t (hl q hq t h) e)
theorem Sd.up(x:Sd m G n):Sd m G (n+1):=x.of (x.ok.mono (ER n)) rfl rfl (λt ht=>.inl (.inl ht)) (λq hq t ht=>.inr ⟨q,hq,ht⟩) x.nn (λt h=>.inl h) λt _ h=>h
theorem Sd.tk(x:Sd m G n):Sd m (HV G) n:=⟨x.ok.HV,x.nn,x.ip,x.rk,x.ir,x.n0,x.n1,x.m0,x.m1⟩
theorem Sd.make(x:Sd m G n)(hm:m<=12)(hn:n<60)(a:Addr):Sd m (HV (VE G a)) (n+1):=by
 refine Sd.tk ⟨x.ok.VE a,x.nn,λt ht=>?_,λt ht e=>?_,x.ir,x.n0,x.n1,by show 0<=G.AY+1;have:=x.m0;lia,by show G.AY+1<=((n+1:Nat):Int);have:=x.m1;lia⟩;.have h1:=x.m1;have h2:=x.n1;rcases ht with ht|⟨q,hq,ht⟩;(.have ht:t∈G.hand++[(G.BP,G.AY)]:=ht;rcases ZI ht with ht|ht;(.exact x.ip t (.inl ht));·(have:t=(G.BP,G.AY):=by simpa using ht);rw[this];exact⟨⟨x.n0,by show G.BP<12;lia,x.m0,by show G.AY<60;lia⟩,x.n1⟩);.have hq:q∈G.holds++[((G.BP,G.AY),a,[])]:=hq;rcases ZI hq with hq|hq;(.exact x.ip t (.inr ⟨q,hq,ht⟩));·(have:q=((G.BP,G.AY),a,[]):=by simpa using hq);rw[this] at ht;cases ht
 .rcases ht with ht|⟨q,hq,ht⟩;(.have ht:t∈G.hand++[(G.BP,G.AY)]:=ht;rcases ZI ht with ht|ht;(.exact x.rk t (.inl ht) e);·(have:t=(G.BP,G.AY):=by simpa using ht);exact absurd (by rw[this];rfl) e);.have hq:q∈G.holds++[((G.BP,G.AY),a,[])]:=hq;rcases ZI hq with hq|hq;(.exact x.rk t (.inr ⟨q,hq,ht⟩) e);·(have:q=((G.BP,G.AY),a,[]):=by simpa using hq);rw[this] at ht;cases ht
theorem Ok.WK(ok:Ok G n)(h:tb.1=G.BP->tb∈G.AF.map (·.1)):Ok { G with hand:=Bt G.hand tb } (n+1):=by
 refine(ok.mono (ER n)).hand (Nq _ ok.hn) (by have:=Ht G.hand tb;have:=ok.hz;lia) λt ht e=>?_;rcases DB.mp ht with ht|ht;.exact ok.hk t ht e
 .rw[ht];exact h (by rw[<-ht];exact e)
def Qk(G:BS)(ta tb:T2):BS:=HV { G with holds:=Ia G.holds ta (Bt (Ce G.holds ta) tb) }
def Ov(G:BS)(ta tb:T2):BS:=HV { G with holds:=Ia G.holds ta (Gp (Ce G.holds ta) tb) }
def Qj(G:BS)(tb:T2):BS:=HV { G with hand:=Bt G.hand tb }
def Ql(G:BS)(tb:T2):BS:=HV { G with hand:=Gp G.hand tb }
theorem Sd.hold(x:Sd m G n)(hb:tb∈G.hand):Sd m (Qk G ta tb) (n+1):=by
 have au:Ok { G with holds:=Ia G.holds ta (Bt (Ce G.holds ta) tb) } (n+1):=by obtain⟨g1,g2,g3⟩:=x.ok.get ta;refine(x.ok.mono (ER n)).holds (Nq _ g1) (by have:=Ht (Ce G.holds ta) tb;lia) λt ht e=>?_;rcases DB.mp ht with ht|ht;(.exact g3 t ht e);.rw[ht];exact x.ok.hk tb hb (by rw[<-ht];exact e)
 refine(x.of au rfl rfl (λt ht=>.inl (.inl ht)) (λq hq t ht=>?_) x.nn (λt h=>.inl h) λt _ h=>h).tk;rcases J9 hq with⟨_,e⟩|hq;.rw[e] at ht;rcases DB.mp ht with ht|ht;(.exact Ki ht);.rw[ht];exact .inl hb
 .exact .inr ⟨q,hq,ht⟩
theorem Sd.drop(x:Sd m G n)(ta tb:T2):Sd m (Ov G ta tb) (n+1):=by
 have au:Ok { G with holds:=Ia G.holds ta (Gp (Ce G.holds ta) tb) } (n+1):=by obtain⟨g1,g2,g3⟩:=x.ok.get ta;refine(x.ok.mono (ER n)).holds (g1.sublist EL) (by have:=AS (λu=>decide (u≠tb)) (Ce G.holds ta);unfold Gp;lia) λt ht e=>g3 t (HH.mp ht).1 e
 refine(x.of au rfl rfl (λt ht=>.inl (.inl ht)) (λq hq t ht=>?_) x.nn (λt h=>.inl h) λt _ h=>h).tk;rcases J9 hq with⟨_,e⟩|hq;.rw[e] at ht;exact Ki (HH.mp ht).1
 .exact .inr ⟨q,hq,ht⟩
theorem Sd.take(x:Sd m G n)(hb:tb∈Ce G.holds ta):Sd m (Qj G tb) (n+1):=by
 refine(x.of (x.ok.WK λe=>(x.ok.get ta).2.2 tb hb e) rfl rfl (λt ht=>.inl ?_) (λq hq t ht=>.inr ⟨q,hq,ht⟩) x.nn (λt h=>.inl h) λt _ h=>h).tk;rcases DB.mp ht with ht|ht;.exact .inl ht
 .rw[ht];exact Ki hb
theorem Sd.free(x:Sd m G n)(tb:T2):Sd m (Ql G tb) (n+1):=by refine(x.of ((x.ok.mono (ER n)).hand (l:=Gp G.hand tb) (x.ok.hn.sublist EL) (by have:=AS (λu=>decide (u≠tb)) G.hand;have:=x.ok.hz;unfold Gp;lia) λt ht e=>x.ok.hk t (HH.mp ht).1 e) rfl rfl (λt ht=>.inl (.inl (HH.mp ht).1)) (λq hq t ht=>.inr ⟨q,hq,ht⟩) x.nn (λt h=>.inl h) λt _ h=>h).tk
def Xl(G:BS)(tb:T2)(v:Int):BS:=HV { G with AF:=Ba G.AF tb v }
def Li(G:BS)(tb:T2)(v:Int):BS:=HV { G with AM:=Ba G.AM tb v }
theorem Sd.out(x:Sd m G n)(h:tb∈G.AF.map (·.1))(v:Int):Sd m (Xl G tb v) (n+1) :=(x.of ((x.ok.AF h v).mono (ER n)) rfl rfl (λt ht=>.inl (.inl ht)) (λq hq t ht=>.inr ⟨q,hq,ht⟩) x.nn (λt h=>.inl h) λt _ h=>h).tk
theorem Sd.bZ(x:Sd m G n)(hf:tb.1≠G.BP)(hi:YO m tb)(hv:0<=v):Sd m (Li G tb v) (n+1):=by
 have wm:=(x.ok.iQ hf v).hand (l:=G.hand) x.ok.hn (LR x.ok.hz) x.ok.hk;refine(x.of wm rfl rfl (λt ht=>.inl (.inl ht)) (λq hq t ht=>.inr ⟨q,hq,ht⟩) (λq hq=>?_) (λt ht=>?_) λt _ h=>(Du _ _ _).2.1 t h).tk;.rcases P0 hq with e|hq;(.rw[e];exact hv);.exact x.nn q hq
 .rcases(Du _ _ _).2.2 t ht with e|h;(.rw[e];exact .inr hi);.exact .inl h
def Iy(G:BS)(R:List T2):BS:=HV (GV (keepR G R))
theorem Sd.clean(x:Sd m G n)(VD:Ok (keepR G R) n):Sd m (Iy G R) (n+1):=by
 refine(x.of (VD.GV.mono (ER n)) rfl rfl (λt ht=>.inl (.inl ht)) (λq hq t ht=>.inr ⟨q,(AD.mp hq).1,ht⟩) (λq hq=>x.nn q (AD.mp hq).1) (λt ht=>.inl ((List.filter_sublist.map _).subset ht)) λt ht hk=>?_).tk;obtain⟨q,hq,e⟩:=ZN hk;refine AI.mpr ⟨q,AD.mpr ⟨hq,?_⟩,e⟩;rw[e];unfold Bh;rcases ht with ht|⟨r,hr,ht⟩;.have ht:t∈(keepR G R).hand:=ht;rw[AJ ht];rfl
 .have:((keepR G R).holds.any λq=>decide (t∈q.2.2))=true:=JF.mpr ⟨r,hr,by simpa using ht⟩;rw[this,Bool.or_true]
theorem KQ.wq(ok:Ok G n)(hn:n<=60):∃k R,k<=5000/\KQ (NX G.holds) k (startT G) [] R:=by
 have l1:(G.holds.map (·.1)).length<=60:=by rw[ok.ke,ZA];have:=ok.oz;lia
 have l2:(startT G).length<=200:=by unfold startT Kb;refine BE (AS _ _) ?_;rw[ZE];have h1:=ok.hz;have h2:=AS (λt=>decide (0<Ag G.AF t)) (G.AF.map (·.1));rw[ZA] at h2;have h3:=ok.oz;lia
 have l3:((G.holds.map (·.1)).filter λt=>decide (t∉([]:List T2))).length<=60:=BE (AS _ _) l1;obtain⟨k,R,h1,h2⟩:=KQ.ex (nx:=NX G.holds) (keys:=G.holds.map (·.1)) (B:=60) (vK G.holds) (λt=>BE (AS _ _) (BE (ok.get t).2.1 hn)) 5000 (startT G) [] (Zq G) (by have:((G.holds.map (·.1)).filter λt=>decide (t∉([]:List T2))).length*(60+1)<=60*(60+1):=FC _ l3;lia);exact⟨k,R,h1,h2⟩
theorem Ok.clean(ok:Ok G n)(rc:KQ (NX G.holds) k (startT G) [] R):Ok (FX.keepR G R) n:=ok.keepR rc.sub.2 (rc.closed (λt ht=>by cases ht))
end
section
def vM(G:BS)(tb:T2)(v:Int):BS:=HV { G with hand:=Bt G.hand tb,AF:=Ba G.AF tb v }
def vL(G:BS)(tb:T2)(v:Int):BS:=HV { G with hand:=Bt G.hand tb,AM:=Ba G.AM tb v }
theorem Sd.i7(x:Sd m G n)(JI:tb∈G.AF.map (·.1))(hi:YO m tb)(v:Int):Sd m (vM G tb v) (n+1):=by
 refine(x.of (FX.Ok.AF (G:={ G with hand:=Bt G.hand tb }) (Ok.WK x.ok λ_=>JI) JI v) rfl rfl (λt ht=>?_) (λq hq t ht=>.inr ⟨q,hq,ht⟩) x.nn (λt h=>.inl h) λt _ h=>h).tk;rcases DB.mp ht with ht|ht;.exact .inl (.inl ht)
 .rw[ht];exact .inr ⟨hi,λe=>absurd (x.ok.new tb JI).1 e⟩
theorem Sd.i8(x:Sd m G n)(hf:tb.1≠G.BP)(hi:YO m tb)(hv:0<=v):Sd m (vL G tb v) (n+1):=by
 refine(x.of (x.ok.iQ hf v) rfl rfl (λt ht=>?_) (λq hq t ht=>.inr ⟨q,hq,ht⟩) (λq hq=>?_) (λt ht=>?_) λt _ h=>(Du _ _ _).2.1 t h).tk;.rcases DB.mp ht with ht|ht;(.exact .inl (.inl ht));.rw[ht];exact .inr ⟨hi,λ_=>(Du _ _ _).1⟩
 .rcases P0 hq with e|hq;(.rw[e];exact hv);.exact x.nn q hq
 .rcases(Du _ _ _).2.2 t ht with e|h;(.rw[e];exact .inr hi);.exact .inl h
theorem Pt(l:List (T2×Int))(t:T2)(v:Int):(Ba l t v).length<=l.length+1:=by
 unfold Ba;split;.rw[ZA];lia
 .rw[ZE];exact ZG _
end
end FX
namespace K61
open PySem L2 FX
structure LT where
 kind:Str
 s:Int
 g:Int
 th:T2
 x:Int
def JS(t:T2)(l:LT):Int:=if l.th=t then(if l.kind="pass" then 1 else l.x) else 0
def B0(t:T2):List LT->Int
 | []=>0
 | l::r=>JS t l+B0 t r
theorem Fu(t:T2):∀(a b:List LT),B0 t (a++b)=B0 t a+B0 t b
 | [],b=>by simp[B0]
 | l::a,b=>by show JS t l+B0 t (a++b)=(JS t l+B0 t a)+B0 t b;rw[Fu t a b];lia
theorem Eo(t:T2)(a b:List LT)(l:LT):B0 t (a++l::b)=B0 t (a++b)+JS t l:=by rw[Fu,Fu];show B0 t a+(JS t l+B0 t b)=_;lia
theorem E6(t:T2)(a:List LT)(l:LT):B0 t (a++[l])=B0 t a+JS t l:=by rw[Fu];show B0 t a+(JS t l+0)=_;lia
def LD(t:T2)(G:BS):Int:=Ag G.AM t-Ag G.AF t
def Ft(t:T2):List (Addr×BS)->Int
 | []=>0
 | q::r=>LD t q.2+Ft t r
def L4:List (Addr×BS)->Nat
 | []=>0
 | q::r=>q.2.AM.length+L4 r
theorem T7:∀{l:List (Addr×BS)} {i:Nat} {q r:Addr×BS},l[i]?=some q->Ft t (l.set i r)=Ft t l-LD t q.2+LD t r.2
 | [],i,q,r,h=>by simp at h
 | x::l,0,q,r,h=>by (have h:x=q:=by simpa using h);subst h;show LD t r.2+Ft t l=(LD t x.2+Ft t l)-LD t x.2+LD t r.2;lia
 | x::l,i+1,q,r,h=>by (have h:l[i]?=some q:=by simpa using h);show LD t x.2+Ft t (l.set i r)=(LD t x.2+Ft t l)-LD t q.2+LD t r.2;rw[T7 h];lia
theorem Um:∀{l:List (Addr×BS)} {i:Nat} {q r:Addr×BS},l[i]?=some q->L4 (l.set i r)+q.2.AM.length=L4 l+r.2.AM.length
 | [],i,q,r,h=>by simp at h
 | x::l,0,q,r,h=>by (have h:x=q:=by simpa using h);subst h;show r.2.AM.length+L4 l+x.2.AM.length=x.2.AM.length+L4 l+r.2.AM.length;lia
 | x::l,i+1,q,r,h=>by (have h:l[i]?=some q:=by simpa using h);have:=Um (r:=r) h;show x.2.AM.length+L4 (l.set i r)+q.2.AM.length=x.2.AM.length+L4 l+r.2.AM.length;lia
theorem Q2:∀{l:List (Addr×BS)},(∀(j:Nat) r,l[j]?=some r->0<=LD t r.2)->0<=Ft t l
 | [],_=>A' _
 | x::l,k=>by have h1:=k 0 x rfl;have h2:=Q2 (t:=t) λj r h=>k (j+1) r (by simpa using h);show 0<=LD t x.2+Ft t l;lia
theorem Xu:∀{l:List (Addr×BS)} {i:Nat} {q:Addr×BS},l[i]?=some q->(∀(j:Nat) r,l[j]?=some r->j≠i->0<=LD t r.2)->LD t q.2<=Ft t l
 | [],i,q,h,_=>by simp at h
 | x::l,0,q,h,k=>by (have h:x=q:=by simpa using h);subst h;have h2:=Q2 (t:=t) λj r h=>k (j+1) r (by simpa using h) (by lia);show LD t x.2<=LD t x.2+Ft t l;lia
 | x::l,i+1,q,h,k=>by (have h:l[i]?=some q:=by simpa using h);have h1:=k 0 x rfl (by lia);have h2:=Xu h λj r h ne=>k (j+1) r (by simpa using h) (by lia);show LD t q.2<=LD t x.2+Ft t l;lia
def IJ(m:Nat)(l:LT):Prop:=0<=l.g/\l.g<m/\YO m l.th /\
 ((l.kind="hold"/\1<=l.x)\/(l.kind="more"/\1<=l.x/\l.g≠l.th.1)\/(l.kind="back"/\1<=l.x/\l.g=l.th.1)\/(l.kind="pass"/\l.g=l.th.1/\0<=l.x/\l.x<m/\0<=l.s/\l.s<m/\l.s≠l.th.1))
theorem D7:¬(("more":Str)="pass"):=ZV
theorem C3:¬(("hold":Str)="pass"):=ZV
theorem D8:¬(("back":Str)="pass"):=ZV
theorem IJ.w(h:IJ m l):1<=JS l.th l:=by grind [JS,C3,D7,D8,LT,IJ]
theorem IJ.nn(h:IJ m l)(t:T2):0<=JS t l:=by
 by_cases e:l.th=t;.rw[<-e];have:=h.w;lia
 .unfold JS;rw[AB e];exact A' _
theorem Mc:∀{ls:List LT},(∀l∈ls,IJ m l)->0<=B0 t ls
 | [],_=>A' _
 | l::ls,h=>by have h1:=(h l (ZL ..)).nn t;have h2:=Mc (t:=t) λz hz=>h z (ZD _ hz);show 0<=JS t l+B0 t ls;lia
theorem T8(h:∀l∈ls,IJ m l)(hl:l∈ls):1<=B0 l.th ls:=by obtain⟨a,b,e⟩:=K_ hl;rw[e,Eo];have h1:=(h l hl).w;have h2:=Mc (t:=l.th) (ls:=a++b) λz hz=>h z (by rw[e];rcases ZI hz with hz|hz;(.exact ZB _ hz);.exact ZC _ (ZD _ hz));lia
structure Wl(C:T2->Prop)(m n:Nat)(sh:Int)(qs:List (Addr×BS))(ls:List LT):Prop where
 len:qs.length=m
 cg:m<=12
 sd:∀(i:Nat)(q:Addr)(G:BS),qs[i]?=some (q,G)->Sd m G n/\G.BP=(i:Int)
 ok:∀l∈ls,IJ m l
 sum:∀t,C t->Ft t qs+B0 t ls=0
 cnt:L4 qs+ls.length<=n
 sh:2<=sh
section
variable {C:T2->Prop}{m n:Nat}{sh:Int}{qs:List (Addr×BS)}{ls:List LT}
theorem Jfj{P:BS->Nat->Prop}{l:List (Addr×BS)}{i:Nat}{q:Addr}{G':BS}(h:∀j q G,l[j]?=some (q,G)->j≠i->P G j)(hi:P G' i):∀j q' G,(l.set i (q,G'))[j]?=some (q',G)->P G j:=by
 intro j q' G e;rw[List.getElem?_set] at e;by_cases z:i=j;.rw[AE z] at e;by_cases z2:i<l.length;(.rw[AE z2] at e;have:(q,G')=(q',G):=ZO e;rw[<-(Prod.mk.inj this).2,<-z];exact hi);.rw[AB z2] at e;cases e
 .rw[AB z] at e;exact h j q' G e λz'=>z z'.symm
theorem Wl.next(x:Wl C m n sh qs ls){i:Nat}{q:Addr}{G G':BS}{LW:List LT}(hi:qs[i]?=some (q,G))(kL:Sd m G' (n+1))(nu:G'.BP=G.BP)(au:∀l∈LW,IJ m l)(n8:∀t,C t->LD t G'+B0 t LW=LD t G+B0 t ls)(JGk:G'.AM.length+LW.length<=G.AM.length+ls.length+1):Wl C m (n+1) sh (qs.set i (q,G')) LW:=by
 refine⟨by rw[List.length_set];exact x.len,x.cg,Jfj (P:=λG j=>Sd m G (n+1)/\G.BP=(j:Int)) (λj q G e _=>⟨(x.sd j q G e).1.up,(x.sd j q G e).2⟩) ⟨kL,by rw[nu];exact(x.sd i q G hi).2⟩,au,λt hC=>?_,?_,x.sh⟩;.have h1:=x.sum t hC;have h2:=n8 t hC;rw[T7 hi];show Ft t qs-LD t G+LD t G'+B0 t LW=0;lia
 .have h1:=Um (r:=(q,G')) hi;have h1:L4 (qs.set i (q,G'))+G.AM.length=L4 qs+G'.AM.length:=h1;have h2:=x.cnt;lia
theorem Wl.up(x:Wl C m n sh qs ls):Wl C m (n+1) sh qs ls:=⟨x.len,x.cg,λi q G e=>⟨(x.sd i q G e).1.up,(x.sd i q G e).2⟩,x.ok,x.sum,LR x.cnt,x.sh⟩
theorem Wl.bf(x:Wl C m n sh qs ls){t:T2}{j:Nat}{r:Addr×BS}(e:qs[j]?=some r)(ne:t.1≠(j:Int)):Ag r.2.AF t=0:=by obtain⟨s,nu⟩:=x.sd j r.1 r.2 e;exact Ea λz=>ne (by rw[(s.ok.new t z).1,nu])
theorem Wl.iS(x:Wl C m n sh qs ls){t:T2}{j:Nat}{r:Addr×BS}(e:qs[j]?=some r)(ne:t.1≠(j:Int)):0<=LD t r.2:=by have h1:=x.bf e ne;have h2:=Iv (x.sd j r.1 r.2 e).1.nn t;unfold LD;lia
theorem Wl.there(x:Wl C m n sh qs ls){l:LT}(hl:l∈ls)(hC:C l.th){i:Nat}{q:Addr}{G:BS}(hi:qs[i]?=some (q,G))(e:l.th.1=(i:Int)):l.th∈G.AF.map (·.1):=by
 refine Classical.byContradiction λno=>?_;have h1:=T8 x.ok hl;have h2:=Q2 (t:=l.th) (l:=qs) λj r ej=>by by_cases c:l.th.1=(j:Int);(·(have:i=j:=by lia);subst this;have er:(q,G)=r:=ZO (hi.symm.trans ej);have h3:=Iv (x.sd i r.1 r.2 ej).1.nn l.th;unfold LD;rw[<-er] at h3 ⊢;have h4:Ag G.AF l.th=0:=Ea no;show 0<=Ag G.AM l.th-Ag G.AF l.th;have h3:0<=Ag G.AM l.th:=h3;lia);.exact x.iS ej c
 have h3:=x.sum l.th hC;lia
theorem Wl.cF(x:Wl C m n sh qs ls){i:Nat}{q:Addr}{G:BS}(hi:qs[i]?=some (q,G))(t:T2)(hC:t∈G.AF.map (·.1)->C t):0<=Ag G.AF t:=by
 by_cases c:t∈G.AF.map (·.1);.obtain⟨s,nu⟩:=x.sd i q G hi;(have e1:t.1=(i:Int):=by rw[(s.ok.new t c).1,nu]);have h1:=Xu (t:=t) hi λj r ej ne=>x.iS ej (by lia);have h2:=Mc (t:=t) x.ok;have h3:=x.sum t (hC c);have h4:Ag G.AM t=0:=Ea λz=>s.ok.rk t z (s.ok.new t c).1;have h1:Ag G.AM t-Ag G.AF t<=Ft t qs:=h1;lia
 .rw[Ea c];exact A' _
end
section
variable {C:T2->Prop}{m n:Nat}{sh:Int}{qs:List (Addr×BS)}{ls:List LT}{i:Nat}{q:Addr}{G:BS}
theorem mem_mid(hz:z∈a++b):z∈a++l::b:=by grind
theorem Wl.same(x:Wl C m n sh qs ls)(hi:qs[i]?=some (q,G)){G':BS}(kL:Sd m G' (n+1))(nu:G'.BP=G.BP)(hr:G'.AM=G.AM)(ho:G'.AF=G.AF):Wl C m (n+1) sh (qs.set i (q,G')) ls :=x.next hi kL nu x.ok (λt _=>by unfold LD;rw[hr,ho]) (by rw[hr];lia)
theorem Wl.make(x:Wl C m n sh qs ls)(hi:qs[i]?=some (q,G))(hn:n<60)(a:Addr):Wl C m (n+1) sh (qs.set i (q,HV (VE G a))) ls:=by
 obtain⟨s,nu⟩:=x.sd i q G hi;refine x.next hi (s.make x.cg hn a) rfl x.ok (λt _=>?_) (by show G.AM.length+_<=_;lia);have fr:(G.BP,G.AY)∉G.AF.map (·.1):=λz=>by obtain⟨r,hr,e⟩:=ZN z;exact s.ok.fresh.2.1 r hr e
 have e:Ag (G.AF++[((G.BP,G.AY),0)]) t=Ag G.AF t:=by rw[<-Jbp fr,Cu];by_cases c:t=(G.BP,G.AY);(.rw[AE c,c,Ea fr]);.rw[AB c]
 show Ag G.AM t-Ag (G.AF++[((G.BP,G.AY),0)]) t+B0 t ls=Ag G.AM t-Ag G.AF t+B0 t ls;rw[e]
theorem Hr(h:∀z∈ls,IJ m z)(hl:IJ m l):∀z∈ls++[l],IJ m z:=λz hz=>by rcases ZI hz with hz|hz;(.exact h z hz);.rw[ZK hz];exact hl
theorem Wl.OS(x:Wl C m n sh qs ls)(hi:qs[i]?=some (q,G)){b:T2}(hb:b∈G.hand)(hn:b.1=G.BP){g:Int}(g0:0<=g)(g1:g<m):Wl C m (n+1) sh (qs.set i (q,Xl G b (Ag G.AF b+sh))) (ls++[⟨"hold",(i:Int),g,b,sh⟩]):=by
 obtain⟨s,nu⟩:=x.sd i q G hi;have hs:=x.sh;refine x.next hi (s.out (s.ok.hk b hb hn) _) rfl (Hr x.ok ⟨g0,g1,s.ip b (.inl hb),.inl ⟨rfl,by show 1<=sh;lia⟩⟩) (λt _=>?_) (by rw[ZE,DG];show G.AM.length+_<=_;lia);rw[E6];show Ag G.AM t-Ag (Ba G.AF b (Ag G.AF b+sh)) t+(B0 t ls+JS t ⟨"hold",(i:Int),g,b,sh⟩)=Ag G.AM t-Ag G.AF t+B0 t ls;rw[Cu];unfold JS;by_cases c:t=b;.rw[AE c,AE (show b=t from c.symm),AB C3,c];show _+(_+sh)=_;lia
 .rw[AB c,AB (show ¬b=t from λz=>c z.symm)];lia
theorem Vu(h:b∈G.AM.map (·.1))(v:Int):(Li G b v).AM.length=G.AM.length:=Ur h v
theorem Wl.QJ(x:Wl C m n sh qs ls)(hi:qs[i]?=some (q,G)){b:T2}(hb:b∈G.hand)(hf:b.1≠G.BP){g:Int}(g0:0<=g)(g1:g<m)(w2:2<=Ag G.AM b) : Wl C m (n+1) sh (qs.set i (q,Li G b (Ag G.AM b-Ag G.AM b / 2))) (ls++[⟨"hold",(i:Int),g,b,Ag G.AM b / 2⟩]):=by
 obtain⟨s,nu⟩:=x.sd i q G hi;refine x.next hi (s.bZ hf (s.ip b (.inl hb)) (by lia)) rfl (Hr x.ok ⟨g0,g1,s.ip b (.inl hb),.inl ⟨rfl,by show 1<=Ag G.AM b / 2;lia⟩⟩) (λt _=>?_) (by rw[ZE,DG,Vu (s.rk b (.inl hb) hf)];lia);rw[E6];show Ag (Ba G.AM b (Ag G.AM b-Ag G.AM b / 2)) t-Ag G.AF t+(B0 t ls+JS t ⟨"hold",(i:Int),g,b,Ag G.AM b / 2⟩)=Ag G.AM t-Ag G.AF t+B0 t ls;rw[Cu];unfold JS;by_cases c:t=b;.rw[AE c,AE (show b=t from c.symm),AB C3,c];show _+(_+Ag G.AM b / 2)=_;lia
 .rw[AB c,AB (show ¬b=t from λz=>c z.symm)];lia
theorem Wl.OR(x:Wl C m n sh qs ls)(hi:qs[i]?=some (q,G)){b:T2}(hb:b∈G.hand)(hf:b.1≠G.BP){g:Int}(g0:0<=g)(g1:g<m)(w1:Ag G.AM b=1) : Wl C m (n+1) sh (qs.set i (q,Li G b 0)) (ls++[⟨"pass",(i:Int),b.1,b,g⟩]):=by
 obtain⟨s,nu⟩:=x.sd i q G hi;have ib:=s.ip b (.inl hb);have hil:i<m:=by rw[<-x.len];exact(ZJ hi).1
 refine x.next hi (s.bZ hf ib (A' _)) rfl (Hr x.ok ⟨ib.1.1,ib.2,ib,.inr (.inr (.inr ⟨rfl,rfl,g0,g1,by show 0<=(i:Int);lia,by show(i:Int)<m;lia,by rw[nu] at hf;exact λz=>hf z.symm⟩))⟩) (λt _=>?_) (by rw[ZE,DG,Vu (s.rk b (.inl hb) hf)];lia);rw[E6];show Ag (Ba G.AM b 0) t-Ag G.AF t+(B0 t ls+JS t ⟨"pass",(i:Int),b.1,b,g⟩)=Ag G.AM t-Ag G.AF t+B0 t ls;rw[Cu];unfold JS;by_cases c:t=b;.rw[AE c,AE (show b=t from c.symm),AE rfl,c,w1];lia
 .rw[AB c,AB (show ¬b=t from λz=>c z.symm)];lia
theorem Wl.wt(x:Wl C m n sh qs ls){a b:List LT}{l:LT}(es:ls=a++l::b)(np:l.kind≠"pass")(hC:l.kind≠"back"->C l.th)(hi:qs[l.g.toNat]?=some (q,G)) : ∃G',Wt l.kind G l.th l.x G'/\Wl C m (n+1) sh (qs.set l.g.toNat (q,G')) (a++b):=by
 have hl:l∈ls:=by rw[es];exact ZC _ (ZL ..)
 obtain⟨g0,g1,ib,kk⟩:=x.ok l hl;obtain⟨s,nu⟩:=x.sd _ q G hi;rw[BH g0] at nu;have ZY:∀z∈a++b,IJ m z:=λz hz=>x.ok z (by rw[es];exact mem_mid hz);have len:(a++b).length+1=ls.length:=by rw[es];simp only[ZE,BJ];lia
 have lw:∀t,JS t l=if l.th=t then l.x else 0:=λt=>by unfold JS;rw[AB np]
 rcases kk with⟨k,x1⟩|⟨k,x1,ne⟩|⟨k,x1,eg⟩|⟨k,_⟩;· by_cases c:l.th.1=G.BP;(.have JI:=x.there hl (hC (by rw[k];decide +kernel)) hi (by rw[BH g0,c,nu]);refine⟨vM G l.th (Ag G.AF l.th-l.x),.inl ⟨k,.inl ⟨c,_,Kk JI,rfl⟩⟩,x.next hi (s.i7 JI ib _) rfl ZY (λt _=>?_) (by show G.AM.length+_<=_;lia)⟩;show Ag G.AM t-Ag (Ba G.AF l.th (Ag G.AF l.th-l.x)) t+B0 t (a++b)=Ag G.AM t-Ag G.AF t+B0 t ls;rw[es,Eo,Cu,lw];by_cases d:t=l.th;(.rw[AE d,AE d.symm,d];lia);.rw[AB d,AB (λz=>d z.symm)];lia);.have r0:=Iv s.nn l.th;refine⟨vL G l.th (Ag G.AM l.th+l.x),.inl ⟨k,.inr ⟨c,rfl⟩⟩,x.next hi (s.i8 c ib (by lia)) rfl ZY (λt _=>?_) (by have:=Pt G.AM l.th (Ag G.AM l.th+l.x);show(Ba G.AM l.th _).length+_<=_;lia)⟩;show Ag (Ba G.AM l.th (Ag G.AM l.th+l.x)) t-Ag G.AF t+B0 t (a++b)=Ag G.AM t-Ag G.AF t+B0 t ls;rw[es,Eo,Cu,lw];by_cases d:t=l.th;(.rw[AE d,AE d.symm,d];lia);.rw[AB d,AB (λz=>d z.symm)];lia
 · (have c:l.th.1≠G.BP:=by rw[nu];exact λz=>ne z.symm);have r0:=Iv s.nn l.th;refine⟨Li G l.th (Ag G.AM l.th+l.x),.inr (.inl ⟨k,rfl⟩),x.next hi (s.bZ c ib (by lia)) rfl ZY (λt _=>?_) (by have:=Pt G.AM l.th (Ag G.AM l.th+l.x);show(Ba G.AM l.th _).length+_<=_;lia)⟩;show Ag (Ba G.AM l.th (Ag G.AM l.th+l.x)) t-Ag G.AF t+B0 t (a++b)=Ag G.AM t-Ag G.AF t+B0 t ls;rw[es,Eo,Cu,lw];by_cases d:t=l.th;(.rw[AE d,AE d.symm,d];lia);.rw[AB d,AB (λz=>d z.symm)];lia
 · by_cases JI:l.th∈G.AF.map (·.1);(·(have e1:UY G l.th l.x=Ba G.AF l.th (Ag G.AF l.th-l.x):=by unfold UY;rw[AE JI]);refine⟨Xl G l.th (Ag G.AF l.th-l.x),.inr (.inr ⟨k,by rw[e1];rfl⟩),x.next hi (s.out JI _) rfl ZY (λt _=>?_) (by show G.AM.length+_<=_;lia)⟩;show Ag G.AM t-Ag (Ba G.AF l.th (Ag G.AF l.th-l.x)) t+B0 t (a++b)=Ag G.AM t-Ag G.AF t+B0 t ls;rw[es,Eo,Cu,lw];by_cases d:t=l.th;(.rw[AE d,AE d.symm,d];lia);.rw[AB d,AB (λz=>d z.symm)];lia);·(have e1:UY G l.th l.x=G.AF:=by unfold UY;rw[AB JI]);refine⟨HV G,.inr (.inr ⟨k,by rw[e1];rfl⟩),x.next hi s.up.tk rfl ZY (λt ht=>?_) (by show G.AM.length+_<=_;lia)⟩;show Ag G.AM t-Ag G.AF t+B0 t (a++b)=Ag G.AM t-Ag G.AF t+B0 t ls;rw[es,Eo,lw];by_cases d:l.th=t;(.exact absurd (x.there hl (by rw[d];exact ht) hi (by rw[BH g0,eg])) JI);.rw[AB d];lia
 .exact absurd k np
theorem Sd.pass(s:Sd m G n)(JI:tb∈G.AF.map (·.1))(hi:YO m tb)(sh:Int)(F':Bool):Sd m (F4 G tb sh F') (n+1):=by
 have wk:Ok { G with hand:=WU G tb F' } (n+1):=by cases F';(.exact s.ok.mono (ER n));.exact FX.Ok.WK s.ok λ_=>JI
 refine(s.of (FX.Ok.AF (G:={ G with hand:=WU G tb F' }) wk JI _) rfl rfl (λt ht=>?_) (λq hq t ht=>.inr ⟨q,hq,ht⟩) s.nn (λt h=>.inl h) λt _ h=>h).tk;have ht:t∈WU G tb F':=ht;unfold WU at ht;cases F';.exact .inl (.inl ht)
 .rcases DB.mp ht with ht|ht;(.exact .inl (.inl ht));.rw[ht];exact .inr ⟨hi,λe=>absurd (s.ok.new tb JI).1 e⟩
theorem Wl.pass(x:Wl C m n sh qs ls){a b:List LT}{l:LT}(es:ls=a++l::b)(hp:l.kind="pass")(hC:C l.th)(hi:qs[l.th.1.toNat]?=some (q,G)):l.th∈G.AF.map (·.1) /\ (l.x=l.th.1->Wl C m (n+1) sh (qs.set l.th.1.toNat (q,F4 G l.th sh true)) (a++b++[⟨"more",l.th.1,l.s,l.th,sh⟩])) /\ (l.x≠l.th.1->Wl C m (n+1) sh (qs.set l.th.1.toNat (q,F4 G l.th sh false)) (a++b++[⟨"hold",l.th.1,l.x,l.th,sh⟩]++[⟨"more",l.th.1,l.s,l.th,sh⟩])):=by
 have hl:l∈ls:=by rw[es];exact ZC _ (ZL ..)
 obtain⟨g0,g1,ib,kk⟩:=x.ok l hl;obtain⟨s,nu⟩:=x.sd _ q G hi;have hs:=x.sh;have JI:=x.there hl hC hi (BH ib.1.1).symm;have ZY:∀z∈a++b,IJ m z:=λz hz=>x.ok z (by rw[es];exact mem_mid hz);have len:(a++b).length+1=ls.length:=by rw[es];simp only[ZE,BJ];lia
 have fin:l.g=l.th.1/\0<=l.x/\l.x<m/\0<=l.s/\l.s<m/\l.s≠l.th.1:=by rcases kk with⟨h,_⟩|⟨h,_⟩|⟨h,_⟩|⟨_,h⟩;(.rw[hp] at h;exact absurd h.symm C3);(.rw[hp] at h;exact absurd h.symm D7);(.rw[hp] at h;exact absurd h.symm D8);.exact h
 obtain⟨eg,x0,x1,s0,s1,wA⟩:=fin;have qb:IJ m ⟨"more",l.th.1,l.s,l.th,sh⟩:=⟨s0,s1,ib,.inr (.inl ⟨rfl,by show 1<=sh;lia,wA⟩)⟩;have wo:IJ m ⟨"hold",l.th.1,l.x,l.th,sh⟩:=⟨x0,x1,ib,.inl ⟨rfl,by show 1<=sh;lia⟩⟩;have qx:∀t,JS t l=if l.th=t then 1 else 0:=λt=>by unfold JS;rw[AE hp]
 have qy:∀t,JS t ⟨"more",l.th.1,l.s,l.th,sh⟩=if l.th=t then sh else 0:=λt=>by unfold JS;rw[AB D7]
 have xW:∀t,JS t ⟨"hold",l.th.1,l.x,l.th,sh⟩=if l.th=t then sh else 0:=λt=>by unfold JS;rw[AB C3]
 refine⟨JI,λ_=>x.next hi (Sd.pass s JI ib sh true) rfl (Hr ZY qb) (λt _=>?_) ?_,λ_=>x.next hi (Sd.pass s JI ib sh false) rfl (Hr (Hr ZY wo) qb) (λt _=>?_) ?_⟩;.show Ag G.AM t-Ag (ZX G l.th sh true) t+B0 t _=Ag G.AM t-Ag G.AF t+B0 t ls;unfold ZX;rw[E6,es,Eo,Cu,qx,qy,AE rfl];by_cases d:t=l.th;(.rw[AE d,AE d.symm,AE d.symm,d];lia);.rw[AB d,AB (λz=>d z.symm),AB (λz=>d z.symm)];try lia
 .rw[ZE,DG];show G.AM.length+_<=_;lia
 .show Ag G.AM t-Ag (ZX G l.th sh false) t+B0 t _=Ag G.AM t-Ag G.AF t+B0 t ls;unfold ZX;rw[E6,E6,es,Eo,Cu,qx,qy,xW,AB AL];by_cases d:t=l.th;(.rw[AE d,AE d.symm,AE d.symm,d];lia);.rw[AB d,AB (λz=>d z.symm),AB (λz=>d z.symm)];try lia
 .rw[ZE,ZE,DG,DG];show G.AM.length+_<=_;lia
end
def Gd(i:Int)(y:T2×Int):LT:=⟨"back",i,y.1.1,y.1,y.2⟩
theorem Vp(q:T2×Int)(l:List (T2×Int))(t:T2):Ag (q::l) t=if q.1=t then q.2 else Ag l t:=by
 unfold Ag;rw[BR];by_cases e:q.1=t;.rw[AJ e,AE e];rfl
 .rw[AG e,AB e]
theorem O2(i:Int)(t:T2):∀{l:List (T2×Int)},(l.map (·.1)).Nodup->(∀q∈l,0<=q.2)->B0 t ((l.filter λq=>decide (0<q.2)).map (Gd i))=Ag l t
 | [],_,_=>rfl
 | q::l,nd,nn=>by have KH:=AV.mp nd;have ih:=O2 i t KH.2 λr hr=>nn r (ZD _ hr);have q0:=nn q (ZL ..);rw[Vp,DC];(have lw:JS t (Gd i q)=if q.1=t then q.2 else 0:=by unfold JS;rw[AB (show ¬(Gd i q).kind="pass" from D8)];rfl);by_cases c:0<q.2;(.rw[AE (AJ c)];show JS t (Gd i q)+B0 t _=_;rw[lw,ih];by_cases e:q.1=t;(.rw[AE e,AE e,Ea (by rw[<-e];exact KH.1)];lia);.rw[AB e,AB e];lia);.rw[AB (by simpa using c),ih];by_cases e:q.1=t;(.rw[AE e,Ea (by rw[<-e];exact KH.1)];lia);.rw[AB e]
theorem Kh(p:a.Perm b)(nd:(b.map (·.1)).Nodup)(t:T2):Ag a t=Ag b t:=by
 have jN:(a.map (·.1)).Nodup:=(p.map _).nodup_iff.mpr nd;by_cases c:t∈b.map (·.1);.obtain⟨q,hq,e⟩:=ZN c;have h1:=FN nd hq;have h2:=FN jN (p.mem_iff.mpr hq);rw[e] at h1 h2;unfold Ag;rw[h1,h2]
 .rw[Ea c,Ea λz=>c ((p.map _).mem_iff.mp z)]
theorem Ot(P:α->Bool):∀l:List α,(l.filter P).length+(l.filter λx=>!P x).length=l.length
 | []=>rfl
 | x::l=>by have:=Ot P l;rw[DC,DC];cases e:P x<;>simp<;>lia
section
variable {C:T2->Prop}{m n:Nat}{sh:Int}{qs:List (Addr×BS)}{ls:List LT}{i:Nat}{q:Addr}{G M:BS}
theorem Wl.clean(x:Wl C m n sh qs ls)(hi:qs[i]?=some (q,G))(hC:∀t∈G.AF.map (·.1),C t){k:Nat}{R:List T2}(rc:KQ (NX G.holds) k (startT G) [] R){rs:List (T2×Int)}(pm:rs.Perm G.AM) : Wl C m (n+1) sh (qs.set i (q,Iy G R)) (ls++(Bs (keepR G R) rs).map (Gd (i:Int))):=by
 obtain⟨s,nu⟩:=x.sd i q G hi;refine x.next hi (s.clean (s.ok.clean rc)) rfl (λz hz=>?_) (λt _=>?_) ?_;.rcases ZI hz with hz|hz;(.exact x.ok z hz);.obtain⟨y,hy,rfl⟩:=ZN hz;obtain⟨k8,k6⟩:=AD.mp hy;have ky:=pm.mem_iff.mp (AD.mp k8).1;have im:=s.ir y.1 (AI.mpr ⟨y,ky,rfl⟩);exact⟨im.1.1,im.2,im,.inr (.inr (.inl ⟨rfl,by have:=BL k6;show 1<=y.2;lia,rfl⟩))⟩
 .rw[Fu];have UQ:(rs.map (·.1)).Nodup:=(pm.map _).nodup_iff.mpr s.ok.rn;have e1:B0 t ((Bs (keepR G R) rs).map (Gd (i:Int)))=Ag (rs.filter λq=>!Bh (keepR G R) q.1) t :=O2 (i:Int) t (UQ.sublist (List.filter_sublist.map _)) λr hr=>s.nn r (pm.mem_iff.mp (AD.mp hr).1);rw[e1,Dj rs (λt=>!Bh (keepR G R) t) t,Kh pm s.ok.rn];show Ag (G.AM.filter λq=>Bh (keepR G R) q.1) t-Ag (G.AF.filter λq=>decide (q.1∈R)) t+_=Ag G.AM t-Ag G.AF t+B0 t ls;rw[Dj G.AM (λt=>Bh (keepR G R) t) t,Dj G.AF (λt=>decide (t∈R)) t];(have e2:(if decide (t∈R)=true then Ag G.AF t else 0)=Ag G.AF t:=by by_cases c:t∈R;(.rw[AE (AJ c)]);.rw[AB (by simpa using c)];have h1:=x.cF hi t (hC t);by_cases d:t∈G.AF.map (·.1);(.have h2:¬0<Ag G.AF t:=λz=>c (rc.sub.2 t (by unfold startT Kb;refine AD.mpr ⟨ZC _ (AD.mpr ⟨d,AJ z⟩),?_⟩;rw[s.ok.ke];exact AJ d));lia);.rw[Ea d]);rw[e2];cases Bh (keepR G R) t;(.rw[AB (by simp),AE (by rfl)];lia);.rw[AE rfl,AB (by simp)];lia
 .rw[ZE,ZA];have h1:(Bs (keepR G R) rs).length<=(rs.filter λq=>!Bh (keepR G R) q.1).length:=AS _ _;have h2:=(pm.filter λq=>!Bh (keepR G R) q.1).length_eq;have h3:=Ot (λq:T2×Int=>Bh (keepR G R) q.1) G.AM;show(G.AM.filter λq=>Bh (keepR G R) q.1).length+_<=_;lia
theorem Wl.good(x:Wl C m n sh qs ls)(hn:n<=60)(hi:qs[i]?=some (q,G)):Good G:=by obtain⟨s,nu⟩:=x.sd i q G hi;have h1:=s.ok.hz;have h2:=s.ok.oz;have h3:=s.ok.rz;refine⟨s.ok.hn,by lia,s.ok.on,by lia,s.ok.rn,by lia,λr hr=>?_⟩;obtain⟨a,fd⟩:=Mr (l:=G.holds) (t:=r.1) (by rw[s.ok.ke];exact AI.mpr ⟨r,hr,rfl⟩);obtain⟨g1,g2,_⟩:=s.ok.get r.1;exact⟨a,_,fd,g1,by lia⟩
end
def YQ(qs:List (Addr×BS))(t:T2):Prop:=∃(j:Nat)(q:Addr)(G:BS),qs[j]?=some (q,G)/\t∈G.AF.map (·.1)
structure MV(qs:List (Addr×BS))(ls:List LT)(X:T2->Prop):Prop where
 hand:∀(j:Nat)(q:Addr)(G:BS),qs[j]?=some (q,G)->∀t∈G.hand,¬X t
 RB:∀l∈ls,l.kind≠"back"->¬X l.th
 hold:∀(j:Nat)(q:Addr)(G:BS),qs[j]?=some (q,G)->∀r∈G.holds,∀t∈r.2.2,X t->X r.1
 old:∀(j:Nat)(q:Addr)(G:BS),qs[j]?=some (q,G)->∀t,X t->t.1=(j:Int)->t.2<G.AY
def JJ(qs:List (Addr×BS))(ls:List LT)(qW:List (Addr×BS))(LW:List LT):Prop:=∀X,MV qs ls X->MV qW LW X
theorem JJ.refl(qs:List (Addr×BS))(ls:List LT):JJ qs ls qs ls:=λ_ h=>h
def QB(ls:List LT)(j:Int)(t:T2):Prop:=∃l∈ls,l.th=t/\((l.kind="pass"/\l.s=j)\/(l.kind="more"/\l.g=j))
def QA(qs:List (Addr×BS))(ls:List LT):Prop:=∀(j:Nat)(q:Addr)(G:BS),qs[j]?=some (q,G)->∀t,PH G t->t.1≠(j:Int)->1<=Ag G.AM t\/QB ls (j:Int) t
section
variable {qs:List (Addr×BS)}{ls LW:List LT}{i:Nat}{q:Addr}{G G':BS}{X:T2->Prop}
theorem El{l:List (Addr×BS)}{j:Nat}{q':Addr}{G2:BS}(e:(l.set i (q,G'))[j]?=some (q',G2)):(j=i/\G2=G'/\q'=q)\/(j≠i/\l[j]?=some (q',G2)):=by
 rw[List.getElem?_set] at e;by_cases z:i=j;.rw[AE z] at e;by_cases z2:i<l.length;(.rw[AE z2] at e;have:(q,G')=(q',G2):=ZO e;exact .inl ⟨z.symm,(Prod.mk.inj this).2.symm,(Prod.mk.inj this).1.symm⟩);.rw[AB z2] at e;cases e
 .rw[AB z] at e;exact .inr ⟨λy=>z y.symm,e⟩
theorem MV.next(x:MV qs ls X)(hi:qs[i]?=some (q,G))(h1:∀t∈G'.hand,t∈G.hand\/¬X t)(h2:∀l∈LW,l.kind≠"back"->l∈ls\/¬X l.th)(h3:∀r∈G'.holds,∀t∈r.2.2,(∃r0∈G.holds,r0.1=r.1/\t∈r0.2.2)\/¬X t)(h4:G.AY<=G'.AY):MV (qs.set i (q,G')) LW X:=by
 refine⟨λj q' G2 e t ht=>?_,λl hl nb=>?_,λj q' G2 e r hr t ht xt=>?_,λj q' G2 e t xt et=>?_⟩;.rcases El e with⟨_,e2,_⟩|⟨_,e⟩;(.rw[e2] at ht;rcases h1 t ht with h|h;(.exact x.hand i q G hi t h);.exact h);.exact x.hand j q' G2 e t ht
 .rcases h2 l hl nb with h|h;(.exact x.RB l h nb);.exact h
 .rcases El e with⟨_,e2,_⟩|⟨_,e⟩;(.rw[e2] at hr;rcases h3 r hr t ht with⟨r0,m0,e0,t0⟩|h;(.rw[<-e0];exact x.hold i q G hi r0 m0 t t0 xt);.exact absurd xt h);.exact x.hold j q' G2 e r hr t ht xt
 .rcases El e with⟨ej,e2,_⟩|⟨_,e⟩;(.rw[e2];have:=x.old i q G hi t xt (by rw[et,ej]);lia);.exact x.old j q' G2 e t xt et
theorem JJ.less(hi:qs[i]?=some (q,G))(h1:∀t∈G'.hand,t∈G.hand)(h2:∀l∈LW,l.kind≠"back"->l∈ls)(h3:∀r∈G'.holds,∀t∈r.2.2,∃r0∈G.holds,r0.1=r.1/\t∈r0.2.2)(h4:G.AY<=G'.AY):JJ qs ls (qs.set i (q,G')) LW :=λX x=>x.next hi (λt ht=>.inl (h1 t ht)) (λl hl nb=>.inl (h2 l hl nb)) (λr hr t ht=>.inl (h3 r hr t ht)) h4
theorem QA.next(x:QA qs ls)(hi:qs[i]?=some (q,G))(hp:∀(j:Nat) t,j≠i->QB ls (j:Int) t->QB LW (j:Int) t)(h':∀t,PH G' t->t.1≠(i:Int)->1<=Ag G'.AM t\/QB LW (i:Int) t):QA (qs.set i (q,G')) LW:=by
 intro j q' G2 e t ht ne;rcases El e with⟨ej,e2,_⟩|⟨ne2,e⟩;.subst ej;rw[e2] at ht ⊢;exact h' t ht ne
 .rcases x j q' G2 e t ht ne with h|h;(.exact .inl h);.exact .inr (hp j t ne2 h)
theorem QB.mono(h:∀l∈ls,l∈LW)(p:QB ls j t):QB LW j t:=let⟨l,hl,r⟩:=p;⟨l,h l hl,r⟩
theorem QA.less(x:QA qs ls)(hi:qs[i]?=some (q,G))(hl:∀l∈ls,l∈LW)(h':∀t,PH G' t->t.1≠(i:Int)->PH G t/\Ag G.AM t<=Ag G'.AM t):QA (qs.set i (q,G')) LW :=x.next hi (λj t _ p=>p.mono hl) λt ht ne=>by obtain⟨h1,h2⟩:=h' t ht ne;rcases x i q G hi t h1 ne with h|h;(.exact .inl (by lia));.exact .inr (h.mono hl)
end
structure Wg(D:T2->Prop)(m n:Nat)(sh:Int)(qs:List (Addr×BS))(ls:List LT):Prop where
 wl:Wl (λt=>¬D t\/YQ qs t) m n sh qs ls
 sD:MV qs ls D
 rc:QA qs ls
theorem Wl.mono{C C':T2->Prop}{m n:Nat}{sh:Int}{qs:List (Addr×BS)}{ls:List LT}(x:Wl C m n sh qs ls)(h:∀t,C' t->C t):Wl C' m n sh qs ls:=⟨x.len,x.cg,x.sd,x.ok,λt c=>x.sum t (h t c),x.cnt,x.sh⟩
section
variable {D:T2->Prop}{m n:Nat}{sh:Int}{qs:List (Addr×BS)}{ls LW:List LT}{i:Nat}{q:Addr}{G G':BS}
theorem YQ.set(hi:qs[i]?=some (q,G)){t:T2}(h:YQ (qs.set i (q,G')) t):YQ qs t\/t∈G'.AF.map (·.1):=by
 obtain⟨j,q',G2,e,m⟩:=h;rcases El e with⟨_,e2,_⟩|⟨_,e⟩;.rw[e2] at m;exact .inr m
 .exact .inl ⟨j,q',G2,e,m⟩
theorem Wg.step(x:Wg D m n sh qs ls)(hi:qs[i]?=some (q,G))(w:Wl (λt=>¬D t\/YQ qs t) m (n+1) sh (qs.set i (q,G')) LW)(ho:∀t∈G'.AF.map (·.1),t∈G.AF.map (·.1)\/¬D t)(st:JJ qs ls (qs.set i (q,G')) LW)(rc:QA (qs.set i (q,G')) LW):Wg D m (n+1) sh (qs.set i (q,G')) LW :=⟨w.mono λt h=>by rcases h with h|h;(.exact .inl h);.rcases h.set hi with h|h;(.exact .inr h);.rcases ho t h with h|h;(.exact .inr ⟨i,q,G,hi,h⟩);.exact .inl h,st D x.sD,rc⟩
theorem Wg.BP(x:Wg D m n sh qs ls)(hi:qs[i]?=some (q,G)):Sd m G n/\G.BP=(i:Int):=x.wl.sd i q G hi
theorem T9(hi:qs[i]?=some (q,G))(nu:G.BP=(i:Int))(a:Addr):JJ qs ls (qs.set i (q,HV (VE G a))) ls:=λX x=>by (have nx:¬X (G.BP,G.AY):=λz=>by have:=x.old i q G hi _ z nu;simp at this);refine x.next hi (λt ht=>?_) (λl hl _=>.inl hl) (λr hr t ht=>?_) (by show G.AY<=G.AY+1;lia);(.have ht:t∈G.hand++[(G.BP,G.AY)]:=ht;rcases ZI ht with h|h;(.exact .inl h);.rw[ZK h];exact .inr nx);.have hr:r∈G.holds++[((G.BP,G.AY),a,[])]:=hr;rcases ZI hr with h|h;(.exact .inl ⟨r,h,rfl,ht⟩);.rw[ZK h] at ht;cases ht
theorem Wg.make(x:Wg D m n sh qs ls)(hi:qs[i]?=some (q,G))(hn:n<60)(a:Addr):Wg D m (n+1) sh (qs.set i (q,HV (VE G a))) ls:=by
 obtain⟨s,nu⟩:=x.BP hi;refine x.step hi (x.wl.make hi hn a) (λt ht=>?_) (T9 hi nu a) (x.rc.less hi (λl h=>h) λt ht ne=>?_);.have ht:t∈(G.AF++[(((G.BP,G.AY),0):T2×Int)]).map (λq:T2×Int=>q.1):=ht;rw[ZF] at ht;rcases ZI ht with h|h;(.exact .inl h);·(have e:t=(G.BP,G.AY):=by simpa using h);refine .inr λz=>?_;rw[e] at z;have:=x.sD.old i q G hi _ z nu;simp at this
 .refine⟨?_,A' _⟩;rcases ht with h|⟨r,hr,h⟩;(.have h:t∈G.hand++[(G.BP,G.AY)]:=h;rcases ZI h with h|h;(.exact .inl h);·(have e:t=(G.BP,G.AY):=by simpa using h);exact absurd (by rw[e];exact nu) ne);.have hr:r∈G.holds++[((G.BP,G.AY),a,[])]:=hr;rcases ZI hr with hr|hr;(.exact .inr ⟨r,hr,h⟩);.rw[ZK hr] at h;cases h
theorem Oj(h:t∈Ce l ta):∃r0∈l,r0.1=ta/\t∈r0.2.2:=by unfold Ce at h;cases e:l.find? λq=>decide (q.1=ta) with | none=>rw[e] at h;cases h | some r =>rw[e] at h;exact⟨r,AX e,by simpa using DK e,h⟩
theorem K6(hr:r∈Ia l ta h):(r.1=ta/\r.2.2=h)\/r∈l:=by
 unfold Ia at hr;obtain⟨r0,m0,e⟩:=ZN hr;by_cases c:r0.1=ta;.rw[AE c] at e;exact .inl ⟨by rw[<-e];exact c,by rw[<-e]⟩
 .rw[AB c] at e;exact .inr (by rw[<-e];exact m0)
theorem Wg.hold(x:Wg D m n sh qs ls)(hi:qs[i]?=some (q,G)){ta tb:T2}(hb:tb∈G.hand):Wg D m (n+1) sh (qs.set i (q,Qk G ta tb)) ls/\JJ qs ls (qs.set i (q,Qk G ta tb)) ls:=by
 obtain⟨s,nu⟩:=x.BP hi;have st:JJ qs ls (qs.set i (q,Qk G ta tb)) ls:=λX y=>y.next hi (λt ht=>.inl ht) (λl hl _=>.inl hl) (λr hr t ht=>by rcases K6 hr with⟨e1,e2⟩|h;(.rw[e2] at ht;rcases DB.mp ht with h|h;(.obtain⟨r0,m0,e0,t0⟩:=Oj h;exact .inl ⟨r0,m0,by rw[e0,e1],t0⟩);.rw[h];exact .inr (y.hand i q G hi tb hb));.exact .inl ⟨r,h,rfl,ht⟩) (A' _);refine⟨x.step hi (x.wl.same hi (s.hold hb) rfl rfl rfl) (λt ht=>.inl ht) st (x.rc.less hi (λl h=>h) λt ht ne=>⟨?_,A' _⟩),st⟩;rcases ht with h|⟨r,hr,h⟩;.exact .inl h
 .rcases K6 hr with⟨e1,e2⟩|h2;(.rw[e2] at h;rcases DB.mp h with h|h;(.exact Ki h);.rw[h];exact .inl hb);.exact .inr ⟨r,h2,h⟩
theorem Wg.drop(x:Wg D m n sh qs ls)(hi:qs[i]?=some (q,G))(ta tb:T2):Wg D m (n+1) sh (qs.set i (q,Ov G ta tb)) ls/\JJ qs ls (qs.set i (q,Ov G ta tb)) ls:=by
 obtain⟨s,nu⟩:=x.BP hi;have key:∀r∈(Ov G ta tb).holds,∀t∈r.2.2,∃r0∈G.holds,r0.1=r.1/\t∈r0.2.2:=λr hr t ht=>by rcases K6 hr with⟨e1,e2⟩|h;(.rw[e2] at ht;obtain⟨r0,m0,e0,t0⟩:=Oj (HH.mp ht).1;exact⟨r0,m0,by rw[e0,e1],t0⟩);.exact⟨r,h,rfl,ht⟩
 have st:JJ qs ls (qs.set i (q,Ov G ta tb)) ls:=JJ.less hi (λt ht=>ht) (λl hl _=>hl) key (A' _);refine⟨x.step hi (x.wl.same hi (s.drop ta tb) rfl rfl rfl) (λt ht=>.inl ht) st (x.rc.less hi (λl h=>h) λt ht ne=>⟨?_,A' _⟩),st⟩;rcases ht with h|⟨r,hr,h⟩;.exact .inl h
 .obtain⟨r0,m0,_,t0⟩:=key r hr t h;exact .inr ⟨r0,m0,t0⟩
theorem Wg.take(x:Wg D m n sh qs ls)(hi:qs[i]?=some (q,G)){ta tb:T2}(ha:ta∈G.hand)(hb:tb∈Ce G.holds ta):Wg D m (n+1) sh (qs.set i (q,Qj G tb)) ls/\JJ qs ls (qs.set i (q,Qj G tb)) ls:=by
 obtain⟨s,nu⟩:=x.BP hi;have st:JJ qs ls (qs.set i (q,Qj G tb)) ls:=λX y=>y.next hi (λt ht=>by rcases DB.mp ht with h|h;(.exact .inl h);.refine .inr λz=>?_;rw[h] at z;obtain⟨r0,m0,e0,t0⟩:=Oj hb;exact y.hand i q G hi ta ha (by rw[<-e0];exact y.hold i q G hi r0 m0 tb t0 z)) (λl hl _=>.inl hl) (λr hr t ht=>.inl ⟨r,hr,rfl,ht⟩) (A' _);refine⟨x.step hi (x.wl.same hi (s.take hb) rfl rfl rfl) (λt ht=>.inl ht) st (x.rc.less hi (λl h=>h) λt ht ne=>⟨?_,A' _⟩),st⟩;rcases ht with h|h;.rcases DB.mp h with h|h;(.exact .inl h);.rw[h];exact Ki hb
 .exact .inr h
theorem Wg.free(x:Wg D m n sh qs ls)(hi:qs[i]?=some (q,G))(tb:T2):Wg D m (n+1) sh (qs.set i (q,Ql G tb)) ls/\JJ qs ls (qs.set i (q,Ql G tb)) ls:=by
 obtain⟨s,nu⟩:=x.BP hi;have st:JJ qs ls (qs.set i (q,Ql G tb)) ls:=JJ.less hi (λt ht=>(HH.mp ht).1) (λl hl _=>hl) (λr hr t ht=>⟨r,hr,rfl,ht⟩) (A' _);refine⟨x.step hi (x.wl.same hi (s.free tb) rfl rfl rfl) (λt ht=>.inl ht) st (x.rc.less hi (λl h=>h) λt ht ne=>⟨?_,A' _⟩),st⟩;rcases ht with h|h;.exact .inl (HH.mp h).1
 .exact .inr h
theorem Mz(hi:qs[i]?=some (q,G)){l:LT}(hb:l.th∈G.hand)(h1:G'.hand=G.hand)(h2:G'.holds=G.holds)(h3:G'.AY=G.AY):JJ qs ls (qs.set i (q,G')) (ls++[l]):=λX y=>y.next hi (λt ht=>.inl (by rw[<-h1];exact ht)) (λl' hl _=>by rcases ZI hl with h|h;(.exact .inl h);.rw[ZK h];exact .inr (y.hand i q G hi _ hb)) (λr hr t ht=>.inl ⟨r,by rw[<-h2];exact hr,rfl,ht⟩) (by rw[h3];exact A' _)
theorem Xi(h1:G'.hand=G.hand)(h2:G'.holds=G.holds)(h:PH G' t):PH G t:=by unfold PH at *;rw[h1,h2] at h;exact h
theorem Wg.OS(x:Wg D m n sh qs ls)(hi:qs[i]?=some (q,G)){b:T2}(hb:b∈G.hand)(hn:b.1=G.BP){g:Int}(g0:0<=g)(g1:g<m):Wg D m (n+1) sh (qs.set i (q,Xl G b (Ag G.AF b+sh))) (ls++[⟨"hold",(i:Int),g,b,sh⟩])/\JJ qs ls (qs.set i (q,Xl G b (Ag G.AF b+sh))) (ls++[⟨"hold",(i:Int),g,b,sh⟩]):=by
 obtain⟨s,nu⟩:=x.BP hi;have st:=Mz (ls:=ls) (G':=Xl G b (Ag G.AF b+sh)) (l:=⟨"hold",(i:Int),g,b,sh⟩) hi hb rfl rfl rfl;refine⟨x.step hi (x.wl.OS hi hb hn g0 g1) (λt ht=>.inl ?_) st (x.rc.less hi (λl h=>ZB _ h) λt ht ne=>⟨Xi (G:=G) rfl rfl ht,A' _⟩),st⟩;have ht:t∈(Ba G.AF b (Ag G.AF b+sh)).map (·.1):=ht;rcases(Du _ _ _).2.2 t ht with h|h;.rw[h];exact s.ok.hk b hb hn
 .exact h
theorem Wg.QJ(x:Wg D m n sh qs ls)(hi:qs[i]?=some (q,G)){b:T2}(hb:b∈G.hand)(hf:b.1≠G.BP){g:Int}(g0:0<=g)(g1:g<m)(w2:2<=Ag G.AM b) : Wg D m (n+1) sh (qs.set i (q,Li G b (Ag G.AM b-Ag G.AM b / 2))) (ls++[⟨"hold",(i:Int),g,b,Ag G.AM b / 2⟩])/\JJ qs ls (qs.set i (q,Li G b (Ag G.AM b-Ag G.AM b / 2))) (ls++[⟨"hold",(i:Int),g,b,Ag G.AM b / 2⟩]):=by
 have st:=Mz (ls:=ls) (G':=Li G b (Ag G.AM b-Ag G.AM b / 2)) (l:=⟨"hold",(i:Int),g,b,Ag G.AM b / 2⟩) hi hb rfl rfl rfl;refine⟨x.step hi (x.wl.QJ hi hb hf g0 g1 w2) (λt ht=>.inl ht) st (x.rc.next hi (λj t _ p=>p.mono λl h=>ZB _ h) λt ht ne=>?_),st⟩;show 1<=Ag (Ba G.AM b _) t\/_;rw[Cu];by_cases c:t=b;.rw[AE c];exact .inl (by lia)
 .rw[AB c];rcases x.rc i q G hi t (Xi (G:=G) rfl rfl ht) ne with h|h;(.exact .inl h);.exact .inr (h.mono λl h=>ZB _ h)
theorem Wg.OR(x:Wg D m n sh qs ls)(hi:qs[i]?=some (q,G)){b:T2}(hb:b∈G.hand)(hf:b.1≠G.BP){g:Int}(g0:0<=g)(g1:g<m)(w1:Ag G.AM b=1) : Wg D m (n+1) sh (qs.set i (q,Li G b 0)) (ls++[⟨"pass",(i:Int),b.1,b,g⟩])/\JJ qs ls (qs.set i (q,Li G b 0)) (ls++[⟨"pass",(i:Int),b.1,b,g⟩]):=by
 have st:=Mz (ls:=ls) (G':=Li G b 0) (l:=⟨"pass",(i:Int),b.1,b,g⟩) hi hb rfl rfl rfl;refine⟨x.step hi (x.wl.OR hi hb hf g0 g1 w1) (λt ht=>.inl ht) st (x.rc.next hi (λj t _ p=>p.mono λl h=>ZB _ h) λt ht ne=>?_),st⟩;show 1<=Ag (Ba G.AM b 0) t\/_;rw[Cu];by_cases c:t=b;.exact .inr ⟨_,ZC _ (DM.mpr rfl),c.symm,.inl ⟨rfl,rfl⟩⟩
 .rw[AB c];rcases x.rc i q G hi t (Xi (G:=G) rfl rfl ht) ne with h|h;(.exact .inl h);.exact .inr (h.mono λl h=>ZB _ h)
end
section
theorem Tf:¬(("hold":Str)="back"):=ZV
theorem Td:¬(("pass":Str)="back"):=ZV
theorem Ke:¬(("hold":Str)="more"):=ZV
theorem Tg:¬(("back":Str)="more"):=ZV
theorem Th:¬(("back":Str)="hold"):=ZV
theorem Te:¬(("more":Str)="hold"):=ZV
theorem Wt.gD(h:Wt kind G tb x G'):(∀t∈G'.hand,t∈G.hand\/(kind="hold"/\t=tb))/\G'.holds=G.holds/\G'.AY=G.AY/\G'.BP=G.BP/\G'.AZ=G.AZ+1/\(∀t,Ag G.AM t=Ag G'.AM t\/(t=tb/\Ag G'.AM t=Ag G.AM t+x))/\(∀t∈G'.AF.map (·.1),t∈G.AF.map (·.1)) /\ (kind="more"->Ag G'.AM tb=Ag G.AM tb+x)/\(kind="hold"->tb.1≠G.BP->Ag G'.AM tb=Ag G.AM tb+x):=by
 have put:∀t,Ag (Ba G.AM tb (Vq G.AM tb+x)) t=if t=tb then Ag G.AM tb+x else Ag G.AM t:=λt=>by rw[Cu];rfl
 rcases h with⟨k,⟨c,o,f,e⟩|⟨c,e⟩⟩|⟨k,e⟩|⟨k,e⟩;.refine⟨λt ht=>?_,by rw[e],by rw[e],by rw[e],by rw[e],λt=>.inl (by rw[e]),λt ht=>?_,λz=>absurd (k.symm.trans z) Ke,λ_ z=>absurd c z⟩;(.rw[e] at ht;rcases DB.mp ht with h|h;(.exact .inl h);.exact .inr ⟨k,h⟩);.rw[e] at ht;rcases(Du _ _ _).2.2 t ht with h|h;(.rw[h];exact AI.mpr ⟨_,AX f,rfl⟩);.exact h
 .refine⟨λt ht=>?_,by rw[e],by rw[e],by rw[e],by rw[e],λt=>?_,λt ht=>by rw[e] at ht;exact ht,λz=>absurd (k.symm.trans z) Ke,λ_ _=>by rw[e];show Ag (Ba G.AM tb _) tb=_;rw[put,AE rfl]⟩;(.rw[e] at ht;rcases DB.mp ht with h|h;(.exact .inl h);.exact .inr ⟨k,h⟩);.rw[e];show Ag G.AM t=Ag (Ba G.AM tb _) t\/_;by_cases d:t=tb;(.exact .inr ⟨d,by show Ag (Ba G.AM tb _) t=_;rw[put,AE d,d]⟩);.exact .inl (by rw[put,AB d])
 .refine⟨λt ht=>by rw[e] at ht;exact .inl ht,by rw[e],by rw[e],by rw[e],by rw[e],λt=>?_,λt ht=>by rw[e] at ht;exact ht,λ_=>by rw[e];show Ag (Ba G.AM tb _) tb=_;rw[put,AE rfl],λz=>absurd (k.symm.trans z) Te⟩;rw[e];show Ag G.AM t=Ag (Ba G.AM tb _) t\/_;by_cases d:t=tb;(.exact .inr ⟨d,by show Ag (Ba G.AM tb _) t=_;rw[put,AE d,d]⟩);.exact .inl (by rw[put,AB d])
 .refine⟨λt ht=>by rw[e] at ht;exact .inl ht,by rw[e],by rw[e],by rw[e],by rw[e],λt=>.inl (by rw[e]),λt ht=>?_,λz=>absurd (k.symm.trans z) Tg,λz=>absurd (k.symm.trans z) Th⟩;rw[e] at ht;have ht:t∈(UY G tb x).map (·.1):=ht;unfold UY at ht;by_cases c:tb∈G.AF.map (·.1);(.rw[AE c] at ht;rcases(Du _ _ _).2.2 t ht with h|h;(.rw[h];exact c);.exact h);.rw[AB c] at ht;exact ht
theorem Wg.wt(x:Wg D m n sh qs ls){a b:List LT}{l:LT}(es:ls=a++l::b)(np:l.kind≠"pass")(hi:qs[l.g.toNat]?=some (q,G)) : ∃G',Wt l.kind G l.th l.x G'/\Wg D m (n+1) sh (qs.set l.g.toNat (q,G')) (a++b)/\JJ qs ls (qs.set l.g.toNat (q,G')) (a++b):=by
 have hl:l∈ls:=by rw[es];exact ZC _ (ZL ..)
 have hC:l.kind≠"back"->¬D l.th\/YQ qs l.th:=λnb=>.inl (x.sD.RB l hl nb);obtain⟨G',wt,w⟩:=x.wl.wt es np hC hi;obtain⟨h1,h2,h3,h4,_,h5,h6,h7,h8⟩:=wt.gD;obtain⟨s,nu⟩:=x.BP hi;obtain⟨g0,g1,ib,kk⟩:=x.wl.ok l hl;rw[BH g0] at nu;have sub:∀z∈a++b,z∈ls:=λz hz=>by rw[es];exact mem_mid hz
 have st:JJ qs ls (qs.set l.g.toNat (q,G')) (a++b):=λX y=>y.next hi (λt ht=>by rcases h1 t ht with h|⟨k,e⟩;(.exact .inl h);.rw[e];exact .inr (y.RB l hl (by rw[k];exact Tf))) (λz hz _=>.inl (sub z hz)) (λr hr t ht=>.inl ⟨r,by rw[<-h2];exact hr,rfl,ht⟩) (by rw[h3];exact A' _);have x1:1<=l.x:=by rcases kk with⟨_,h⟩|⟨_,h,_⟩|⟨_,h,_⟩|⟨k,_⟩;(.exact h);(.exact h);(.exact h);.exact absurd k np
 refine⟨G',wt,x.step hi w (λt ht=>.inl (h6 t ht)) st (x.rc.next hi (λj t ne p=>?_) λt ht ne=>?_),st⟩;.obtain⟨z,hz,e,c⟩:=p;rw[es] at hz;rcases ZI hz with hz|hz;(.exact⟨z,ZB _ hz,e,c⟩);.rcases ZM hz with hz|hz;(.rw[hz] at c;rcases c with⟨k,_⟩|⟨_,g⟩;(.exact absurd k np);.exact absurd (by rw[g];rfl) ne);.exact⟨z,ZC _ hz,e,c⟩
 .rw[BH g0] at ne;have r0:=Iv s.nn t;by_cases d:t=l.th;(.subst d;rcases kk with⟨k,_⟩|⟨k,_⟩|⟨k,_,eg⟩|⟨k,_⟩;(.exact .inl (by rw[h8 k (by rw[nu];exact ne)];lia));(.exact .inl (by rw[h7 k];lia));(.exact absurd eg.symm ne);.exact absurd k np);·(have hd:PH G t:=by rcases ht with h|⟨r,hr,h⟩;(.rcases h1 t h with h|⟨_,h⟩;(.exact .inl h);.exact absurd h d);.exact .inr ⟨r,by rw[<-h2];exact hr,h⟩);(have er:Ag G'.AM t=Ag G.AM t:=by rcases h5 t with h|⟨h,_⟩;(.exact h.symm);.exact absurd h d);rcases x.rc _ q G hi t hd (by rw[BH g0];exact ne) with h|⟨z,hz,e,c⟩;(.exact .inl (by rw[er];exact h));.refine .inr ⟨z,?_,e,c⟩;rw[es] at hz;rcases ZI hz with hz|hz;(.exact ZB _ hz);.rcases ZM hz with hz|hz;(.exact absurd (by rw[<-e,hz]) d);.exact ZC _ hz
theorem Jy(JI:tb∈G.AF.map (·.1)):∀t∈(ZX G tb sh F').map (·.1),t∈G.AF.map (·.1):=λt ht=>by unfold ZX at ht;rcases(Du _ _ _).2.2 t ht with h|h;(.rw[h];exact JI);.exact h
theorem Wg.pass(x:Wg D m n sh qs ls){a b:List LT}{l:LT}(es:ls=a++l::b)(hp:l.kind="pass")(hi:qs[l.th.1.toNat]?=some (q,G)):l.th∈G.AF.map (·.1) /\ (l.x=l.th.1->Wg D m (n+1) sh (qs.set l.th.1.toNat (q,F4 G l.th sh true)) (a++b++[⟨"more",l.th.1,l.s,l.th,sh⟩])/\JJ qs ls (qs.set l.th.1.toNat (q,F4 G l.th sh true)) (a++b++[⟨"more",l.th.1,l.s,l.th,sh⟩])) /\ (l.x≠l.th.1->Wg D m (n+1) sh (qs.set l.th.1.toNat (q,F4 G l.th sh false)) (a++b++[⟨"hold",l.th.1,l.x,l.th,sh⟩]++[⟨"more",l.th.1,l.s,l.th,sh⟩])/\JJ qs ls (qs.set l.th.1.toNat (q,F4 G l.th sh false)) (a++b++[⟨"hold",l.th.1,l.x,l.th,sh⟩]++[⟨"more",l.th.1,l.s,l.th,sh⟩])):=by
 have hl:l∈ls:=by rw[es];exact ZC _ (ZL ..)
 have nb:l.kind≠"back":=by rw[hp];exact Td
 obtain⟨JI,p1,p2⟩:=x.wl.pass es hp (.inl (x.sD.RB l hl nb)) hi;obtain⟨s,nu⟩:=x.BP hi;obtain⟨g0,g1,ib,kk⟩:=x.wl.ok l hl;have sub:∀z∈a++b,z∈ls:=λz hz=>by rw[es];exact mem_mid hz
 have qH:∀(F':Bool)(more:List LT),(∀z∈more,z.th=l.th)->JJ qs ls (qs.set l.th.1.toNat (q,F4 G l.th sh F')) (a++b++more):=λF' more hm X y=>y.next hi (λt ht=>by have ht:t∈WU G l.th F':=ht;unfold WU at ht;cases F';(.exact .inl ht);.rcases DB.mp ht with h|h;(.exact .inl h);.rw[h];exact .inr (y.RB l hl nb)) (λz hz _=>by rcases ZI hz with hz|hz;(.exact .inl (sub z hz));.rw[hm z hz];exact .inr (y.RB l hl nb)) (λr hr t ht=>.inl ⟨r,hr,rfl,ht⟩) (A' _);have qV:∀(F':Bool)(more:List LT),(⟨"more",l.th.1,l.s,l.th,sh⟩:LT)∈more->QA (qs.set l.th.1.toNat (q,F4 G l.th sh F')) (a++b++more):=λF' more hm=>by (have pn:∀(j:Int) t,QB ls j t->QB (a++b++more) j t:=λj t ⟨z,hz,e,c⟩=>by rw[es] at hz;rcases ZI hz with hz|hz;(.exact⟨z,ZB _ (ZB _ hz),e,c⟩);.rcases ZM hz with hz|hz;(.rw[hz] at c e;rcases c with⟨_,c⟩|⟨k,_⟩;(.exact⟨_,ZC _ hm,e,.inr ⟨rfl,c⟩⟩);.rw[hp] at k;exact absurd k ZV);.exact⟨z,ZB _ (ZC _ hz),e,c⟩);refine x.rc.next hi (λj t _ p=>pn _ t p) λt ht ne=>?_;(have hd:PH G t:=by rcases ht with h|h;(.have h:t∈WU G l.th F':=h;unfold WU at h;cases F';(.exact .inl h);.rcases DB.mp h with h|h;(.exact .inl h);.refine absurd ?_ ne;rw[h,BH ib.1.1]);.exact .inr h);rcases x.rc _ q G hi t hd ne with h|h;(.exact .inl h);.exact .inr (pn _ t h)
 refine⟨JI,λe=>?_,λe=>?_⟩;·(have st:=qH true [⟨"more",l.th.1,l.s,l.th,sh⟩] λz hz=>by rw[ZK hz]);exact⟨x.step hi (p1 e) (λt ht=>.inl (Jy JI t ht)) st (qV true _ (DM.mpr rfl)),st⟩
 ·(have st:=qH false ([⟨"hold",l.th.1,l.x,l.th,sh⟩]++[⟨"more",l.th.1,l.s,l.th,sh⟩]) λz hz=>by rcases ZI hz with hz|hz<;>rw[ZK hz]);have rn:=qV false ([⟨"hold",l.th.1,l.x,l.th,sh⟩]++[⟨"more",l.th.1,l.s,l.th,sh⟩]) (ZC _ (DM.mpr rfl));rw[<-AW] at st rn;exact⟨x.step hi (p2 e) (λt ht=>.inl (Jy JI t ht)) st rn,st⟩
theorem Jct(h:PH (Iy G R) t):PH G t/\Bh (keepR G R) t=true:=by
 rcases h with h|⟨r,hr,h⟩;.have h:t∈G.hand:=h;exact⟨.inl h,by unfold Bh;rw[AJ (show t∈(keepR G R).hand from h)];rfl⟩
 .have hr:r∈(keepR G R).holds:=hr;refine⟨.inr ⟨r,(AD.mp hr).1,h⟩,?_⟩;unfold Bh;have:((keepR G R).holds.any λq=>decide (t∈q.2.2))=true:=JF.mpr ⟨r,hr,by simpa using h⟩;rw[this,Bool.or_true]
theorem Wg.clean(x:Wg D m n sh qs ls)(hi:qs[i]?=some (q,G))(rc:KQ (NX G.holds) k (startT G) [] R)(pm:rs.Perm G.AM) : Wg D m (n+1) sh (qs.set i (q,Iy G R)) (ls++(Bs (keepR G R) rs).map (Gd (i:Int)))/\JJ qs ls (qs.set i (q,Iy G R)) (ls++(Bs (keepR G R) rs).map (Gd (i:Int))):=by
 have st:JJ qs ls (qs.set i (q,Iy G R)) (ls++(Bs (keepR G R) rs).map (Gd (i:Int))):=JJ.less hi (λt ht=>ht) (λl hl nb=>by rcases ZI hl with h|h;(.exact h);.obtain⟨y,_,rfl⟩:=ZN h;exact absurd rfl nb) (λr hr t ht=>⟨r,(AD.mp hr).1,rfl,ht⟩) (A' _);refine⟨x.step hi (x.wl.clean hi (λt ht=>.inr ⟨i,q,G,hi,ht⟩) rc pm) (λt ht=>.inl ?_) st (x.rc.less hi (λl h=>ZB _ h) λt ht ne=>?_),st⟩;.exact(List.filter_sublist.map _).subset ht
 .obtain⟨h1,h2⟩:=Jct ht;refine⟨h1,?_⟩;show Ag G.AM t<=Ag (G.AM.filter λq=>Bh (keepR G R) q.1) t;rw[Dj G.AM (λt=>Bh (keepR G R) t) t,AE h2];exact A' _
end
end K61
namespace FX
open PySem PySem.Spec PyProof.Rows L2
section
theorem Vk(I:Inv X AA σ H s)(e:H d=some (.dK kvs)):∃o,s.heap.get? d=some o/\Inv X AA σ (upd H d (.FJ o (.dK kvs))) s:=by
 have ok:=I.CT d _ e;obtain⟨_,_,vs,_,o,es,ep,g,_⟩:=id ok;refine⟨o,g,Iu I ⟨_,e⟩ (λxs z=>by rw[e] at z;cases z) (λy z=>by rw[e] at z;cases z) (λob v z=>by have:=I.base.LF d ob v z;rw[e] at this;cases this) (λps z=>by rw[e] at z;cases z) ⟨g,?_⟩⟩;refine ok.OJ (λc w' _ q=>q) (λc q=>?_) λc xs q=>?_;.rw[Ab λz=>by rw[z,e] at q;cases q];exact q
 .rw[Ab λz=>by rw[z,e] at q;cases q];exact q
theorem u_(I:Inv X AA σ H s)(hg:H d=some (.FJ o (.dK kvs)))(hd:o.data=.dict es ep):∃vs,KV kvs vs/\(d==sysModules)=false/\s.heap.DictAt (Bp X.prog X.w) d vs ep:=by obtain⟨g,z,lo,vs,rel,o',bE,bF,g',c',q',k',p',n'⟩:=(show CZ X.prog X.w H s.heap d (.FJ o (.dK kvs)) from I.CT d _ hg);rw[g] at g';cases g';rw[hd] at q';injection q' with q1 q2;subst q1;subst q2;exact⟨vs,rel,lo,o,es,g,c',hd,k',p',n'⟩
end
def de(d:Addr)(kvs:List (Key×V))(o:Obj):It :=
 ⟨λi H=>H d=some (.FJ o (.dK kvs))/\i<kvs.length,λi H x H'=>H'=H/\∃k,kvs[i]?=some (k,x),λi H=>H d=some (.FJ o (.dK kvs))/\kvs.length<=i⟩
theorem T4{P:Program}{w:World}{K:W.Frag}{tg:Expr}(d it:Addr)(kvs:List (Key×V))(o:Obj)(es:Array DictEntry)(ep:Nat)(hd:o.data=.dict es ep):Turn P w K tg (de d kvs o) [it] it (λi h=>h.IsValIter it d i kvs.length ep) where
 mem:=by simp
 obj:=λi h st b hb=>by
  have e:b=it:=by simpa using hb
  subst e
  obtain⟨oi,e,c,q⟩:=st
  exact⟨oi,e,λv z=>by rw[q] at z;cases z⟩
 keep:=λi h h' ⟨oi,e,r⟩ k=>⟨oi,k it (by simp) oi e,r⟩
 item:=by
  intro X hP hw hK hc i AA s σ H E I hf st ⟨hg,hi⟩
  subst hP hw hK
  obtain⟨f0,f1,f2,f3,f4,f5⟩:=hf it (by simp)
  obtain⟨vs,rel,lo,da⟩:=u_ I hg hd
  have hl:kvs.length=vs.length:=Paired.length rel
  have hx:kvs[i]?=some kvs[i]:=by simp[hi]
  have hy:vs[i]?=some (vs[i]'(by lia)):=by simp[show i<vs.length by lia]
  obtain⟨ek,rv⟩:=Ax rel i _ _ hx hy
  have OY:s.heap.IsValIter it d i vs.length ep:=by rw[<-hl];exact st
  refine wpAny_pyNext_values_item OY da (k:=(vs[i]'(by lia)).1) (v:=(vs[i]'(by lia)).2) hy λh' ak sb=>?_
  have I1:Inv X AA σ H { s with heap:=h' }:=I.turned (t':=s.toks) (λb ob hb e=>(sb.2 b hb).trans e) f0 f1 f3 f4 f5
  obtain⟨oi,e,c,q⟩:=id ak
  exact⟨_,rfl,Vo (s:={ s with heap:=h' }) e c q (by decide) ⟨kvs[i].2,H,I1,rv,⟨rfl,kvs[i].1,hx⟩,(by rw[hl];exact ak),λb hb=>(hf b hb).1⟩⟩
 done:=by
  intro X hP hw hK hc i AA s σ H E I hf st ⟨hg,hi⟩
  subst hP hw hK
  obtain⟨f0,f1,f2,f3,f4,f5⟩:=hf it (by simp)
  obtain⟨vs,rel,lo,da⟩:=u_ I hg hd
  have hl:kvs.length=vs.length:=Paired.length rel
  have OY:s.heap.IsValIter it d i vs.length ep:=by rw[<-hl];exact st
  exact wpAny_pyNext_values_end (I.ok.hd hc) OY da (by rw[List.getElem?_eq_none_iff];lia) λh' eb=>⟨rfl,I.turned (t':=s.toks) (λb ob hb e=>eb b ob hb e) f0 f1 f3 f4 f5⟩
 self:=λ_ _ _ _ _ st h=>wpAny_pyIter_valiter st h
section
def Jik(td:TE):TI:=λσ H R=>td σ H λx H1=>∃p d kvs,x=.ref p/\H1 p=some (Gu p d)/\H1 d=some (.dK kvs)/\∀o,R (de d kvs o) (upd H1 d (.FJ o (.dK kvs)))
theorem Pu{l:Expr}{td:TE}(hl:PE X l td):PI X tg l (Jik td):=by
 intro AA s σ H R I h;refine DU (hl AA s σ H _ I h) ?_;rintro v s1 ⟨x,H1,I1,r1,p,d,kvs,ex,hp,hd,hR⟩;subst ex;cases r1;obtain⟨o,g,I2⟩:=Vk I1 hd;obtain⟨z,lo,vs,rel,o',es,ep,g',c',q',k',p',n'⟩:=(show CZ X.prog X.w H1 s1.heap d (.dK kvs) from I1.CT d _ hd);rw[g] at g';cases g';have hlen:kvs.length=vs.length:=Paired.length rel;have da:s1.heap.DictAt (Bp X.prog X.w) d vs ep:=⟨o,es,g,c',q',k',p',n'⟩;have hv:s1.heap.IsValuesView p d:=(I1.CT p _ hp).1;refine wpAny_pyIter_values hv da ?_;have fresh:=I2.CT.fresh (ZG _);have I3:Inv X AA σ (upd H1 d (.FJ o (.dK kvs))) { s1 with heap:=s1.heap.push { cls:=.type "dict_valueiterator",data:=.fields #[.ref d,.int 0 0,.int vs.length 0,.int ep 0] } }:=I2.kept (t':=s1.toks) λb ob e=>ZT _ e;refine⟨s1.heap.objs.size,[s1.heap.objs.size],_,de d kvs o,_,rfl,I3,T4 d _ kvs o es ep q',(by rw[hlen];exact⟨_,ZU _ rfl,rfl,rfl⟩),λb hb=>?_,hR o⟩;have e:b=s1.heap.objs.size:=by simpa using hb
 subst e;exact I2.UM (ZG _) fresh
end
theorem Ol{d:Addr}{kvs:List (Key×V)}{ob:Obj}{g:TG}{tb:TS}{D:Ends}{σ:L2.St}{H:Hp}(Pv:Nat->L2.St->Hp->Prop)(h0:Pv 0 σ H)(hf:∀i σ H,i<=kvs.length->Pv i σ H->H d=some (.FJ ob (.dK kvs)))(hs:∀i k v σ H,kvs[i]?=some (k,v)->Pv i σ H->g v σ H λNV H2=>tb { D with nx:=Pv (i+1),ct:=Pv (i+1),bk:=D.nx } NV H2)(hd:∀σ H,Pv kvs.length σ H->D.nx σ H) : ∃W:Nat->Nat->L2.St->Hp->Prop,(∃m,W 0 m σ H)/\∀i m σ H,W i m σ H -> ((de d kvs ob).stop i H/\D.nx σ H)\/((de d kvs ob).go i H/\∃N:L2.St->Hp->Prop,(∀EV H',N EV H'->∃m',m'<m/\W (i+1) m' EV H')/\∀x H',(de d kvs ob).SU i H x H'->g x σ H' λNV H2=>tb { D with nx:=N,ct:=N,bk:=D.nx } NV H2):=by
 refine⟨λi m σ H=>m=kvs.length-i/\i<=kvs.length/\Pv i σ H,⟨kvs.length,by simp,BF _,h0⟩,?_⟩;rintro i m σ H ⟨rfl,hi,pv⟩;have fz:=hf i σ H hi pv;by_cases JL:i<kvs.length;.refine .inr ⟨⟨fz,JL⟩,Pv (i+1),λEV H' p'=>⟨kvs.length-(i+1),by lia,rfl,JL,p'⟩,λx H' y=>?_⟩;obtain⟨e,k,ek⟩:=y;subst e;exact hs i k x σ _ ek pv
 ·(have e:i=kvs.length:=by lia);subst e;exact .inl ⟨⟨fz,ZG _⟩,hd σ H pv⟩
section
end
theorem Xb(h1:IS a b)(h2:IS b c):IS a c:=by rw[E3] at *;lia
theorem Su(h:a≠b)(h1:¬IS a b):IS b a:=by rw[E3] at *;have:¬(a.1=b.1/\a.2=b.2):=λz=>h (Prod.ext z.1 z.2);lia
theorem Jn(key:α->T2)(x:α):∀{s:List α},(s.map key).Pairwise IS->(∀y∈s,key x≠key y)->∃s':List α,s'.Perm (x::s)/\(s'.map key).Pairwise IS
 | [],_,_=>⟨[x],.refl _,by simp⟩
 | y::s,h,ne=>by have h':=EA.mp h;by_cases e:IS (key x) (key y);(.refine⟨x::y::s,.refl _,EA.mpr ⟨λz hz=>?_,h⟩⟩;rcases ZM hz with rfl|hz;(.exact e);.exact Xb e (h'.1 z hz));.obtain⟨s',p,q⟩:=Jn key x h'.2 λz hz=>ne z (ZD _ hz);refine⟨y::s',(p.cons y).trans (List.Perm.swap x y s),EA.mpr ⟨λz hz=>?_,q⟩⟩;obtain⟨u,hu,rfl⟩:=ZN hz;rcases ZM (p.mem_iff.mp hu) with rfl|hu;(.exact Su (ne y (ZL ..)) e);.exact h'.1 _ (BD hu)
theorem sorts(key:α->T2):∀{l:List α},(l.map key).Nodup->∃s:List α,s.Perm l/\(s.map key).Pairwise IS
 | [],_=>⟨[],.refl _,by simp⟩
 | x::l,nd=>by have KH:=AV.mp nd;obtain⟨s,p,q⟩:=sorts key KH.2;obtain⟨s',p',q'⟩:=Jn key x q λy hy e=>KH.1 (AI.mpr ⟨y,p.mem_iff.mp hy,e.symm⟩);exact⟨s',p'.trans (p.cons x),q'⟩
theorem LZ{a b c:Str}{k:NameKind}{cl:List (Str×Addr)}{y:Str}(hc:∃z,cl.lookup c=some z)(h:([(a,NameKind.local),(b,NameKind.local),(c,k)]:List (Str×NameKind)).lookup y=some .cell\/([(a,NameKind.local),(b,NameKind.local),(c,k)]:List (Str×NameKind)).lookup y=some .free):∃z,cl.lookup y=some z :=Tp (λp hp hk=>by simp only[BZ,DN,KW] at hp;rcases hp with rfl|rfl|rfl;(.rcases hk with hk|hk<;>cases hk);(.rcases hk with hk|hk<;>cases hk);.exact hc) h
theorem V0{K:W.Frag}{a p:Addr}{xs:List V}{tt:TT}{te:TE}{caps:List (Str×Nat)}{σ:L2.St}{H:Hp}{Q:Hp->Prop}(Pv:Nat->List V->Hp->Prop)(h0:Pv 0 [] (upd H p (.BI [])))(hl:∀i ys H2,i<=xs.length->Pv i ys H2->CL K H2 a xs/\H2 p=some (.BI ys))(hs:∀i x ys H2 (N:List V->Hp->Prop),xs[i]?=some x->Pv i ys H2->(∀ys H,Pv (i+1) ys H->N ys H)->tt (some x::Ds σ caps) H2 λb H4 =>if b=true then te (some x::Ds σ caps) H4 λv H5=>H5 p=some (.BI ys)/\ys.length<sizeLine/\N (ys++[v]) (upd H5 p (.BI (ys++[v]))) else N ys H4)(hd:∀ys H2,Pv xs.length ys H2->Q H2) : ∃W:Nat->Nat->List V->Hp->Prop,(∃m,W 0 m [] (upd H p (.BI [])))/\∀i m ys H2,W i m ys H2->H2 p=some (.BI ys) /\ (((VQ K a).stop i H2/\Q H2)\/((VQ K a).go i H2/\∀x H3,(VQ K a).SU i H2 x H3->tt (some x::Ds σ caps) H3 λb H4 =>if b=true then te (some x::Ds σ caps) H4 λv H5=>H5 p=some (.BI ys)/\ys.length<sizeLine/\∃m',m'<m/\W (i+1) m' (ys++[v]) (upd H5 p (.BI (ys++[v]))) else ∃m',m'<m/\W (i+1) m' ys H4)):=by
 refine⟨λi m ys H=>m=xs.length-i/\i<=xs.length/\Pv i ys H,⟨xs.length,by simp,BF _,h0⟩,?_⟩;rintro i m ys H2 ⟨rfl,hi,pv⟩;obtain⟨q1,q2⟩:=hl i ys H2 hi pv;refine⟨q2,?_⟩;by_cases JL:i<xs.length;.refine .inr ⟨⟨xs,xs[i],q1,by simp[JL]⟩,λx H3 y=>?_⟩;obtain⟨e,y⟩:=y;subst e;exact hs i x ys _ (λzs H'=>∃m',m'<xs.length-i/\(m'=xs.length-(i+1)/\i+1<=xs.length/\Pv (i+1) zs H')) (y xs q1) pv λzs H' pz=>⟨_,by lia,rfl,JL,pz⟩
 ·(have e:i=xs.length:=by lia);subst e;exact .inl ⟨⟨xs,q1,ZG _⟩,hd ys H2 pv⟩
theorem ud:∀{ds:List PyData},(∀d∈ds,d.canLay0=true/\d.depth<=n)->PyData.canLayAll0 ds=true/\PyData.depthAll ds<=n
 | [],_=>⟨by simp[PyData.canLayAll0],by simp[PyData.depthAll]⟩
 | d::ds,h=>by obtain⟨h1,h2⟩:=ud λz hz=>h z (ZD _ hz);obtain⟨h3,h4⟩:=h d (ZL ..);exact⟨by simp[PyData.canLayAll0,h1,h3],by simp only[PyData.depthAll];lia⟩
theorem Ou(ds:List PyData):PyData.eqv (.list ds) (.list [])=ds.isEmpty:=by cases ds<;>simp[PyData.eqv,PyData.eqvAll]
theorem Vt(ds:List PyData):PyData.eqv (.tuple ds) (.tuple [])=ds.isEmpty:=by cases ds<;>simp[PyData.eqv,PyData.eqvAll]
abbrev HS:=List T2×List (T2×Int×List T2)×List (T2×Int)
def V'(K:W.Frag)(H:Hp)(v:V)(r:T2×Int×List T2):Prop:=∃(a t hd:Addr)(cs:List Addr),v=.ref a/\CL K H a [.ref t,.int r.2.1,.ref hd]/\H t=some (.BC (tv r.1))/\CL K H hd (cs.map V.ref)/\BB H cs r.2.2
def WA(K:W.Frag)(H:Hp)(v:V)(q:T2×Int):Prop:=∃(a t:Addr),v=.ref a/\CL K H a [.ref t,.int q.2]/\H t=some (.BC (tv q.1))
def PV(K:W.Frag)(H:Hp)(x:Addr)(S:HS):Prop:=∃(y1 y2 y3:Addr)(as:List Addr)(bs ds:List V),CL K H x [.ref y1,.ref y2,.ref y3]/\CL K H y1 (as.map V.ref)/\BB H as S.1/\CL K H y2 bs/\Paired (V' K H) bs S.2.1/\CL K H y3 ds/\Paired (WA K H) ds S.2.2
section
variable {K:W.Frag}{H H':Hp}
theorem V'.keep(k:BU H H'){v:V}{r:T2×Int×List T2}(h:V' K H v r):V' K H' v r:=by obtain⟨a,t,hd,cs,e,e1,e2,e3,th⟩:=h;exact⟨a,t,hd,cs,e,k.sq e1,k.BC _ _ e2,k.sq e3,BB.keep k th⟩
theorem WA.keep(k:BU H H'){v:V}{q:T2×Int}(h:WA K H v q):WA K H' v q:=by obtain⟨a,t,e,e1,e2⟩:=h;exact⟨a,t,e,k.sq e1,k.BC _ _ e2⟩
theorem PV.keep(k:BU H H'){x:Addr}{S:HS}(h:PV K H x S):PV K H' x S:=by obtain⟨y1,y2,y3,as,bs,ds,e,e1,t1,e2,t2,e3,t3⟩:=h;exact⟨y1,y2,y3,as,bs,ds,k.sq e,k.sq e1,BB.keep k t1,k.sq e2,As (λ_ _ r=>r.keep k) t2,k.sq e3,As (λ_ _ r=>r.keep k) t3⟩
end
section
variable {p:Addr}{b:T2->Bool}{ts:List T2}{H:Hp}{tt:TT}{caps:List (Str×Nat)}{σ:L2.St}{Q:Hp->Prop}
theorem Vs{K:W.Frag}{l:Addr}{as:List Addr}(hp:H p=none)(hz:ts.length<=900)(hl:CL K H l (as.map V.ref))(th:BB H as ts)(ht:∀(H2:Hp) (a:Addr) (t:T2) (Q':Bool->Hp->Prop),Bi H H2->H2 a=some (.BC (tv t))->t∈ts->Q' (b t) H2->tt (some (.ref a)::Ds σ caps) H2 Q')(k:∀(H2:Hp) (bs:List Addr),Bi H H2->H2 p=some (.BI (bs.map V.ref))->BB H2 bs (ts.filter b)->Q H2) : ∃W:Nat->Nat->List V->Hp->Prop,(∃m,W 0 m [] (upd H p (.BI [])))/\∀i m ys H2,W i m ys H2->H2 p=some (.BI ys) /\ (((VQ K l).stop i H2/\Q H2)\/((VQ K l).go i H2/\∀x H3,(VQ K l).SU i H2 x H3->tt (some x::Ds σ caps) H3 λb H4 =>if b=true then B6 0 (some x::Ds σ caps) H4 λv H5=>H5 p=some (.BI ys)/\ys.length<sizeLine/\∃m',m'<m/\W (i+1) m' (ys++[v]) (upd H5 p (.BI (ys++[v]))) else ∃m',m'<m/\W (i+1) m' ys H4)):=by
 have lt:=Paired.length th;refine V0 (K:=K) (a:=l) (p:=p) (xs:=as.map V.ref) (caps:=caps) (λi ys H2=>IF p b ts H i ys H2) (IF.start hp) (λi ys H2 _ pv=>?_) (λi x ys H2 N hx pv n=>?_) λys H2 pv=>?_;.obtain⟨bs,_,sm,FH,_⟩:=pv;exact⟨(HN sm).sq hl,FH⟩
 .rw[ZH] at hx;cases ea:as[i]? with | none=>rw[ea] at hx;cases hx | some a =>rw[ea] at hx;have hx:V.ref a=x:=ZO hx;subst hx;obtain⟨t,et⟩:=Au (xs:=ts) (j:=i) (by have:=(ZJ ea).1;lia);have ha:=Ax th i a t ea et;obtain⟨bs,e0,sm,FH,QW⟩:=id pv;exact nB hp hz ht pv et (sm _ _ ha) n
 .obtain⟨bs,ey,sm,FH,QW⟩:=pv;rw[ZA,lt,BM] at QW;exact k H2 bs sm (by rw[<-ey];exact FH) QW
end
def Jbo(K:W.Frag):V->List V->Hp->VK->Prop:=λx vs H Q=>∃l b xs zs,x=.ref l/\vs=[.ref b]/\H l=some (.BI xs)/\CL K H b zs/\xs.length+zs.length<=sizeLine/\Q .EE (upd H l (.BI (xs++zs)))
theorem Wz:fq X "list.extend" (Jbo X.K):=by
 intro AA s σ H x vs v us Q I rx rv h;obtain⟨l,b,xs,zs,rfl,rfl,hH,hB,hz,q⟩:=h;cases rx;obtain⟨u,rfl,ru⟩:=rv.one;cases ru;obtain⟨z,its,n,r,hl,e⟩:=I.SD hH;obtain⟨NO,r2,⟨o2,e2,c2,n2,q2⟩,z2⟩:=I.tuple hB;have l1:=r.length;have l2:=r2.length;have hsz:its.toArray.size+NO.toArray.size<=sizeLine:=by rw[A_,A_];lia
 have WE:¬(!its.toArray.isEmpty&&Builtin.List.listTooLong (its.toArray.size+NO.toArray.size))=true:=by rw[U3 hsz,Bool.and_false];exact AL
 refine CY F.slot_list_extend ⟨_,e,rfl⟩ F.entry_list_extend ?_ (F.args_list_extend_2 _ _);show wpAny _ _ (Builtin.List.listExtendWith (.ref l) (.ref b) .none) _ _ s;unfold Builtin.List.listExtendWith;refine ZR (wpAny_typeOf (T:="tuple") ⟨o2,e2,c2⟩ ?_);have ht:(Value.type "tuple" == Value.type "tuple")=true:=by rfl
 rw[AE (by rw[ht];simp)];refine ZR (listItems_at e2 q2 (ZR (listItems_at e rfl ?_)));rw[AB WE];refine ZR (listUpdate_at e rfl ?_ (by rw[A_];lia) (show(its.toArray++NO.toArray).size<=sizeLine+1 by rw[Array.size_append];lia));refine ZS ⟨_,rfl,⟨.EE,_,I.YV (its':=its++NO) hH e (by simp) (r.append r2) ?_,rfl,q⟩⟩;rw[ZE];lia
def rowsOf(L:List HS):List (T2×Int×List T2):=L.flatMap (·.2.1)
def Ex(l:List (T2×Int))(t:T2):Int:=((l.find? λq=>decide (q.1=t)).map (·.2)).getD 0
def addW(a:List (T2×Int))(q:T2×Int):List (T2×Int):=Ba a q.1 (Ex a q.1+q.2)
def Ci(L:List HS):List (T2×Int):=(L.flatMap (·.2.2)).foldl addW []
inductive Led(L:List HS):T2->Prop
 | hand {S:HS} {t:T2} (h:S∈L) (m:t∈S.1):Led L t
 | out {r:T2×Int×List T2} (h:r∈rowsOf L) (m:r.2.1≠Ex (Ci L) r.1):Led L r.1
 | step {r:T2×Int×List T2} {u:T2} (h:r∈rowsOf L) (m:u∈r.2.2) (l:Led L r.1):Led L u
structure Found(L:List HS)(ts:List T2):Prop where
 pw:ts.Pairwise IS
 mem:∀t,t∈ts↔(t∈(rowsOf L).map (·.1)/\¬Led L t)
end FX
namespace K61
open PySem L2 FX
def Ey(t:T2)(rs:List (T2×Int)):Int:=(rs.map λq=>if q.1=t then q.2 else 0).sum
theorem Ld(t:T2):∀(rs a:List (T2×Int)),Ex (rs.foldl addW a) t=Ex a t+Ey t rs
 | [],a=>by simp[Ey]
 | q::rs,a=>by rw[List.foldl_cons,Ld t rs];have e:Ex (addW a q) t=Ag (Ba a q.1 (Ex a q.1+q.2)) t:=rfl;rw[e,Cu];unfold Ey;rw[AK,DH];by_cases c:t=q.1;(.rw[AE c,AE c.symm,c];lia);.rw[AB c,AB (λz=>c z.symm)];show Ex a t+_=_;lia
theorem T6(t:T2)(a b:List (T2×Int)):Ey t (a++b)=Ey t a+Ey t b:=by unfold Ey;rw[ZF,OD]
theorem Pk(t:T2):∀(L:List HS),Ey t (L.flatMap (·.2.2))=(L.map λS=>Ey t S.2.2).sum
 | []=>rfl
 | S::L=>by rw[CA,T6,Pk t L,AK,DH]
theorem Jam(t:T2)(L:List HS):Ex (Ci L) t=(L.map λS=>Ey t S.2.2).sum:=by unfold Ci;rw[Ld,Pk];show 0+_=_;lia
theorem My{t:T2}:∀{rs:List (T2×Int)},(rs.map (·.1)).Nodup->Ey t rs=Ag rs t
 | [],_=>rfl
 | q::rs,nd=>by have KH:=AV.mp nd;have ih:=My (t:=t) KH.2;rw[Vp];unfold Ey at *;rw[AK,DH,ih];by_cases c:q.1=t;(.rw[AE c,AE c,Ea (by rw[<-c];exact KH.1)];lia);.rw[AB c,AB c];lia
theorem Id{α:Type}{f:α->Int}{b:α->Bool}:∀{l:List α},(∀x∈l,0<=f x)->((l.filter b).map f).sum<=(l.map f).sum/\∀j∈l,b j=false->((l.filter b).map f).sum+f j<=(l.map f).sum
 | [],_=>⟨by simp,λj hj=>by cases hj⟩
 | a::l,h=>by obtain⟨i1,i2⟩:=Id (f:=f) (b:=b) (l:=l) λx hx=>h x (ZD _ hx);have h0:=h a (ZL ..);rw[DC];cases c:b a with | true =>rw[AE rfl,AK,DH,AK,DH];refine⟨by lia,λj hj bj=>?_⟩;rcases ZM hj with e|hj;(.rw[e,c] at bj;cases bj);.have:=i2 j hj bj;lia | false =>rw[AB AL,AK,DH];refine⟨by lia,λj hj bj=>?_⟩;rcases ZM hj with e|hj;(.rw[e];lia);.have:=i2 j hj bj;lia
def O_(t:T2)(qs:List (Addr×BS))(h:Nat):Int:=(qs[h]?.map λp=>Ag p.2.AM t).getD 0
def PQ(t:T2)(qs:List (Addr×BS))(h:Nat):Int:=(qs[h]?.map λp=>Ag p.2.AF t).getD 0
theorem Ih(t:T2):∀(qs:List (Addr×BS)),Ft t qs=((List.range qs.length).map λh=>O_ t qs h).sum-((List.range qs.length).map λh=>PQ t qs h).sum
 | []=>by simp[Ft]
 | p::qs=>by have ih:=Ih t qs;rw[BJ,List.range_succ_eq_map];simp only[AK,AR,DH];(have e1:((λh=>O_ t (p::qs) h) ∘ Nat.succ)=λh=>O_ t qs h:=by funext h;simp[O_]);(have e2:((λh=>PQ t (p::qs) h) ∘ Nat.succ)=λh=>PQ t qs h:=by funext h;simp[PQ]);rw[e1,e2];show LD t p.2+Ft t qs=_;rw[ih];unfold LD;(have e3:O_ t (p::qs) 0=Ag p.2.AM t:=by simp[O_]);(have e4:PQ t (p::qs) 0=Ag p.2.AF t:=by simp[PQ]);rw[e3,e4];lia
theorem Q1{f:Nat->Int}{h0:Nat}:∀{m:Nat},h0<m->(∀h,h≠h0->f h=0)->((List.range m).map f).sum=f h0
 | 0,hl,_=>by lia
 | m+1,hl,h=>by rw[DT,ZF,OD];simp only[AK,E',DH,List.sum_nil];by_cases c:h0=m;(.subst c;(have:∀k,k<=h0->((List.range k).map f).sum=0:=λk=>by induction k with | zero=>intro _;simp | succ k ih =>intro hk;rw[DT,ZF,OD,ih (by lia)];simp only[AK,E',DH,List.sum_nil];rw[h k (by lia)];lia);rw[this h0 (ZG _)];lia);.rw[Q1 (m:=m) (by lia) h,h m (λz=>c z.symm)];lia
structure Zk(G:BS)(S:HS):Prop where
 hand:∀t∈G.hand,t∈S.1
 row:∀t∈G.AF.map (·.1),∃r∈S.2.1,r.1=t
 gK:∀r∈S.2.1,r.1∈G.AF.map (·.1)/\r.2.1=Ag G.AF r.1
 oC:∀r∈S.2.1,∀q∈G.holds,q.1=r.1->∀t∈q.2.2,t∈r.2.2
 AM:∀t,Ey t S.2.2=Ag G.AM t
def Lb(m:Nat)(b:Nat->Bool)(S1:Nat->HS):List HS:=((List.range m).filter b).map S1
def GS(m:Nat)(b:Nat->Bool)(S1:Nat->HS)(t:T2):Prop:=t∈(rowsOf (Lb m b S1)).map (·.1)/\¬Led (Lb m b S1) t
theorem SO{m:Nat}{b:Nat->Bool}{S1:Nat->HS}{S:HS}:S∈Lb m b S1↔∃h,h<m/\b h=true/\S1 h=S:=by
 unfold Lb;rw[AI];constructor;.rintro⟨h,hh,e⟩;obtain⟨h1,h2⟩:=AD.mp hh;exact⟨h,BQ.mp h1,h2,e⟩
 .rintro⟨h,h1,h2,e⟩;exact⟨h,AD.mpr ⟨BQ.mpr h1,h2⟩,e⟩
theorem KC{L:List HS}{r:T2×Int×List T2}:r∈rowsOf L↔∃S∈L,r∈S.2.1:=by unfold rowsOf;exact D_
section
variable {D:T2->Prop}{m n:Nat}{sh:Int}{qs:List (Addr×BS)}{ls:List LT}
theorem Wg.snap(x:Wg D m n sh qs ls){b:Nat->Bool}{S1:Nat->HS}(hs:∀(h:Nat) q G,qs[h]?=some (q,G)->b h=true->Zk G (S1 h)):MV qs ls (GS m b S1):=by
 have lm:=x.wl.len;have key:∀t,GS m b S1 t->(∃(h:Nat)(q:Addr)(G:BS),qs[h]?=some (q,G)/\b h=true/\t.1=(h:Int)/\t∈G.AF.map (·.1))/\B0 t ls=0/\∀(j:Nat) q G,qs[j]?=some (q,G)->b j=false->Ag G.AM t=0:=λt ⟨ht,nl⟩=>by obtain⟨r,hr,e⟩:=ZN ht;obtain⟨S,hS,NB⟩:=KC.mp hr;obtain⟨h,hm,bh,e2⟩:=SO.mp hS;subst e2;obtain⟨⟨q,G⟩,eq⟩:=Au (xs:=qs) (j:=h) (by lia);have T:=hs h q G eq bh;obtain⟨o1,o2⟩:=T.gK r NB;obtain⟨s,nu⟩:=x.BP eq;rw[e] at o1 o2;(have t1:t.1=(h:Int):=by rw[(s.ok.new t o1).1,nu]);have ew:r.2.1=Ex (Ci (Lb m b S1)) r.1:=Classical.byContradiction λz=>nl (by rw[<-e];exact .out hr z);rw[e,Jam] at ew;(have eR:∀k,k<m->∃q G,qs[k]?=some (q,G)/\O_ t qs k=Ag G.AM t/\PQ t qs k=Ag G.AF t:=λk hk=>by obtain⟨⟨q,G⟩,eq⟩:=Au (xs:=qs) (j:=k) (by lia);exact⟨q,G,eq,by unfold O_;rw[eq];rfl,by unfold PQ;rw[eq];rfl⟩);(have eA:((Lb m b S1).map λS=>Ey t S.2.2).sum=(((List.range m).filter b).map λk=>O_ t qs k).sum:=by unfold Lb;rw[AR];congr 1;refine BY λk hk=>?_;obtain⟨h1,h2⟩:=AD.mp hk;obtain⟨q',G',QS,e3,_⟩:=eR k (BQ.mp h1);show Ey t (S1 k).2.2=O_ t qs k;rw[e3,(hs k q' G' QS h2).AM t]);rw[eA] at ew;(have qi:∀k∈List.range m,0<=O_ t qs k:=λk hk=>by obtain⟨q',G',QS,e3,_⟩:=eR k (BQ.mp hk);rw[e3];exact Iv (x.BP QS).1.nn t);(have sO:((List.range m).map λk=>PQ t qs k).sum=PQ t qs h:=Q1 hm λk nk=>by by_cases hk:k<m;(.obtain⟨q',G',QS,_,e4⟩:=eR k hk;rw[e4];exact x.wl.bf (r:=(q',G')) QS (by rw[t1];lia));.unfold PQ;rw[CC (by lia)];rfl);(have oh:PQ t qs h=Ag G.AF t:=by unfold PQ;rw[eq];rfl);have sm:=x.wl.sum t (.inr ⟨h,q,G,eq,o1⟩);rw[Ih,lm,sO,oh,<-o2] at sm;have l0:=Mc (t:=t) x.wl.ok;obtain⟨f1,f2⟩:=Id (f:=λk=>O_ t qs k) (b:=b) qi;refine⟨⟨h,q,G,eq,bh,t1,o1⟩,by lia,λj q' G' QS bj=>?_⟩;(have hj:j<m:=by rw[<-lm];exact(ZJ QS).1);have f3:=f2 j (BQ.mpr hj) bj;(have e5:O_ t qs j=Ag G'.AM t:=by unfold O_;rw[QS];rfl);have xC:=qi j (BQ.mpr hj);rw[e5] at f3 xC;lia
 have qh:∀t,GS m b S1 t->∀l∈ls,l.th≠t:=λt ht l hl e=>by have:=T8 x.wl.ok hl;rw[e,(key t ht).2.1] at this;lia
 have sR:∀t,GS m b S1 t->∀(j:Nat) q G,qs[j]?=some (q,G)->b j=false->¬PH G t:=λt ht j q G eq bj hd=>by obtain⟨⟨h,q',G',QS,bh,t1,_⟩,_,z⟩:=key t ht;(have nj:t.1≠(j:Int):=λy=>by (have:h=j:=by lia);rw[this,bj] at bh;cases bh);rcases x.rc j q G eq t hd nj with r|⟨l,hl,e,_⟩;(.have:=z j q G eq bj;lia);.exact qh t ht l hl e
 refine⟨λj q G eq t ht gs=>?_,λl hl _ gs=>qh _ gs l hl rfl,λj q G eq r0 PR t ht gs=>?_,λj q G eq t gs tj=>?_⟩;.cases bj:b j with | false=>exact sR t gs j q G eq bj (.inl ht) | true =>(have hj:j<m:=by rw[<-lm];exact(ZJ eq).1);exact gs.2 (.hand (SO.mpr ⟨j,hj,bj,rfl⟩) ((hs j q G eq bj).hand t ht))
 .cases bj:b j with | false=>exact absurd (.inr ⟨r0,PR,ht⟩) (sR t gs j q G eq bj) | true =>(have hj:j<m:=by rw[<-lm];exact(ZJ eq).1);have T:=hs j q G eq bj;obtain⟨s,nu⟩:=x.BP eq;obtain⟨r,hr,e⟩:=T.row r0.1 (by rw[<-s.ok.ke];exact AI.mpr ⟨r0,PR,rfl⟩);have mr:r∈rowsOf (Lb m b S1):=KC.mpr ⟨_,SO.mpr ⟨j,hj,bj,rfl⟩,hr⟩;refine⟨AI.mpr ⟨r,mr,e⟩,λld=>gs.2 ?_⟩;exact .step mr (T.oC r hr r0 PR e.symm t ht) (by rw[e];exact ld)
 .obtain⟨⟨h,q',G',QS,bh,t1,o1⟩,_⟩:=key t gs;(have:h=j:=by lia);subst this;have e:(q',G')=(q,G):=ZO (QS.symm.trans eq);obtain⟨s,nu⟩:=x.BP eq;exact(s.ok.new t (by rw[<-(Prod.mk.inj e).2];exact o1)).2
end
def Vv(G:BS)(ts:List T2):BS:=HV (GV (Al G ts))
section
variable {D F:T2->Prop}{m n:Nat}{sh:Int}{qs:List (Addr×BS)}{ls:List LT}{i:Nat}{q:Addr}{G:BS}{ts:List T2}
theorem Yt{t:T2}(h:PH (Vv G ts) t):PH G t/\Bh (Al G ts) t=true:=by
 rcases h with h|⟨r,hr,h⟩;.have h:t∈G.hand:=h;exact⟨.inl h,by unfold Bh;rw[AJ (show t∈(Al G ts).hand from h)];rfl⟩
 .have hr:r∈(Al G ts).holds:=hr;refine⟨.inr ⟨r,(AD.mp hr).1,h⟩,?_⟩;unfold Bh;have:((Al G ts).holds.any λq=>decide (t∈q.2.2))=true:=JF.mpr ⟨r,hr,by simpa using h⟩;rw[this,Bool.or_true]
theorem Jie(ok:Ok G n)(h1:∀t∈G.hand,t∉ts)(h2:∀r∈G.holds,r.1∉ts->∀t∈r.2.2,t∉ts):Ok (Al G ts) n:=by
 have sub:(G.AF.filter λq=>decide (q.1∉ts)).Sublist G.AF:=EL;refine⟨ok.hn,ok.hz,ok.on.sublist (sub.map _),BE sub.length_le ok.oz,?_,ok.rn,ok.rz,λr hr=>ok.ln r (AD.mp hr).1,λt ht=>ok.new t ((sub.map _).subset ht),λt ht e=>?_,λr hr t ht e=>?_,ok.rk⟩;.show(G.holds.filter λq=>decide (q.1∉ts)).map (·.1)=(G.AF.filter λq=>decide (q.1∉ts)).map (·.1);(have e1:(G.holds.filter λq=>decide (q.1∉ts)).map (·.1)=(G.holds.map (·.1)).filter λt=>decide (t∉ts):=by rw[OF];rfl);(have e2:(G.AF.filter λq=>decide (q.1∉ts)).map (·.1)=(G.AF.map (·.1)).filter λt=>decide (t∉ts):=by rw[OF];rfl);rw[e1,e2,ok.ke]
 .have m:=ok.hk t ht e;obtain⟨o,ho,eo⟩:=ZN m;exact AI.mpr ⟨o,AD.mpr ⟨ho,by rw[eo];simpa using h1 t ht⟩,eo⟩
 .obtain⟨GO,NB⟩:=AD.mp hr;have m:=ok.lk r GO t ht e;obtain⟨o,ho,eo⟩:=ZN m;exact AI.mpr ⟨o,AD.mpr ⟨ho,by rw[eo];simpa using h2 r GO (by simpa using NB) t ht⟩,eo⟩
theorem Jh1(x:Sd m G n)(VD:Ok (Al G ts) n):Sd m (Vv G ts) (n+1):=by refine(x.of (VD.GV.mono (ER n)) rfl rfl (λt ht=>.inl (.inl ht)) (λq hq t ht=>.inr ⟨q,(AD.mp hq).1,ht⟩) (λq hq=>x.nn q (AD.mp hq).1) (λt ht=>.inl ((List.filter_sublist.map _).subset ht)) λt ht hk=>?_).tk;obtain⟨q,hq,e⟩:=ZN hk;refine AI.mpr ⟨q,AD.mpr ⟨hq,?_⟩,e⟩;rw[e];exact(Yt (G:=G) (ts:=ts) ht).2
theorem Wg.ot(x:Wg D m n sh qs ls)(hi:qs[i]?=some (q,G))(sF:MV qs ls F)(fD:∀t,F t->D t)(ht:∀t,t∈ts↔(F t/\t.1=(i:Int))){rs:List (T2×Int)}(pm:rs.Perm G.AM) : Wg D m (n+1) sh (qs.set i (q,Vv G ts)) (ls++(Bs (Al G ts) rs).map (Gd (i:Int)))/\JJ qs ls (qs.set i (q,Vv G ts)) (ls++(Bs (Al G ts) rs).map (Gd (i:Int)))/\Ok (Al G ts) n:=by
 obtain⟨s,nu⟩:=x.BP hi;have jG:Ok (Al G ts) n:=Jie s.ok (λt m z=>sF.hand i q G hi t m ((ht t).mp z).1) λr hr nr t m z=>nr ((ht r.1).mpr ⟨sF.hold i q G hi r hr t m ((ht t).mp z).1,by rw[(s.ok.new r.1 (by rw[<-s.ok.ke];exact AI.mpr ⟨r,hr,rfl⟩)).1,nu]⟩);have st:JJ qs ls (qs.set i (q,Vv G ts)) (ls++(Bs (Al G ts) rs).map (Gd (i:Int))):=JJ.less hi (λt ht=>ht) (λl hl nb=>by rcases ZI hl with h|h;(.exact h);.obtain⟨y,_,rfl⟩:=ZN h;exact absurd rfl nb) (λr hr t ht=>⟨r,(AD.mp hr).1,rfl,ht⟩) (A' _);have gone:∀t∈ts,¬(¬D t\/YQ (qs.set i (q,Vv G ts)) t):=λt m z=>by obtain⟨f,t1⟩:=(ht t).mp m;rcases z with z|⟨j,q',G2,e,o⟩;(.exact z (fD t f));.rcases El e with⟨_,e2,_⟩|⟨nj,e⟩;(.rw[e2] at o;obtain⟨y,hy,ey⟩:=ZN o;have:=(AD.mp hy).2;rw[ey] at this;exact(BL this) m);.obtain⟨s2,nu2⟩:=x.BP e;have:=(s2.ok.new t o).1;lia
 have C':∀t,(¬D t\/YQ (qs.set i (q,Vv G ts)) t)->(¬D t\/YQ qs t):=λt h=>by rcases h with h|h;(.exact .inl h);.rcases h.set hi with h|h;(.exact .inr h);.exact .inr ⟨i,q,G,hi,(List.filter_sublist.map _).subset h⟩
 refine⟨⟨(x.wl.mono C').next hi (Jh1 s jG) rfl (λz hz=>?_) (λt ct=>?_) ?_,st D x.sD,x.rc.less hi (λl h=>ZB _ h) λt ht ne=>?_⟩,st,jG⟩;.rcases ZI hz with hz|hz;(.exact x.wl.ok z hz);.obtain⟨y,hy,rfl⟩:=ZN hz;obtain⟨k8,k6⟩:=AD.mp hy;have ky:=pm.mem_iff.mp (AD.mp k8).1;have im:=s.ir y.1 (AI.mpr ⟨y,ky,rfl⟩);exact⟨im.1.1,im.2,im,.inr (.inr (.inl ⟨rfl,by have:=BL k6;show 1<=y.2;lia,rfl⟩))⟩
 .rw[Fu];have UQ:(rs.map (·.1)).Nodup:=(pm.map _).nodup_iff.mpr s.ok.rn;have e1:B0 t ((Bs (Al G ts) rs).map (Gd (i:Int)))=Ag (rs.filter λq=>!Bh (Al G ts) q.1) t :=O2 (i:Int) t (UQ.sublist (List.filter_sublist.map _)) λr hr=>s.nn r (pm.mem_iff.mp (AD.mp hr).1);rw[e1,Dj rs (λt=>!Bh (Al G ts) t) t,Kh pm s.ok.rn];show Ag (G.AM.filter λq=>Bh (Al G ts) q.1) t-Ag (G.AF.filter λq=>decide (q.1∉ts)) t+_=Ag G.AM t-Ag G.AF t+B0 t ls;rw[Dj G.AM (λt=>Bh (Al G ts) t) t,Dj G.AF (λt=>decide (t∉ts)) t];rw[AE (AJ (show ¬t∈ts from λz=>gone t z ct))];cases Bh (Al G ts) t;(.rw[AB (by simp),AE (by rfl)];lia);.rw[AE rfl,AB (by simp)];lia
 .rw[ZE,ZA];have h1:(Bs (Al G ts) rs).length<=(rs.filter λq=>!Bh (Al G ts) q.1).length:=AS _ _;have h2:=(pm.filter λq=>!Bh (Al G ts) q.1).length_eq;have h3:=Ot (λq:T2×Int=>Bh (Al G ts) q.1) G.AM;show(G.AM.filter λq=>Bh (Al G ts) q.1).length+_<=_;lia
 .obtain⟨h1,h2⟩:=Yt ht;refine⟨h1,?_⟩;show Ag G.AM t<=Ag (G.AM.filter λq=>Bh (Al G ts) q.1) t;rw[Dj G.AM (λt=>Bh (Al G ts) t) t,AE h2];exact A' _
theorem Wg.more(x:Wg D m n sh qs ls)(sF:MV qs ls F):Wg (λt=>D t\/F t) m n sh qs ls :=⟨x.wl.mono λt h=>by rcases h with h|h;(.exact .inl λz=>h (.inl z));.exact .inr h,⟨λj q G e t ht z=>z.elim (x.sD.hand j q G e t ht) (sF.hand j q G e t ht),λl hl nb z=>z.elim (x.sD.RB l hl nb) (sF.RB l hl nb),λj q G e r hr t ht z=>z.elim (λz=>.inl (x.sD.hold j q G e r hr t ht z)) λz=>.inr (sF.hold j q G e r hr t ht z),λj q G e t z tj=>z.elim (λz=>x.sD.old j q G e t z tj) λz=>sF.old j q G e t z tj⟩,x.rc⟩
end
end K61
namespace FX
open PySem PySem.Spec PyProof.Rows L2
def rg(n:Nat):List Int:=(List.range n).map λk:Nat=>(k:Int)
theorem Il(n:Nat):(rg n).length=n:=by unfold rg;rw[ZA,BV]
theorem MZ:x∈rg n↔(0<=x/\x<n):=by
 unfold rg;rw[AI];constructor;.rintro⟨k,hk,rfl⟩;have:=BQ.mp hk;lia
 .rintro⟨h1,h2⟩;exact⟨x.toNat,BQ.mpr (by lia),by lia⟩
section
end
end FX
namespace K61
open PySem L2 FX
inductive LL where
 | w (l:LT)
 | ask (s g n u:Int)
 | LP (s g n u tick:Int) (S:HS)
 | lt (s g:Int) (ts:List T2)
def cM:LL->Option LT
 | .w l=>some l
 | _=>none
def Xn(n u:Int):LL->Option Int
 | .ask _ g n' u'=>if n'=n/\u'=u then some g else none
 | _=>none
def dY(n u:Int):LL->Option (Int×Int×HS)
 | .LP s _ n' u' tick S=>if n'=n/\u'=u then some (s,tick,S) else none
 | _=>none
def Cg(al:List LL)(n u:Int):List Int:=al.filterMap (Xn n u)
def B4(al:List LL)(n u:Int):List (Int×Int×HS):=al.filterMap (dY n u)
def GB(al:List LL):List LT:=al.filterMap cM
theorem Br(a b:List LL)(n u:Int):Cg (a++b) n u=Cg a n u++Cg b n u:=OU ..
theorem Bo(a b:List LL)(n u:Int):B4 (a++b) n u=B4 a n u++B4 b n u:=OU ..
theorem Co(a b:List LL):GB (a++b)=GB a++GB b:=OU ..
theorem E5(z:LL)(b:List LL)(n u:Int):Cg (z::b) n u=(Xn n u z).toList++Cg b n u:=by unfold Cg;rw[FK];cases Xn n u z<;>rfl
theorem Dp(z:LL)(b:List LL)(n u:Int):B4 (z::b) n u=(dY n u z).toList++B4 b n u:=by unfold B4;rw[FK];cases dY n u z<;>rfl
def Jkq(al:List LL):Prop:=∀n u,Cg al n u=[]/\B4 al n u=[]
theorem K4:∀ls:List LT,Jkq (ls.map .w)
 | []=>λn u=>⟨rfl,rfl⟩
 | l::ls=>λn u=>⟨by rw[AK,E5];exact(K4 ls n u).1,by rw[AK,Dp];exact(K4 ls n u).2⟩
theorem ng:∀ls:List LT,GB (ls.map .w)=ls
 | []=>rfl
 | l::ls=>by show l::GB (ls.map .w)=_;rw[ng ls]
structure fj(h:Int)(S:HS):Prop where
 nd:(S.2.1.map (·.1)).Nodup
 hz:S.1.length<=60
 rz:S.2.2.length<=60
 oz:∀w∈S.2.1,w.1.1=h/\0<=w.1.2/\w.2.2.length<=60
structure Gs(qs:List (Addr×BS))(r:Int×Int×HS):Prop where
 tk:∀(j:Nat) q G,qs[j]?=some (q,G)->r.1=(j:Int)->r.2.1<=G.AZ/\(r.2.1=G.AZ->Zk G r.2.2)
 so:fj r.1 r.2.2
 nw:∀(j:Nat) q G,qs[j]?=some (q,G)->r.1=(j:Int)->∀w∈r.2.2.2.1,w.1.2<G.AY
def Hz(fi:List (Int×Int×HS))(h:Nat):Int:=((fi.find? λr=>decide (r.1=(h:Int))).map (·.2.1)).getD 0
def L3(fi:List (Int×Int×HS))(h:Nat):HS:=((fi.find? λr=>decide (r.1=(h:Int))).map (·.2.2)).getD ([],[],[])
def Still(qs:List (Addr×BS))(al:List LL)(n:Int)(fi:List (Int×Int×HS))(se:List (Int×Int))(h:Nat):Prop :=
 (∃r∈se,r.1=(h:Int)/\r.2=Hz fi h)\/(∃r∈B4 al n 2,r.1=(h:Int)/\r.2.1=Hz fi h)\/((h:Int)∈Cg al n 2/\∃q G,qs[h]?=some (q,G)/\G.AZ=Hz fi h)
structure NK(m:Nat)(qs:List (Addr×BS))(ls:List LT)(al:List LL)(n:Int)(fi:List (Int×Int×HS))(se:List (Int×Int)):Prop where
 t1:(Cg al n 1++(B4 al n 1).map (·.1)++fi.map (·.1)).Perm (rg m)
 t2:(fi.length<m/\Cg al n 2=[]/\B4 al n 2=[]/\se=[])\/(fi.length=m/\(Cg al n 2++(B4 al n 2).map (·.1)++se.map (·.1)).Perm (rg m))
 f1:∀r∈fi,Gs qs r
 f2:∀r∈B4 al n 1,Gs qs r
 s2:fi.length=m->∀b:Nat->Bool,(∀h:Nat,h<m->b h=true->Still qs al n fi se h)->MV qs ls (GS m b (L3 fi))
theorem ur{m:Nat}{fi:List (Int×Int×HS)}(pm:(fi.map (·.1)).Perm (rg m)){h:Nat}(hh:h<m):∃r∈fi,r.1=(h:Int)/\Hz fi h=r.2.1/\L3 fi h=r.2.2:=by have m1:(h:Int)∈fi.map (·.1):=pm.mem_iff.mpr (MZ.mpr ⟨by lia,by lia⟩);obtain⟨r0,PR,e0⟩:=ZN m1;cases e:fi.find? λr=>decide (r.1=(h:Int)) with | none =>have:=BA.mp e r0 PR;simp[e0] at this | some r =>refine⟨r,AX e,by simpa using DK e,?_,?_⟩;(.unfold Hz;rw[e];rfl);.unfold L3;rw[e];rfl
section
variable {m:Nat}{qs qW:List (Addr×BS)}{ls LW:List LT}{al al':List LL}{n:Int}{fi:List (Int×Int×HS)}{se:List (Int×Int)}{i:Nat}{q:Addr}{G G':BS}
theorem NK.whole(x:NK m qs ls al n fi se)(e:fi.length=m):Cg al n 1=[]/\B4 al n 1=[]/\(fi.map (·.1)).Perm (rg m):=by have l:=x.t1.length_eq;rw[ZE,ZE,ZA,ZA,Il] at l;have e1:Cg al n 1=[]:=BW.mp (by lia);have e2:B4 al n 1=[]:=BW.mp (by lia);refine⟨e1,e2,?_⟩;have t:=x.t1;rw[e1,e2] at t;exact t
theorem NK.bg(x:NK m qs ls al n fi se)(ha:∀u,Cg al' n u=Cg al n u)(hb:∀u,B4 al' n u=B4 al n u)(st:JJ qs ls qs LW):NK m qs LW al' n fi se:=by refine⟨by rw[ha,hb];exact x.t1,by rw[ha,hb];exact x.t2,x.f1,by rw[hb];exact x.f2,λe b hs=>st _ (x.s2 e b λh hh bh=>?_)⟩;have:=hs h hh bh;unfold Still at *;rw[ha,hb] at this;exact this
theorem NK.V_(x:NK m qs ls al n fi se)(hi:qs[i]?=some (q,G))(tk:G.AZ<G'.AZ)(md:G.AY<=G'.AY)(ha:∀u,Cg al' n u=Cg al n u)(hb:∀u,B4 al' n u=B4 al n u)(st:JJ qs ls (qs.set i (q,G')) LW):NK m (qs.set i (q,G')) LW al' n fi se:=by
 have fo:∀r,Gs qs r->Gs (qs.set i (q,G')) r:=λr h=>⟨λj q2 G2 e ej=>by rcases El e with⟨e1,e2,_⟩|⟨_,e⟩;(.have:=h.tk i q G hi (by rw[ej,e1]);rw[e2];exact⟨by lia,λz=>by lia⟩);.exact h.tk j q2 G2 e ej,h.so,λj q2 G2 e ej w hw=>by rcases El e with⟨e1,e2,_⟩|⟨_,e⟩;(.have:=h.nw i q G hi (by rw[ej,e1]) w hw;rw[e2];lia);.exact h.nw j q2 G2 e ej w hw⟩;refine⟨by rw[ha,hb];exact x.t1,by rw[ha,hb];exact x.t2,λr hr=>fo r (x.f1 r hr),λr hr=>fo r (x.f2 r (by rw[<-hb];exact hr)),λe b hs=>st _ (x.s2 e b λh hh bh=>?_)⟩;have:=hs h hh bh;unfold Still at *;rw[ha,hb] at this;rcases this with h1|h1|⟨h1,q2,G2,e2,e3⟩;.exact .inl h1
 .exact .inr (.inl h1)
 .rcases El e2 with⟨e4,e5,_⟩|⟨_,e4⟩;(.exfalso;obtain⟨r,hr,er,et,_⟩:=ur (x.whole e).2.2 hh;have:=((x.f1 r hr).tk i q G hi (by rw[er,e4])).1;rw[e5] at e3;lia);.exact .inr (.inr ⟨h1,q2,G2,e4,e3⟩)
theorem NK.asked(x:NK m qs ls al n fi se)(es:al=a++.ask s g n' u::b)(g0:0<=g)(hi:qs[g.toNat]?=some (q,G))(et:tick=G.AZ)(tl:Zk G S)(so:fj g S)(nw:∀w∈S.2.1,w.1.2<G.AY):NK m qs ls (a++b++[.LP g s n' u tick S]) n fi se:=by
 have A:∀n u2,Cg (a++b++[.LP g s n' u tick S]) n u2=Cg (a++b) n u2:=λn u2=>by rw[Br];show _++[]=_;rw[AH]
 have A0:∀u2,Cg al n u2=Cg a n u2++((if n'=n/\u=u2 then some g else none).toList++Cg b n u2):=λu2=>by rw[es,Br,E5];rfl
 have B:∀u2,B4 (a++b++[.LP g s n' u tick S]) n u2=B4 al n u2++(if n'=n/\u=u2 then some (g,tick,S) else none).toList:=λu2=>by rw[Bo,Bo,es,Bo,Dp,Dp];show _++((if n'=n/\u=u2 then some (g,tick,S) else none).toList++[])=_;rw[AH];rfl
 have eG:∀(j:Nat) q2 G2,qs[j]?=some (q2,G2)->g=(j:Int)->G=G2:=λj q2 G2 e ej=>by (have:j=g.toNat:=by lia);rw[this,hi] at e;exact(Prod.mk.inj (ZO e)).2
 have fo:Gs qs (g,tick,S):=⟨λj q2 G2 e ej=>by rw[<-eG j q2 G2 e ej];exact⟨by show tick<=G.AZ;lia,λ_=>tl⟩,so,λj q2 G2 e ej w hw=>by rw[<-eG j q2 G2 e ej];exact nw w hw⟩;have wX:∀(P Q R T:List Int)(y:Int),(P++([y]++Q)++R++T).Perm (P++Q++(R++[y])++T):=λP Q R T y=>by refine NT T ?_;have h1:(P++([y]++Q)).Perm (y::(P++Q)):=List.perm_middle;(have h2:(P++Q++(R++[y])).Perm (y::(P++Q++R)):=by rw[<-AW];exact GF (l₂:=[y]));exact(h1.append_right R).trans h2.symm
 have tok:∀u2 (T:List Int),(Cg al n u2++(B4 al n u2).map (·.1)++T).Perm (rg m)->(Cg (a++b++[.LP g s n' u tick S]) n u2++(B4 (a++b++[.LP g s n' u tick S]) n u2).map (·.1)++T).Perm (rg m):=λu2 T h=>by rw[A,B,Br,ZF];rw[A0] at h;by_cases c:n'=n/\u=u2;(.rw[AE c] at h ⊢;exact(wX _ _ _ _ g).symm.trans h);.rw[AB c] at h ⊢;simpa using h
 refine⟨tok 1 _ x.t1,?_,x.f1,λr hr=>?_,λe bb hs=>x.s2 e bb λh hh bh=>?_⟩;.rcases x.t2 with⟨z1,z2,z3,z4⟩|⟨z1,z2⟩;(.rw[A0] at z2;(have nc:¬(n'=n/\u=2):=λc=>by rw[AE c] at z2;simp at z2);rw[AB nc] at z2;refine .inl ⟨z1,?_,?_,z4⟩;(.rw[A,Br];simpa using z2);.rw[B,AB nc,z3];rfl);.exact .inr ⟨z1,tok 2 _ z2⟩
 .rw[B] at hr;rcases ZI hr with hr|hr;(.exact x.f2 r hr);.by_cases c:n'=n/\u=1;(.rw[AE c] at hr;(have:r=(g,tick,S):=by simpa using hr);rw[this];exact fo);.rw[AB c] at hr;cases hr
 .have:=hs h hh bh;unfold Still at *;rcases this with h1|⟨r,hr,e1,e2⟩|⟨h1,h2⟩;(.exact .inl h1);(.rw[B] at hr;rcases ZI hr with hr|hr;(.exact .inr (.inl ⟨r,hr,e1,e2⟩));.by_cases c:n'=n/\u=2;(.rw[AE c] at hr;(have er:r=(g,tick,S):=by simpa using hr);rw[er] at e1 e2;have e1:g=(h:Int):=e1;have e2:tick=Hz fi h:=e2;(have eh:h=g.toNat:=by lia);refine .inr (.inr ⟨?_,q,G,by rw[eh];exact hi,by rw[<-e2,et]⟩);rw[A0,AE c,<-e1];exact ZC _ (ZB _ (DM.mpr rfl)));.rw[AB c] at hr;cases hr);.rw[A,Br] at h1;refine .inr (.inr ⟨?_,h2⟩);rw[A0];rcases ZI h1 with h1|h1;(.exact ZB _ h1);.exact ZC _ (ZC _ h1)
end
section
def Dy(m:Nat)(g n u:Int):List LL:=(List.range m).map λi:Nat=>.ask g (i:Int) n u
theorem Ge:Cg (Dy m g n u) n2 u2=if n=n2/\u=u2 then rg m else []:=by
 unfold Cg Dy;rw[List.filterMap_map];by_cases c:n=n2/\u=u2;.rw[AE c];(have:(Xn n2 u2 ∘ λi:Nat=>LL.ask g (i:Int) n u)=λi:Nat=>some (i:Int):=by funext i;show(if n=n2/\u=u2 then some (i:Int) else none)=_;rw[AE c]);rw[this];unfold rg;exact congrFun List.filterMap_eq_map' _
 .rw[AB c];(have:(Xn n2 u2 ∘ λi:Nat=>LL.ask g (i:Int) n u)=λ_:Nat=>none:=by funext i;show(if n=n2/\u=u2 then some (i:Int) else none)=_;rw[AB c]);rw[this];simp
theorem Hx:B4 (Dy m g n u) n2 u2=[]:=by simp_all [B4,Dy,dY]
theorem Zg:GB (Dy m g n u)=[]:=by simp_all [GB,Dy,cM]
theorem u0(m:Nat):(rg m).Nodup:=by unfold rg List.Nodup;rw[EG];exact List.Pairwise.imp (λ{a b} (h:a<b)=>by lia) NS
theorem Jl7(m1:1<=m)(h1:∀u,Cg al n u=[])(h2:∀u,B4 al n u=[])(g:Int):NK m qs ls (al++Dy m g n 1) n [] []:=by
 have A:∀u,Cg (al++Dy m g n 1) n u=if u=1 then rg m else []:=λu=>by rw[Br,h1,Ge];by_cases c:u=1;(.rw[AE ⟨rfl,c.symm⟩,AE c];rfl);.rw[AB (λz=>c z.2.symm),AB c];rfl
 have B:∀u,B4 (al++Dy m g n 1) n u=[]:=λu=>by rw[Bo,h2,Hx];rfl
 refine⟨?_,.inl ⟨by show 0<m;lia,?_,B 2,rfl⟩,λr hr=>(by cases hr),λr hr=>?_,λe=>?_⟩;.rw[A,B,AE rfl];simp
 .rw[A,AB (by decide)]
 .rw[B] at hr;cases hr
 .have:0=m:=e;lia
theorem NK.first(x:NK m qs ls al n fi se)(es:al=a++.LP s g n 1 tick S::b) : fi.length<m/\s∉fi.map (·.1)/\(fi.length+1≠m->NK m qs ls (a++b) n (fi++[(s,tick,S)]) se)/\(fi.length+1=m->Wg D m N sh qs ls->∀g,NK m qs ls (a++b++Dy m g n 2) n (fi++[(s,tick,S)]) se):=by
 have A:∀u,Cg al n u=Cg (a++b) n u:=λu=>by rw[es,Br,E5,Br];rfl
 have B1:B4 al n 1=B4 a n 1++(s,tick,S)::B4 b n 1:=by rw[es,Bo,Dp];show _++((if n=n/\(1:Int)=1 then some (s,tick,S) else none).toList++_)=_;rw[AE ⟨rfl,rfl⟩];rfl
 have B2:B4 al n 2=B4 (a++b) n 2:=by rw[es,Bo,Dp,Bo];show _++((if n=n/\(1:Int)=2 then some (s,tick,S) else none).toList++_)=_;rw[AB (λz=>absurd z.2 (by decide))];rfl
 have pm:(Cg (a++b) n 1++(B4 (a++b) n 1).map (·.1)++(fi++[(s,tick,S)]).map (·.1)).Perm (rg m):=by refine List.Perm.trans ?_ x.t1;rw[A,B1,Bo];simp only[ZF,AK,E'];generalize Cg (a++b) n 1=P;generalize (B4 a n 1).map (·.1)=Q;generalize (B4 b n 1).map (·.1)=R;generalize fi.map (·.1)=T;(have h1:(P++(Q++R)++(T++[s])).Perm (s::(P++(Q++R)++T)):=by rw[<-AW];exact GF (l₂:=[s]));(have h2:(P++(Q++s::R)++T).Perm (s::(P++(Q++R)++T)):=by (have:(P++(Q++s::R)).Perm (s::(P++(Q++R))):=by rw[<-AW,<-AW];exact List.perm_middle);exact this.append_right T);exact h1.trans h2.symm
 have nd:((fi++[(s,tick,S)]).map (·.1)).Nodup:=by have h1:=(pm.nodup_iff).mpr (u0 m);exact(AO.mp h1).2.1
 have sn:s∉fi.map (·.1):=λz=>by rw[ZF] at nd;exact(AO.mp nd).2.2 s z s (DM.mpr rfl) rfl
 have lt:fi.length<m:=by have:=pm.length_eq;rw[ZE,ZE,ZA,ZA,Il,ZE] at this;have e:[((s,tick,S):Int×Int×HS)].length=1:=rfl;lia
 have z2:Cg al n 2=[]/\B4 al n 2=[]/\se=[]:=by rcases x.t2 with⟨_,h⟩|⟨h,_⟩;(.exact h);.lia
 obtain⟨p7,p6,j9⟩:=z2;have f1:∀r∈fi++[(s,tick,S)],Gs qs r:=λr hr=>by rcases ZI hr with h|h;(.exact x.f1 r h);.rw[ZK h];exact x.f2 _ (by rw[B1];exact ZC _ (ZL ..))
 have f2:∀r∈B4 (a++b) n 1,Gs qs r:=λr hr=>x.f2 r (by rw[B1];rw[Bo] at hr;rcases ZI hr with h|h;(.exact ZB _ h);.exact ZC _ (ZD _ h));have ln:(fi++[(s,tick,S)]).length=fi.length+1:=by rw[ZE];rfl
 refine⟨lt,sn,λne=>⟨pm,.inl ⟨by lia,by rw[<-A];exact p7,by rw[<-B2];exact p6,j9⟩,f1,f2,λe=>by lia⟩,λee wg g2=>?_⟩;have A1:Cg (a++b++Dy m g2 n 2) n 1=Cg (a++b) n 1:=by rw[Br,Ge,AB (λz=>by have:=z.2;lia),AH]
 have A2:Cg (a++b++Dy m g2 n 2) n 2=rg m:=by rw[Br,Ge,AE ⟨rfl,rfl⟩,<-A,p7];rfl
 have C:∀u,B4 (a++b++Dy m g2 n 2) n u=B4 (a++b) n u:=λu=>by rw[Bo,Hx,AH]
 have C2:B4 (a++b++Dy m g2 n 2) n 2=[]:=by rw[C,<-B2,p6]
 have pf:((fi++[(s,tick,S)]).map (·.1)).Perm (rg m):=by have l:=pm.length_eq;rw[ZE,ZE,ZA,ZA,Il,ln] at l;have e1:Cg (a++b) n 1=[]:=BW.mp (by lia);have e2:B4 (a++b) n 1=[]:=BW.mp (by lia);have t:=pm;rw[e1,e2] at t;exact t
 refine⟨by rw[A1,C];exact pm,.inr ⟨by lia,by rw[A2,C2,j9];simp⟩,f1,by rw[C];exact f2,λ_ bb hs=>wg.snap λh q G eq bh=>?_⟩;have hh:h<m:=by rw[<-wg.wl.len];exact(ZJ eq).1
 rcases hs h hh bh with⟨r,hr,_⟩|⟨r,hr,_⟩|⟨_,q2,G2,e2,e3⟩;.rw[j9] at hr;cases hr
 .rw[C2] at hr;cases hr
 .rw[eq] at e2;have eG:G=G2:=(Prod.mk.inj (ZO e2)).2;obtain⟨r,hr,er,et,e4⟩:=ur pf hh;rw[e4];exact((f1 r hr).tk h q G eq er).2 (by rw[<-et,<-e3,eG])
theorem NK.second(x:NK m qs ls al n fi se)(es:al=a++.LP s g n 2 tick S::b) : fi.length=m/\se.length<m/\s∉se.map (·.1)/\NK m qs ls (a++b) n fi (se++[(s,tick)]):=by
 have A:∀u,Cg al n u=Cg (a++b) n u:=λu=>by rw[es,Br,E5,Br];rfl
 have B2:B4 al n 2=B4 a n 2++(s,tick,S)::B4 b n 2:=by rw[es,Bo,Dp];show _++((if n=n/\(2:Int)=2 then some (s,tick,S) else none).toList++_)=_;rw[AE ⟨rfl,rfl⟩];rfl
 have B1:B4 al n 1=B4 (a++b) n 1:=by rw[es,Bo,Dp,Bo];show _++((if n=n/\(2:Int)=1 then some (s,tick,S) else none).toList++_)=_;rw[AB (λz=>absurd z.2 (by decide))];rfl
 have t2:fi.length=m/\(Cg al n 2++(B4 al n 2).map (·.1)++se.map (·.1)).Perm (rg m):=by rcases x.t2 with⟨_,_,h,_⟩|h;(.rw[B2] at h;simp at h);.exact h
 have pm:(Cg (a++b) n 2++(B4 (a++b) n 2).map (·.1)++(se++[(s,tick)]).map (·.1)).Perm (rg m):=by refine List.Perm.trans ?_ t2.2;rw[A,B2,Bo];simp only[ZF,AK,E'];generalize Cg (a++b) n 2=P;generalize (B4 a n 2).map (·.1)=Q;generalize (B4 b n 2).map (·.1)=R;generalize se.map (·.1)=T;(have h1:(P++(Q++R)++(T++[s])).Perm (s::(P++(Q++R)++T)):=by rw[<-AW];exact GF (l₂:=[s]));(have h2:(P++(Q++s::R)++T).Perm (s::(P++(Q++R)++T)):=by (have:(P++(Q++s::R)).Perm (s::(P++(Q++R))):=by rw[<-AW,<-AW];exact List.perm_middle);exact this.append_right T);exact h1.trans h2.symm
 have nd:((se++[(s,tick)]).map (·.1)).Nodup:=by have h1:=(pm.nodup_iff).mpr (u0 m);exact(AO.mp h1).2.1
 have sn:s∉se.map (·.1):=λz=>by rw[ZF] at nd;exact(AO.mp nd).2.2 s z s (DM.mpr rfl) rfl
 have lt:se.length<m:=by have:=pm.length_eq;rw[ZE,ZE,ZA,ZA,Il,ZE] at this;have e:[((s,tick):Int×Int)].length=1:=rfl;lia
 refine⟨t2.1,lt,sn,⟨by rw[<-A,<-B1];exact x.t1,.inr ⟨t2.1,pm⟩,x.f1,by rw[<-B1];exact x.f2,λe bb hs=>x.s2 e bb λh hh bh=>?_⟩⟩;rcases hs h hh bh with⟨r,hr,e1,e2⟩|⟨r,hr,e1,e2⟩|⟨h1,h2⟩;.rcases ZI hr with hr|hr;(.exact .inl ⟨r,hr,e1,e2⟩);.have er:=ZK hr;rw[er] at e1 e2;exact .inr (.inl ⟨(s,tick,S),by rw[B2];exact ZC _ (ZL ..),e1,e2⟩)
 .refine .inr (.inl ⟨r,?_,e1,e2⟩);rw[B2];rw[Bo] at hr;rcases ZI hr with h|h;(.exact ZB _ h);.exact ZC _ (ZD _ h)
 .exact .inr (.inr ⟨by rw[A];exact h1,h2⟩)
theorem NK.done(x:NK m qs ls al n fi se)(e:fi.length=m){c:Nat->Int}(hc:∀h,h<m->∃r∈se,r.1=(h:Int)/\r.2=c h):MV qs ls (GS m (λh=>decide (Hz fi h=c h)) (L3 fi)) :=x.s2 e _ λh hh bh=>by obtain⟨r,hr,e1,e2⟩:=hc h hh;exact .inl ⟨r,hr,e1,by rw[e2];exact(BL bh).symm⟩
end
section
def X1(C:Addr):Sp:=λvs H Q _=>∃(p ta:Addr)(G:BS)(as:List Addr)(ts:List T2),vs=[.ref p,.ref ta]/\AQ C H p G/\G.holds.map (·.1)=G.AF.map (·.1)/\H ta=some (.BC (as.map V.ref))/\BB H as ts/\Done C p G H (Al G ts) (Q .EE)
theorem Jcf(F:EK K "lose" "House.lose" Pr f fd)(T:Txt K mg C Cn DO MI NW):CV P w K mg base 1 f fd ["self","things"] (X1 C):=by
 refine F.IQ YT λvs H Q E h=>?_;obtain⟨p,ta,G,as,ts,rfl,S,ke,et,th,k⟩:=h;refine⟨rfl,λDP A outer s hr=>?_⟩;have hu:=B3 hr;have lt:=Paired.length th;refine⟨_,Ae (Dg PassesOwn.never rfl (Gk (pv 1)) (Bl (i:=2) YT.nd rfl (Or.inl rfl)) (Ae (Bf (Dq (Im hu (pv 2) (An (pv 0) rfl))) (Ad (A5 (Fb hu (An (pv 0) rfl) (pv 2) ⟨rfl,rfl,rfl,rfl⟩)) (Ae (A5 (Fb hu (An (pv 0) rfl) (pv 2) ⟨rfl,rfl,rfl,rfl⟩)))) A4))),?_⟩;refine⟨_,rfl,ta,rfl,⟨_,CL.of et⟩,?_⟩;refine Hv (K:=K) (a:=ta) (xs:=as.map V.ref) (λi σ H2=>∃u2:Option V,σ=[some (.ref p),some (.ref ta),u2]/\AQ C H2 p (Al G (ts.take i))/\Q_ p G H H2) ⟨_,rfl,by rw[HC,Ox];exact S,λb o e _ _=>e⟩ (λi σ H2 _ h=>let⟨_,_,_,fr⟩:=h;CL.of (fr _ _ et (S.tup_ne et).1 (S.tup_ne et).2)) ?_ ?_;.rintro i x σ H2 hx ⟨u2,rfl,S2,JV⟩;rw[ZH] at hx;cases ea:as[i]? with | none=>rw[ea] at hx;cases hx | some a =>rw[ea] at hx;have hx:V.ref a=x:=ZO hx;subst hx;obtain⟨t,ht⟩:=Au (xs:=ts) (j:=i) (by have:=(ZJ ea).1;lia);have ha:=Ax th i a t ea ht;have UX:=JV _ _ ha (S.tup_ne ha).1 (S.tup_ne ha).2;obtain⟨HZ,FH⟩:=S2.ob;obtain⟨o,g,eo⟩:=K9 (k:=λq:T2×Int=>q.1) (f:=λq=>V.int q.2) (.inl S2.dO) UX;have f1:=Et (λq:T2×Int=>q.1) G.AF ht;have f2:=Et (λq:T2×Addr×List T2=>q.1) G.holds ht;refine⟨_,rfl,_,rfl,p,C,HZ,_,_,rfl,FH,T.cl,T.nO,C0 _,G.o,o,rfl,g,_,rfl,?_⟩;rw[eo];(have ks:(Al G (ts.take i)).holds.map (·.1)=(Al G (ts.take i)).AF.map (·.1):=by show(G.holds.filter λq=>decide (q.1∉ts.take i)).map (·.1)=(G.AF.filter λq=>decide (q.1∉ts.take i)).map (·.1);rw[C6 (λq:T2×Addr×List T2=>q.1) G.holds (λt=>decide (t∉ts.take i)),C6 (λq:T2×Int=>q.1) G.AF (λt=>decide (t∉ts.take i)),ke]);by_cases h:t∈(Al G (ts.take i)).AF.map (·.1);(.rw[AJ h];obtain⟨v1,lF⟩:=Fq (l:=(Al G (ts.take i)).AF) (k:=λq=>q.1) (f:=λq=>V.int q.2) h;obtain⟨v2,lE⟩:=Fq (l:=(Al G (ts.take i)).holds) (k:=λq=>q.1) (f:=λq=>V.ref q.2.1) (by rw[ks];exact h);refine Ck ⟨_,rfl,p,C,HZ,_,_,rfl,FH,T.cl,T.nO,C0 _,G.o,rfl,.inr ⟨_,.inl S2.dO⟩,_,rfl,_,tk t,_,a,S2.dO,rfl,UX,lF,?_⟩;rw[Ff (k:=λq:T2×Int=>q.1) (f:=λq=>V.int q.2)];have S3:=S2.IT ((Al G (ts.take i)).AF.filter λq=>decide (q.1≠t));(have NY:Q_ p G H (upd H2 G.o (Cf ((Al G (ts.take i)).AF.filter λq=>decide (q.1≠t)))):=λb o e h1 h2=>by rw[Ab λz=>h2 (by rw[z];simp[BG])];exact JV _ _ e h1 h2);have fB:=NY _ _ ha (S.tup_ne ha).1 (S.tup_ne ha).2;rw[show HO.dT (((Al G (ts.take i)).AF.filter λq=>decide (q.1≠t)).map λq=>(tk q.1,V.int q.2))=Cf ((Al G (ts.take i)).AF.filter λq=>decide (q.1≠t)) from rfl];have S3:AQ C (upd H2 G.o (Cf ((Al G (ts.take i)).AF.filter λq=>decide (q.1≠t)))) p { Al G (ts.take i) with AF:=(Al G (ts.take i)).AF.filter λq=>decide (q.1≠t) }:=S3;generalize upd H2 G.o (Cf ((Al G (ts.take i)).AF.filter λq=>decide (q.1≠t)))=H3 at S3 NY fB;obtain⟨ND,OH⟩:=S3.ob;refine⟨_,rfl,p,C,ND,_,_,rfl,OH,T.cl,T.nL,Dw _,G.l,rfl,.inr ⟨_,.inl S3.dl⟩,_,rfl,_,tk t,_,a,S3.dl,rfl,fB,lE,?_⟩;have e3:Da (({ Al G (ts.take i) with AF:=(Al G (ts.take i)).AF.filter λq=>decide (q.1≠t) }:BS).holds.map λ(q:T2×Addr×List T2)=>(tk q.1,V.ref q.2.1)) (tk t)=((Al G (ts.take i)).holds.filter λq=>decide (q.1≠t)).map λ(q:T2×Addr×List T2)=>(tk q.1,V.ref q.2.1) :=Ff (k:=λq:T2×Addr×List T2=>q.1) (f:=λq=>V.ref q.2.1) _ t;rw[e3];have S4:=S3.RI (hl:=(Al G (ts.take i)).holds.filter λq=>decide (q.1≠t)) EL;(have eG:Al G (ts.take (i+1))={ Al G (ts.take i) with AF:=(Al G (ts.take i)).AF.filter (λq=>decide (q.1≠t)),holds:=(Al G (ts.take i)).holds.filter (λq=>decide (q.1≠t)) }:=by unfold Al;rw[f1,f2]);refine⟨_,rfl,by rw[eG];exact S4,λb o e h1 h2=>?_⟩;rw[Ab λz=>h2 (by rw[z];show G.l∈BG G;simp[BG])];exact NY _ _ e h1 h2);.rw[AG h];have kU:∀q∈(Al G (ts.take i)).AF,q.1≠t:=λq hq z=>h (AI.mpr ⟨q,hq,z⟩);have kT:∀q∈(Al G (ts.take i)).holds,q.1≠t:=λq hq z=>h (by rw[<-ks];exact AI.mpr ⟨q,hq,z⟩);(have eG:Al G (ts.take (i+1))=Al G (ts.take i):=by (have a1:(Al G (ts.take i)).AF.filter (λq=>decide (q.1≠t))=(Al G (ts.take i)).AF:=EM.mpr λq hq=>by simpa using kU q hq);(have a2:(Al G (ts.take i)).holds.filter (λq=>decide (q.1≠t))=(Al G (ts.take i)).holds:=EM.mpr λq hq=>by simpa using kT q hq);unfold Al at a1 a2 ⊢;rw[f1,f2,a1,a2]);exact Cd ⟨_,rfl,by rw[eG];exact S2,JV⟩
 .rintro σ H2 ⟨u2,rfl,S2,JV⟩;rw[ZA,lt,BM] at S2;exact k H2 S2 JV
def We(C:Addr):Sp:=λvs H Q _=>∃(p ta:Addr)(G:BS)(n:Nat)(rs:List (T2×Int))(ts:List T2)(as:List Addr),vs=[.ref p,.ref ta]/\AQ C H p G/\Ok G n/\n<=62/\(∀t∈G.hand,RU t)/\(∀q∈G.holds,∀t∈q.2.2,RU t)/\rs.Perm G.AM/\(rs.map (·.1)).Pairwise IS /\
 H ta=some (.BC (as.map V.ref))/\BB H as ts/\Ok (Al G ts) n /\
 ∀(x:Addr)(as:List Addr)(H':Hp),(∀b o,H b=some o->b≠p->b∉BG G->b≠x)->H' x=some (.BI (as.map V.ref))->HP H' as (Bs (Al G ts) rs)->AQ C H' p (HV (GV (Al G ts)))->Q_ p G H H'->Q (.ref x) H'
theorem Jh4:Ao ["self","things"] ["self","things"] (Aj Yc):={}
theorem Jeo(F:EK K "let" "House.let" Yc f fd)(T:Txt K mg C Cn DO MI NW)(Tx:js mg)(ML:CO K C "lose" "House.lose" Pr ["self","things"] fL dL)(MG:CO K C "give_back" "House.give_back" Uh ["self"] fG dG) : CV P w K mg base 2 f fd ["self","things"] (We C):=by
 have GL:CV P w K mg base 1 fL dL ["self","things"] (X1 C):=Jcf ML.fn T;have GG:CV P w K mg base 1 fG dG ["self"] (Wf C):=Yq MG.fn T Tx;refine F.IQ Jh4 λvs H Q E h=>?_;obtain⟨p,ta,G,n,rs,ts,as,rfl,S,ok,zn,XQ,XO,pm,pw,et,th,VD,k⟩:=h;refine⟨rfl,λDP A outer s hr=>?_⟩;have hu:=B3 hr;obtain⟨dx,hp⟩:=S.ob;refine⟨_,Ad (A5 (Ap (pl:=_) (pv 0) T.cl ML.mt GL hr ML.bd .nil Bb (Aa (pv 1) Af))) (Ad (B8 (pv 0) Ah Dh) (Ae (Ar (C9 (pv 0) T.cl MG.mt GG hr MG.bd .nil Bb)))),?_⟩;refine⟨_,rfl,p,dx,_,rfl,hp,By G ZV,_,rfl,p,ta,G,as,ts,rfl,S,ok.ke,et,th,λH9 S9 mB=>?_⟩;obtain⟨UD,XS⟩:=S9.ob;refine⟨_,rfl,p,C,UD,_,_,rfl,XS,T.cl,T.nT,B7 _,_,_,rfl,rfl,UD,_,XS,Di _,?_⟩;rw[Bc];have VP:=S9.fld UD (Al G ts).AY ((Al G ts).AZ+1);have SH:Q_ p G H (upd H9 p (.ins C UD (Bx { Al G ts with AZ:=(Al G ts).AZ+1 }))):=λb o e h1 h2=>by rw[Ab h1];exact mB _ _ e h1 h2
 have VP:AQ C (upd H9 p (.ins C UD (Bx { Al G ts with AZ:=(Al G ts).AZ+1 }))) p (HV (Al G ts)):=VP;generalize upd H9 p (.ins C UD (Bx { Al G ts with AZ:=(Al G ts).AZ+1 }))=j5 at VP SH;obtain⟨b_,br⟩:=VP.ob;refine⟨_,rfl,p,b_,_,rfl,br,By _ ZV,p,HV (Al G ts),n,rs,rfl,VP,VD.HV,zn,XQ,λq hq=>XO q (AD.mp hq).1,pm,pw,λx as jz hx ex ba m9 bw=>?_⟩;have lB:∀b o,H b=some o->b≠p->b∉BG G->b≠x:=λb o e h1 h2=>Ak (SH _ _ e h1 h2) hx;exact k x as jz lB ex ba m9 λb o e h1 h2=>bw _ _ (SH _ _ e h1 h2) h1 λz=>h2 (uY ts z)
end
def MY(H:Hp)(t:Addr)(k:Int)(kind:Str)(s g n u:Int):Prop:=∃a,H t=some (.BC [.int k,.str kind,.int s,.int g,.ref a])/\H a=some (.BC [.int n,.int u])
def QC(H:Hp)(t:Addr)(k s g:Int)(ts:List T2):Prop:=∃(a:Addr)(as:List Addr),H t=some (.BC [.int k,.str "let",.int s,.int g,.ref a])/\H a=some (.BC (as.map V.ref))/\BB H as ts
theorem MY.keep(h:MY H t k kind s g n u)(kt:BU H H'):MY H' t k kind s g n u:=let⟨a,e1,e2⟩:=h;⟨a,kt.BC _ _ e1,kt.BC _ _ e2⟩
theorem QC.keep(h:QC H t k s g ts)(kt:BU H H'):QC H' t k s g ts:=let⟨a,as,e1,e2,th⟩:=h;⟨a,as,kt.BC _ _ e1,kt.BC _ _ e2,BB.keep kt th⟩
structure KU(H:Hp)(c b n turn:Int)(L:List (Int×Addr))(m:Nat):Prop where
 BP:L.map (·.1)=(List.range m).map λ(i:Nat)=>c+1+(i:Int)
 MQ:Paired (λ(y:Int×Addr)(i:Nat)=>MY H y.2 y.1 "ask" b (i:Int) n turn) L (List.range m)
theorem KU.len(x:KU H c b n turn L m):L.length=m:=by have:=Paired.length x.MQ;rw[BV] at this;exact this
section
theorem uX(x:AN CW CH CP H p W):AN CW CH CP (upd H W.en (.dK (kvsOf l))) p { W with ED:=l }/\F_ p W H (upd H W.en (.dK (kvsOf l))):=by
 obtain⟨⟨a1,a2,a3,a4,a5,a6⟩,⟨b1,b2,b3,b4,b5⟩,⟨c1,c2,c3,c4⟩,⟨d1,d2,d3⟩,⟨g1,g2⟩⟩:=x.YR;have f:∀b o,H b=some o->b≠W.en->(upd H W.en (.dK (kvsOf l))) b=some o:=λb o e h=>by rw[Ab h];exact e
 refine⟨⟨let⟨dx,e⟩:=x.ob;⟨dx,f _ _ e (Ne.symm g1)⟩,f _ _ x.hs (Ne.symm g2),λq hq=>(x.ho q hq).keep λb o hb e=>f b o e ?_,x.po.keep (λo e=>f _ _ e a6) (λo e=>f _ _ e b5),f _ _ x.iq c4,f _ _ x.fi d3,Ac,x.nd⟩,λb o e hb=>f b o e ?_⟩;.rintro rfl;have h:=x.HG (b:=W.en) (by simp[B5]) hq;exact hb.elim h.1 h.2
 .rintro rfl;exact hb (ZB _ (by simp[B5]))
theorem Jl2(x:AN CW CH CP H p W):AN CW CH CP (upd H W.fi (.dK (kvsOf l))) p { W with IG:=l }/\F_ p W H (upd H W.fi (.dK (kvsOf l))):=by
 obtain⟨⟨a1,a2,a3,a4,a5,a6⟩,⟨b1,b2,b3,b4,b5⟩,⟨c1,c2,c3,c4⟩,⟨d1,d2,d3⟩,⟨g1,g2⟩⟩:=x.YR;have f:∀b o,H b=some o->b≠W.fi->(upd H W.fi (.dK (kvsOf l))) b=some o:=λb o e h=>by rw[Ab h];exact e
 refine⟨⟨let⟨dx,e⟩:=x.ob;⟨dx,f _ _ e (Ne.symm d1)⟩,f _ _ x.hs (Ne.symm d2),λq hq=>(x.ho q hq).keep λb o hb e=>f b o e ?_,x.po.keep (λo e=>f _ _ e a5) (λo e=>f _ _ e b4),f _ _ x.iq c3,Ac,f _ _ x.en (Ne.symm d3),x.nd⟩,λb o e hb=>f b o e ?_⟩;.rintro rfl;have h:=x.HG (b:=W.fi) (by simp[B5]) hq;exact hb.elim h.1 h.2
 .rintro rfl;exact hb (ZB _ (by simp[B5]))
end
section
def Fw(CW C CP:Addr)(K:W.Frag):Sp:=λvs H Q _=>∃(p:Addr)(b n turn:Int)(W:FZ),vs=[.ref p,.int b,.int n,.int turn]/\AN CW C CP H p W/\W.qs.length<=12/\W.ls.length<=400 /\
 ∀(l:Addr)(L:List (Int×Addr))(H':Hp),AN CW C CP H' p { W with c:=W.c+(W.qs.length:Nat),ls:=W.ls++L }->KU H' W.c b n turn L W.qs.length->F_ p W H H'->H' l=some (.BI (L.map λy=>V.int y.1))->l≠W.hs->Tz p W H l->Q (.ref l) H'
theorem Zt:Ao ["self","beginner","n","turn"] ["self","beginner","n","turn"] (Aj G0):={}
theorem Ww(F:EK K "ask_all" "World.ask_all" G0 f fd)(T:Txt K mg C Cn DO MI NW)(TW:Ek K mg CW NH NI)(TP:Kt K mg CP NL)(M3:CO K CP "put" "Post.put" Js ["self","kind","sender","goal","about"] f3 d3) : CV P w K mg base 2 f fd ["self","beginner","n","turn"] (Fw CW C CP K):=by
 have G3:CV P w K mg base 1 f3 d3 ["self","kind","sender","goal","about"] (Fn CP):=Hs M3.fn TP;refine F.IQ Zt λvs H Q E h=>?_;obtain⟨p,b,n,turn,W,rfl,S,z1,z2,k⟩:=h;refine⟨rfl,λDP A outer s hr=>?_⟩;obtain⟨dx,hp⟩:=S.ob;refine⟨_,Ae (Ar (En (te:=Pi CP "put" (Fn CP) [] E0 (Q0 K (B6 1) "post") (De (tC (.str "ask")) (De (B6 2) (De (B6 0) (De (jx (De (B6 3) (De (B6 4) Kv))) Kv))))) (caps:=[("self",0),("beginner",1),("n",2),("turn",3)]) rfl (F2 rfl T.range (Aa (Bg Bq (by rfl) T.len B' (Aa (An (pv 0) rfl) Af)) Af)) rfl ZV rfl ZV rfl ⟨rfl,rfl,rfl,rfl,trivial⟩ (λy h=>Jki ⟨_,rfl⟩ ⟨_,rfl⟩ ⟨_,rfl⟩ ⟨_,rfl⟩ h) ⟨⟨rfl,rfl,rfl,rfl⟩,⟨rfl,rfl,rfl,rfl⟩,⟨rfl,rfl,rfl,rfl⟩,⟨rfl,rfl,rfl,rfl⟩,trivial⟩ ZV (λ_ _ _ _ _=>Ml) (λ_ _ _ _ _=>Ap (pl:=_) (An (pv 1) rfl) TP.cl M3.mt G3 hr M3.bd .nil Bb (Aa Bk (Aa (pv 2) (Aa (pv 0) (Aa (Ca (Aa (pv 3) (Aa (pv 4) Af))) Af))))))),?_⟩;have e0:((W.qs.map λq=>V.ref q.1).length:Int)=W.qs.length:=by simp
 refine⟨_,rfl,p,CW,dx,_,_,rfl,hp,TW.cl,TW.nH,Dc W,W.hs,_,rfl,.inl (EC.of S.hs),(W.qs.length:Int),(by rw[e0]),by lia,by lia,λr HW=>?_⟩;rw[DF];have s0:=Ai (o:=.BI []) HW;have S0:=S.same s0;have S0':AN CW C CP (upd H r (.BI [])) p { W with c:=W.c+((0:Nat):Int),ls:=W.ls++[] }:=by rw[show W.c+((0:Nat):Int)=W.c by simp,AH];exact S0
 refine Oz (lo:=0) (n:=W.qs.length) (tt:=λ_ H Q=>Q true H) (te:=Pi CP "put" (Fn CP) [] E0 (Q0 K (B6 1) "post") (De (tC (.str "ask")) (De (B6 2) (De (B6 0) (De (jx (De (B6 3) (De (B6 4) Kv))) Kv))))) (caps:=[("self",0),("beginner",1),("n",2),("turn",3)]) (σ:=[some (.ref p),some (.int b),some (.int n),some (.int turn)]) (λi ys H2=>H2 r=some (.BI ys)/\ys.length=i/\∃L,ys=L.map (λy=>V.int y.1)/\AN CW C CP H2 p { W with c:=W.c+(i:Nat),ls:=W.ls++L }/\KU H2 W.c b n turn L i/\F_ p W H H2) ⟨Ac,rfl,[],rfl,S0',⟨rfl,.nil⟩,λb o e _=>s0 b o e⟩ (λi ys H2 _ h=>h.1) ?_ ?_;.rintro i ys H2 N hi ⟨er,ly,L,mF,W2,l2,MN⟩ hN;refine Ck ?_;have cU:r∉Cb p { W with c:=W.c+(i:Nat),ls:=W.ls++L }:=λm=>S.ME HW m;obtain⟨HZ,FH⟩:=W2.ob;obtain⟨ND,aD⟩:=W2.po.ob;refine⟨_,rfl,p,CW,HZ,_,_,rfl,FH,TW.cl,TW.nP,Dz _,W.po,ND,_,rfl,aD,C8 _ _ ZV ZV,_,rfl,_,rfl,_,rfl,_,rfl,(by show 2<=sizeLine;decide),λa ha=>?_⟩;have s3:=Ai (o:=.BC [V.int n,V.int turn]) ha;have W3:=W2.same s3;refine⟨W.po,W.pd,_,_,_,_,_,_,rfl,W3.po,(by rw[ZE,l2.len];lia),λt H4 ht et S4 UB=>?_⟩;obtain⟨W4,OW⟩:=W3.IE S4 UB;have QP:=HN s3;have LB:=F_.DS W3 OW;have NC:H4 r=some (.BI ys):=OW _ _ (s3 _ _ er) cU;refine⟨NC,A7 (by lia),hN _ _ ⟨Ac,by rw[ZE,ly];rfl,L++[(W.c+(i:Nat)+1,t)],by rw[mF,ZF];rfl,?_,?_,?_⟩⟩;(·(have e1:W.c+((i+1:Nat):Int)=W.c+(i:Nat)+1:=by lia);rw[e1,<-AW];exact W4.keep λb o hb e=>by rw[Ab (λz=>cU (by rw[<-z];exact hb))];exact e);(·(have kq:BU H4 (upd H4 r (.BI (ys++[V.int (W.c+(i:Nat)+1)]))):=OI λo' e=>by rw[NC] at e;cases e;exact⟨λ_ z=>(by cases z),λ_ _ z=>(by cases z)⟩);have kk:=(QP.trans LB).trans kq;refine⟨by rw[ZF,l2.BP,DT,ZF];congr 1;show [W.c+(i:Nat)+1]=[W.c+1+(i:Int)];congr 1;lia,?_⟩;rw[DT];refine Es ?_ (As (λ_ _ rr=>rr.keep kk) l2.MQ);have ea:=LB.BC _ _ (show(upd H2 a (.BC [V.int n,V.int turn])) a=some (.BC [V.int n,V.int turn]) from Ac);(have e2:(0:Int)+(i:Int)=(i:Int):=by lia);rw[e2] at et;exact⟨a,kq.BC _ _ et,kq.BC _ _ ea⟩);.intro b' o' e' HM;(have fA:b'≠r:=λz=>by rw[z] at e';rw[HW] at e';cases e');rw[Ab fA];exact OW b' o' (s3 _ _ (MN b' o' e' HM)) HM
 .rintro ys H2 ⟨er,ly,L,mF,W2,l2,MN⟩;exact k r L H2 W2 l2 MN (by rw[<-mF];exact er) (λz=>by rw[z,S.hs] at HW;cases HW) λb o e _=>Ak e HW
end
structure Tells(G:BS)(hs:List T2)(os:List (T2×Int×List T2))(rs:List (T2×Int)):Prop where
 z1:G.hand.length<64
 z2:G.AF.length<64
 z3:G.AM.length<64
 pm:hs.Perm G.hand
 pw:hs.Pairwise IS
 RS:Rows G os
 pr:rs.Perm G.AM
 wr:(rs.map (·.1)).Pairwise IS
theorem nA{K:W.Frag}{H:Hp}{x:Addr}{hs:List T2}{os:List (T2×Int×List T2)}{rs:List (T2×Int)}(h:iV H x hs os rs):PV K H x (hs,os,rs):=by obtain⟨y1,y2,y3,as,bs,ds,e,e1,t1,e2,t2,⟨ob,e3,_⟩,t3⟩:=h;refine⟨y1,y2,y3,as,bs,ds.map V.ref,CL.of e,CL.of e1,t1,CL.of e2,As (λv r h9=>by obtain⟨a,t,hd,cs,e,e1,e2,e3,th⟩:=h9;exact⟨a,t,hd,cs,e,CL.of e1,e2,CL.of e3,th⟩) t2,.inl (.inr ⟨ob,e3⟩),?_⟩;clear e e1 t1 e2 t2 e3;induction t3 with | nil=>exact .nil | cons r _ ih =>obtain⟨ka,e1,e2⟩:=r;exact .cons ⟨_,ka,rfl,CL.of e1,e2⟩ ih
section
def E8(CW C CP:Addr)(K:W.Frag):Sp:=λvs H Q _=>∃(p t:Addr)(W:FZ)(k s g n u:Int)(q:Addr)(G:BS)(hs:List T2)(os:List (T2×Int×List T2))(rs:List (T2×Int)),vs=[.ref p,.ref t]/\AN CW C CP H p W/\MY H t k "ask" s g n u/\IH W g q G/\Tells G hs os rs/\W.ls.length<=400/\W.ED.length<=400/\(∀e∈W.ED,e.1≠W.c+1) /\
 ∀(x t1 e xs:Addr)(H':Hp),AN CW C CP H' p { W with c:=W.c+1,ls:=W.ls++[(W.c+1,t1)],ED:=W.ED++[(W.c+1,e)] }->MY H' t1 (W.c+1) "answer" g s n u->H' e=some (.BC [.int G.AZ,.ref xs])->PV K H' xs (hs,os,rs)->F_ p W H H'->H' x=some (.BI [.int (W.c+1)])->x≠W.hs->Tz p W H x->Q (.ref x) H'
theorem TH:Ao ["self","letter","asked","house","number"] ["self","letter"] (Aj Hj):={}
theorem Uz(F:EK K "ask_came" "World.ask_came" Hj f fd)(T:Txt K mg C Cn DO MI NW)(TW:Ek K mg CW NH NI)(TP:Kt K mg CP NL)(M1:CO K C "tick" "House.tick" X6 ["self"] f1 d1)(M2:CO K C "state" "House.state" Ng ["self"] f2 d2)(G2:CV P w K mg base 2 f2 d2 ["self"] (Jl C K))(M3:CO K CP "put" "Post.put" Js ["self","kind","sender","goal","about"] f3 d3):CV P w K mg base 3 f fd ["self","letter"] (E8 CW C CP K):=by
 have G1:CV P w K mg base 1 f1 d1 ["self"] (Wb C):=Yp M1.fn T;have G3:CV P w K mg base 1 f3 d3 ["self","kind","sender","goal","about"] (Fn CP):=Hs M3.fn TP;refine F.ok TH (λvs H Q E h=>?_) (λDP A outer s H vs Q E hr h=>?_);.obtain⟨p,t,W,k,s,g,n,u,q,G,hs,os,rs,rfl,_⟩:=h;rfl
 .obtain⟨p,t,W,k,s,g,n,u,q,G,hs,os,rs,rfl,S,⟨a,et,ea⟩,i,tl,z1,z2,ne,kk⟩:=h;have hu:=B3 hr;have GO:CU 1 _:=hr.mono (by decide);obtain⟨dx,hp⟩:=S.ob;refine⟨_,Ad (Aw (i:=2) TH.nd rfl (Or.inl rfl) (Az Av (pv 1) Ah)) (Ad (Aw (i:=3) TH.nd rfl (Or.inl rfl) (Az D9 (An (pv 0) rfl) (pv 2))) (Ad (Aw (i:=4) TH.nd rfl (Or.inl rfl) (Ap (pl:=_) (An (pv 0) rfl) TP.cl M3.mt G3 GO M3.bd .nil Bb (Aa Bk (Aa (pv 2) (Aa (Az Av (pv 1) Ah) (Aa (Az Av (pv 1) Ah) Af)))))) (Ad (Bz hu (An (pv 0) rfl) (pv 4) (Ca (Aa (C9 (pl:=_) (pv 3) T.cl M1.mt G1 GO M1.bd .nil Bb) (Aa (C9 (pl:=_) (pv 3) T.cl M2.mt G2 hr M2.bd .nil Bb) Af))) rfl) (Ae (Ar (Fa (Aa (pv 4) Af))))))),?_⟩;refine⟨_,rfl,t,_,3,V.int g,rfl,rfl,CL.of et,rfl,?_⟩;refine⟨_,rfl,p,CW,dx,_,_,rfl,hp,TW.cl,TW.nH,Dc W,_,rfl,W.hs,_,_,V.ref q,rfl,rfl,EC.of S.hs,i.PD,?_⟩;obtain⟨VN,a8⟩:=S.po.ob;refine⟨_,rfl,p,CW,dx,_,_,rfl,hp,TW.cl,TW.nP,Dz _,W.po,VN,_,rfl,a8,C8 _ _ ZV ZV,_,rfl,_,rfl,t,_,2,V.int s,rfl,rfl,CL.of et,rfl,_,rfl,t,_,4,V.ref a,rfl,rfl,CL.of et,rfl,?_⟩;refine⟨W.po,W.pd,W.c,W.ls,_,_,_,_,rfl,S.po,by lia,λt1 H1 ht1 mJ S1 JT=>?_⟩;obtain⟨W1,FU⟩:=S.IE S1 JT;have MO:=F_.DS S FU;have HA:=i.at (W:={ W with c:=W.c+1,ls:=W.ls++[(W.c+1,t1)] }) W1;obtain⟨YH,jW⟩:=HA.ob;refine⟨_,rfl,q,YH,_,rfl,jW,By G ZV,q,G,rfl,HA,?_⟩;refine⟨_,rfl,q,YH,_,rfl,jW,By G ZV,q,G,hs,os,rs,rfl,HA,tl.z1,tl.z2,tl.z3,tl.pm,tl.pw,tl.RS,tl.pr,tl.wr,λxs H2 s2 sx=>?_⟩;refine⟨(show 2<=sizeLine by decide),λe he=>?_⟩;have s3:=Ai (o:=.BC [V.int G.AZ,V.ref xs]) he;have ee:(upd H2 e (.BC [V.int G.AZ,V.ref xs])) e=some (.BC [V.int G.AZ,V.ref xs]):=Ac;generalize upd H2 e (.BC [V.int G.AZ,V.ref xs])=H3 at s3 ee;have ao:=Am s2 s3;have W3:=W1.same ao;obtain⟨RM,UW⟩:=W3.ob;refine⟨_,rfl,p,CW,RM,_,_,rfl,UW,TW.cl,TW.nE,vR _,_,rfl,W.en,_,rfl,FF.k (k:=Sum.inl (W.c+1)) W3.en (by rw[Kd];exact A7 (by show W.ED.length<=_;lia)),?_⟩;have ek:putK (kvsOf W.ED) (Sum.inl (W.c+1):Key) (V.ref e)=kvsOf (W.ED++[(W.c+1,e)]):=Tb ne;show _;rw[show putK (kvsOf ({ W with c:=W.c+1,ls:=W.ls++[(W.c+1,t1)] }:FZ).ED) (Sum.inl (W.c+1):Key) (V.ref e)=kvsOf (W.ED++[(W.c+1,e)]) from ek];obtain⟨W4,OW⟩:=uX W3 (l:=W.ED++[(W.c+1,e)]);have LB:=F_.DS W3 OW;have UZ:F_ p W H (upd H3 W.en (.dK (kvsOf (W.ED++[(W.c+1,e)])))):=λb o eb hb=>OW b o (ao _ _ (FU b o eb hb)) hb;have ka:BU H (upd H3 W.en (.dK (kvsOf (W.ED++[(W.c+1,e)])))):=F_.DS S UZ;have tT:BU H1 (upd H3 W.en (.dK (kvsOf (W.ED++[(W.c+1,e)])))):=(HN ao).trans LB;have W4:AN CW C CP (upd H3 W.en (.dK (kvsOf (W.ED++[(W.c+1,e)])))) p { W with c:=W.c+1,ls:=W.ls++[(W.c+1,t1)],ED:=W.ED++[(W.c+1,e)] }:=W4;show _;generalize (upd H3 W.en (.dK (kvsOf (W.ED++[(W.c+1,e)]))))=H4 at W4 LB UZ ka tT;refine⟨_,rfl,(show 1<=sizeLine by decide),λx hx=>?_⟩;have s5:=Ai (o:=.BI [V.int (W.c+1)]) hx;have k5:=HN s5;refine kk x t1 e xs _ (W4.same s5) ⟨a,k5.BC _ _ (tT.BC _ _ mJ),k5.BC _ _ (ka.BC _ _ ea)⟩ (k5.BC _ _ (LB.BC _ _ ee)) (((((nA sx:PV K H2 xs (hs,os,rs)).keep (HN s3)).keep LB).keep k5)) (λb o eb hb=>s5 _ _ (UZ b o eb hb)) Ac (λz=>?_) λb o eb hb=>Ak (UZ b o eb hb) hx;have:=W4.hs;rw[show({ W with c:=W.c+1,ls:=W.ls++[(W.c+1,t1)],ED:=W.ED++[(W.c+1,e)] }:FZ).hs=W.hs from rfl,<-z,hx] at this;cases this
theorem On:∀b∈BG (HV (GV (Al G ts))),b∈BG G:=λb hb=>uY ts hb
def E7(CW C CP:Addr):Sp:=λvs H Q _=>∃(p t:Addr)(W:FZ)(k s g:Int)(ts:List T2)(q:Addr)(G:BS)(n:Nat)(rs:List (T2×Int)),vs=[.ref p,.ref t]/\AN CW C CP H p W/\QC H t k s g ts/\IH W g q G/\Ok G n/\n<=62/\(∀t∈G.hand,RU t)/\(∀q∈G.holds,∀t∈q.2.2,RU t)/\rs.Perm G.AM/\(rs.map (·.1)).Pairwise IS/\Ok (Al G ts) n/\(Bs (Al G ts) rs).length<=60/\W.ls.length<=400 /\
 ∀(x:Addr)(L:List (Int×Addr))(H':Hp),AN CW C CP H' p { W with qs:=W.qs.set g.toNat (q,HV (GV (Al G ts))),c:=W.c+((Bs (Al G ts) rs).length:Nat),ls:=W.ls++L }->Zl H' W.c g L (Bs (Al G ts) rs)->F_ p W H H'->x≠W.hs->Tz p W H x->H' x=some (.BI (L.map λy=>V.int y.1))->Q (.ref x) H'
theorem aS:Ao ["self","letter","h"] ["self","letter"] (Aj Hh):={}
theorem Uy(F:EK K "let_came" "World.let_came" Hh f fd)(T:Txt K mg C Cn DO MI NW)(TW:Ek K mg CW NH NI)(M1:CO K C "let" "House.let" Yc ["self","things"] f1 d1)(G1:CV P w K mg base 2 f1 d1 ["self","things"] (We C))(M2:CO K CW "give_back" "World.give_back" Nf ["self","h","records"] f2 d2)(G2:CV P w K mg base 2 f2 d2 ["self","h","records"] (Me CW C CP)):CV P w K mg base 3 f fd ["self","letter"] (E7 CW C CP):=by
 refine F.ok aS (λvs H Q E h=>?_) (λDP A outer s H vs Q E hr h=>?_);.obtain⟨p,t,W,k,s,g,ts,q,G,n,rs,rfl,_⟩:=h;rfl
 .obtain⟨p,t,W,k,s,g,ts,q,G,n,rs,rfl,S,⟨a,uQ,et,ea,th⟩,i,ok,zn,XQ,XO,pm,pw,VD,zb,zl,kk⟩:=h;obtain⟨dx,hp⟩:=S.ob;obtain⟨EJ,hq⟩:=(i.at S).ob;refine⟨_,Ad (Aw (i:=2) aS.nd rfl (Or.inl rfl) (Az Av (pv 1) Ah)) (Ae (Ar (Ap (pl:=_) (pv 0) TW.cl M2.mt G2 hr M2.bd .nil Bb (Aa (pv 2) (Aa (Ap (pl:=_) (Az D9 (An (pv 0) rfl) (pv 2)) T.cl M1.mt G1 hr M1.bd .nil Bb (Aa (Az Av (pv 1) Ah) Af)) Af))))),?_⟩;refine⟨_,rfl,t,_,3,V.int g,rfl,rfl,CL.of et,rfl,?_⟩;refine⟨_,rfl,p,dx,_,rfl,hp,C4 W ZV,_,rfl,_,rfl,p,CW,dx,_,_,rfl,hp,TW.cl,TW.nH,Dc W,_,rfl,W.hs,_,_,V.ref q,rfl,rfl,EC.of S.hs,i.PD,q,EJ,_,rfl,hq,By G ZV,_,rfl,t,_,4,V.ref a,rfl,rfl,CL.of et,rfl,q,a,G,n,rs,ts,uQ,rfl,i.at S,ok,zn,XQ,XO,pm,pw,ea,th,VD,λx as H1 nx ex bk S1 JT=>?_⟩;obtain⟨W1,FU⟩:=S.step i.2 S1 JT λb hb=>.inl (On b hb);have eN:=S.HG (b:=W.hs) (by simp[B5]) (ZP i.2);have aZ:x≠W.hs:=λz=>nx _ _ S.hs eN.1 eN.2 z.symm;(have sub:∀b,b∉Cb p W->b∉Cb p { W with qs:=W.qs.set g.toNat (q,HV (GV (Al G ts))) }:=λb hb m=>by rcases ZI m with m|m;(.exact hb (ZB _ m));.obtain⟨z,hz,hm⟩:=CG.mp m;have hz:z∈W.qs.set g.toNat (q,HV (GV (Al G ts))):=hz;rcases LN hz with hz|rfl;(.exact hb (ZC _ (CG.mpr ⟨z,hz,hm⟩)));.refine hb (ZC _ (CG.mpr ⟨(q,G),ZP i.2,?_⟩));exact hm.imp id λz=>On b z);refine⟨p,x,g,_,as,_,rfl,W1,ex,W1.QE ex aZ,bk,zb,zl,λy L H2 W2 b2 MN aY aX ey=>?_⟩;exact kk y L H2 W2 b2 (λb o e hb=>MN b o (FU b o e hb) (sub b hb)) aY (λb o e hb=>aX b o (FU b o e hb) (sub b hb)) ey
end
end K61
namespace FhM
open PySem PyProof.Rows
def T(f:Nat->Keyed)(l:List Nat):Array Keyed:=(l.map f).toArray
section
end
def Ord(lt:Nat->Nat->Bool)(l:List Nat):Prop:=l.Pairwise λx y=>lt x y=true
structure RC(lt:Nat->Nat->Bool)(S r:List Nat):Prop where
 pm:r.Perm S
 so:Ord lt r
section
end
abbrev ltP:Keyed->Keyed->StateT SortSt Sem (Option Bool):=sortPriv% PySem.Builtin.lt
abbrev Jky:Array Keyed->Nat->StateT SortSt Sem Keyed:=sortPriv% PySem.Builtin.elem
abbrev Ji9:Bool->Keyed->Array Keyed->Nat->Nat->Nat->StateT SortSt Sem (Option Nat):=sortPriv% PySem.Builtin.gallop
abbrev Jig:Array Keyed->Array Keyed->StateT SortSt Sem (Array Keyed):=sortPriv% PySem.Builtin.mergeLo
abbrev Jih:Array Keyed->Array Keyed->StateT SortSt Sem (Array Keyed):=sortPriv% PySem.Builtin.mergeHi
abbrev Jii:Nat->StateT SortSt Sem Bool:=sortPriv% PySem.Builtin.mergeAt
section
end
section
variable {lt:Nat->Nat->Bool}{a b o:List Nat}{ia ib k:Nat}
end
section
variable {prog:Program}{w:World}{A:Around}{E:Value->Shared->Prop}{s:Shared}{κ:SortKind}{f:Nat->Keyed}{lt:Nat->Nat->Bool}{n:Nat}
end
section
end
section
end
abbrev Jkx:Nat->Nat->StateT SortSt Sem (Option Bool):=sortPriv% PySem.Builtin.ltAt
abbrev Jkn:Nat->Nat->StateT SortSt Sem (Option Nat):=sortPriv% PySem.Builtin.countRun
abbrev Jk1:Nat->Nat->Nat->StateT SortSt Sem Bool:=sortPriv% PySem.Builtin.binarySort
abbrev Jk0:Nat->Nat->StateT SortSt Sem Unit:=sortPriv% PySem.Builtin.reverseSlice
abbrev Jkw:Nat->Nat->StateT SortSt Sem Unit:=sortPriv% PySem.Builtin.moveDown
section
end
section
variable {lt:Nat->Nat->Bool}{l:List Nat}
end
section
variable {prog:Program}{w:World}{A:Around}{E:Value->Shared->Prop}{s:Shared}{κ:SortKind}{f:Nat->Keyed}{lt:Nat->Nat->Bool}{n:Nat}
def St(κ:SortKind)(f:Nat->Keyed)(l:List Nat)(pend:Array (Nat×Nat×Nat))(g:Nat):SortSt:=SortSt.mk' κ (T f l) pend g none
end
section
end
section
end
end FhM
namespace FX
open PySem PySem.Spec PyProof.Rows L2
section
end
section
end
section
end
end FX
namespace K61F
open PySem L2 FX K61
theorem FL(h:n<=20000):n<sizeLine:=IB h (by decide)
structure iU(mg:Str->Option Value):Prop where
 tuple:mg "tuple"=none
 sorted:mg "sorted"=none
structure aV(K:W.Frag)(H:Hp)(d:Addr)(L:List (Int×Addr×HS)):Prop where
 ob:H d=some (.dK (L.map λq=>(.inl q.1,.ref q.2.1)))
 st:∀q∈L,PV K H q.2.1 q.2.2
section
theorem Fl(hd:H d=some (A9 l))(ht:H t=some (.BC (tv th))):DJ H d (.ref t) (if th∈l then some (V.bl true) else none):=by have:=DJ.t (k:=tk th) hd ht;rw[Fs] at this;exact this
theorem R4(hd:H d=some (Ec l))(ht:H t=some (.BC (tv th)))(f:l.find? (λq=>decide (q.1=th))=some q):DJ H d (.ref t) (some (.ref q.2.1)):=by have:=DJ.t (k:=tk th) hd ht;rw[Dk (k:=λq:T2×Addr×List T2=>q.1) (f:=λq=>V.ref q.2.1),f] at this;exact this
def NJ(K:W.Frag)(H:Hp)(hl:HL):Prop:=∀q∈hl,∃cs:List Addr,CL K H q.2.1 (cs.map V.ref)/\BB H cs q.2.2
theorem NJ.keep(k:BU H H')(h:NJ K H hl):NJ K H' hl:=λq hq=>let⟨cs,e,th⟩:=h q hq;⟨cs,k.sq e,BB.keep k th⟩
def Fx(K:W.Frag):Sp:=λvs H Q _=>∃(sa l:Addr)(as:List Addr)(ts:List T2)(hl:HL)(n:Nat)(R:List T2),vs=[.ref sa,.ref l]/\H sa=some (.BI (as.map V.ref))/\BB H as ts/\ts.length<=900/\H l=some (Ec hl)/\hl.length<=900 /\
 NJ K H hl/\(∀q∈hl,q.2.2.length<=900)/\KQ (NX hl) n (ts.filter λt=>decide (t∈hl.map (·.1))) [] R/\n<=6000/\∀(x:Addr)(H':Hp),H x=none->Bi H H'->H' x=some (A9 R)->Q (.ref x) H'
theorem XF:Ao ["starts","holds","found","thing","ahead"] ["starts","holds"] (Aj E9):={}
theorem Io(F:EK K "reached" "reached" E9 f fd):CV P w K mg base 1 f fd ["starts","holds"] (Fx K):=by
 refine F.IQ XF λvs H Q E h=>?_;obtain⟨sa,l,as,ts,hl,n,R,rfl,es,th,zt,el,zl,hq,hz,kQ,zn,k⟩:=h;refine⟨rfl,λDP A outer s hr=>?_⟩;have hu:=B3 hr;refine⟨_,Ad (Aw (i:=2) XF.nd rfl (Or.inl rfl) Dv) (Ad (Hn (te:=B6 0) (i:=4) (caps:=[("holds",1)]) XF.nd rfl rfl rfl rfl (Dl (pv 0)) rfl ZV rfl ZV rfl ⟨rfl,trivial⟩ (λy h=>FX.LZ ⟨_,rfl⟩ h) ⟨⟨rfl,rfl,rfl,rfl⟩,trivial⟩ ZV (λ_ _ _ _ _=>D3 (Dq (Im hu (pv 0) (pv 1)))) (λ_ _ _ _ _=>pv 0)) (Ad (Ut PassesOwn.never (Us (pv 4) (λ_=>rfl)) (Ad (Aw (i:=3) XF.nd rfl (Or.inl rfl) (K0 CJ PySem.F.slot_list_pop PySem.F.type_list_pop vI (pv 4))) (Ae (Bf (Dq (D5 hu (pv 3) (pv 2))) (Ad (Bz hu (pv 2) (pv 3) Fg rfl) (Ae (A5 (Lu CJ MM MJ Pz (pv 4) (Aa (En (te:=B6 0) (caps:=[("holds",1)]) rfl (Gk (Cp hu (pv 1) (pv 3))) rfl ZV rfl ZV rfl ⟨rfl,trivial⟩ (λy h=>FX.LZ ⟨_,rfl⟩ h) ⟨⟨rfl,rfl,rfl,rfl⟩,trivial⟩ ZV (λ_ _ _ _ _=>D3 (Dq (Im hu (pv 0) (pv 1)))) (λ_ _ _ _ _=>pv 0)) Af))))) A4)))) (Ae (Ar (pv 2))))),?_⟩;intro fa VH;have s1:=Ai (o:=.dT []) VH;have e1:(upd H fa (.dT [])) fa=some (A9 []):=Ac;generalize upd H fa (.dT [])=H1 at s1 e1;have kH:BB H1 as ts:=BB.keep (HN s1) th;refine⟨_,rfl,sa,rfl,⟨_,EC.of (s1 _ _ es)⟩,λaa VJ=>?_⟩;refine Hw (b:=λt=>decide (t∈hl.map (·.1))) (caps:=[("holds",1)]) VJ (by lia) (s1 _ _ es) kH (λH2 a t Q' sm ha ht q=>?_) λH2 bs sm ea tb=>?_;.obtain⟨o,g,eo⟩:=K9 (k:=λq:T2×Addr×List T2=>q.1) (f:=λq=>V.ref q.2.1) (.inl (sm _ _ (s1 _ _ el))) ha;refine⟨_,rfl,_,rfl,l,o,rfl,g,?_⟩;rw[eo];exact⟨_,rfl,q⟩
 have ax:H aa=none:=by cases c:H aa with | none=>rfl | some o=>rw[s1 _ _ c] at VJ;cases VJ
 have aw:fa≠aa:=λz=>by rw[<-z,e1] at VJ;cases VJ
 refine⟨λm σ H'=>∃(ahead found:List T2)(KJ:List Addr)(u3:Option V),σ=[some (.ref sa),some (.ref l),some (.ref fa),u3,some (.ref aa)]/\Bi H H'/\H' fa=some (A9 found)/\H' aa=some (.BI (KJ.map V.ref))/\BB H' KJ ahead/\KQ (NX hl) m ahead found R/\found.length+m<=6000/\∀t∈ahead,t∈hl.map (·.1),⟨n,_,[],bs,_,rfl,Am s1 sm,sm _ _ e1,ea,tb,kQ,by simpa using zn,λt ht=>by have:=(AD.mp ht).2;simpa using this⟩,?_⟩;rintro m σ H' ⟨ahead,found,KJ,u3,rfl,sh,ef,UC,XD,rc,zm,hk⟩;refine⟨_,rfl,_,.inl ⟨_,EC.of UC,rfl⟩,?_⟩;cases m with | zero =>obtain⟨e0,eR⟩:=rc;rw[e0] at XD;have e2:KJ=[]:=BW.mp (Paired.length XD);rw[e2];refine Cd ⟨_,rfl,k fa H' VH sh ?_⟩;rw[eR];exact ef | succ m =>have j8:=rc.len;obtain⟨a,t,YG,rc⟩:=rc;rw[YG] at XD j8;obtain⟨JM,c,e2,kG,ec⟩:=T5 XD;subst e2;(have em:(JM++[c]).map V.ref=JM.map V.ref++[V.ref c]:=by rw[ZF];rfl);rw[em] at UC ⊢;rw[show(!(JM.map V.ref++[V.ref c]).isEmpty)=true by cases JM<;>rfl];refine Ck ⟨_,λEV H' h=>⟨m,JD m,h⟩,?_⟩;refine⟨_,rfl,.inl ⟨rfl,_,EC.of UC⟩,aa,_,_,rfl,rfl,UC,Yv _ _,?_⟩;rw[show(JM.map V.ref++[V.ref c]).dropLast=JM.map V.ref by simp];(have s3:Bi H (upd H' aa (.BI (JM.map V.ref))):=λb o e=>by rw[Ab (Ak e ax)];exact sh _ _ e);(have QP:BU H' (upd H' aa (.BI (JM.map V.ref))):=OI λo' e=>by rw[UC] at e;cases e;exact⟨λ_ z=>(by cases z),λ_ _ z=>(by cases z)⟩);(have RT:(upd H' aa (.BI (JM.map V.ref))) fa=some (A9 found):=by rw[Ab aw];exact ef);have bG:(upd H' aa (.BI (JM.map V.ref))) aa=some (.BI (JM.map V.ref)):=Ac;have RY:BB (upd H' aa (.BI (JM.map V.ref))) JM a:=BB.keep QP kG;have YE:=QP.BC _ _ ec;generalize upd H' aa (.BI (JM.map V.ref))=H3 at s3 QP RT bG RY YE;refine⟨_,rfl,_,rfl,fa,_,rfl,Fl RT YE,_,rfl,?_⟩;rcases rc with⟨hf,rc⟩|⟨hf,rc⟩;(.rw[AE hf];exact Cd ⟨a,found,JM,_,rfl,s3,RT,bG,RY,rc,by lia,λu hu=>hk u (by rw[YG];exact ZB _ hu)⟩);.rw[AB hf];refine Ck ⟨_,rfl,_,rfl,fa,_,rfl,FF.t (k:=tk t) RT YE (by rw[ZA];exact FL (by lia)),?_⟩;rw[Eh,show Bt found t=found++[t] by unfold Bt;rw[AB hf]];(have s4:Bi H (upd H3 fa (A9 (found++[t]))):=λb o e=>by rw[Ab (Ak e VH)];exact s3 _ _ e);(have LB:BU H3 (upd H3 fa (A9 (found++[t]))):=OI λo' e=>by rw[RT] at e;cases e;exact⟨λ_ z=>(by cases z),λ_ _ z=>(by cases z)⟩);have YD:(upd H3 fa (A9 (found++[t]))) fa=some (A9 (found++[t])):=Ac;(have YF:(upd H3 fa (A9 (found++[t]))) aa=some (.BI (JM.map V.ref)):=by rw[Ab aw.symm];exact bG);have RX:BB (upd H3 fa (A9 (found++[t]))) JM a:=BB.keep LB RY;have fX:=LB.BC _ _ YE;rw[show HO.dT ((found++[t]).map λq=>(tk q,V.bl true))=A9 (found++[t]) from rfl];generalize upd H3 fa (A9 (found++[t]))=H4 at s4 LB YD YF RX fX;have kD:t∈hl.map (·.1):=hk t (by rw[YG];exact ZC _ (by simp));obtain⟨ad,fJ⟩:=Mr kD;have mq:=AX fJ;obtain⟨cs,q1,q2⟩:=hq _ mq;have q1:CL K H ad (cs.map V.ref):=q1;have q2:BB H cs (Ce hl t):=q2;have q3:(Ce hl t).length<=900:=hz _ mq;refine⟨_,rfl,.inl ⟨rfl,_,EC.of YF⟩,_,rfl,_,rfl,l,_,rfl,R4 (s4 _ _ el) fX fJ,ad,rfl,⟨_,(HN s4).sq q1⟩,λpl QQ=>?_⟩;refine Vs (K:=K) (b:=λu=>decide (u∈hl.map (·.1))) (caps:=[("holds",1)]) QQ (by lia) ((HN s4).sq q1) (BB.keep (HN s4) q2) (λH2 a' u Q' kJ ha yH q=>?_) λH6 YK s6 ji RP=>?_;(.obtain⟨o,g,eo⟩:=K9 (k:=λq:T2×Addr×List T2=>q.1) (f:=λq=>V.ref q.2.1) (.inl (kJ l (Ec hl) (s4 _ _ el))) ha;refine⟨_,rfl,_,rfl,l,o,rfl,g,?_⟩;rw[eo];exact⟨_,rfl,q⟩);.have RP:BB H6 YK (NX hl t):=RP;have zz:=rc.len;rw[ZE] at zz;have l1:=Paired.length RX;have l2:=Paired.length RP;refine⟨aa,pl,_,_,rfl,rfl,s6 _ _ YF,ji,EO (FL (by rw[ZA,ZA];lia)),?_⟩;rw[<-ZF];(have TZ:BU H6 (upd H6 aa (.BI ((JM++YK).map V.ref))):=OI λo' e=>by rw[s6 _ _ YF] at e;cases e;exact⟨λ_ z=>(by cases z),λ_ _ z=>(by cases z)⟩);refine⟨a++NX hl t,found++[t],JM++YK,_,rfl,λb o e=>?_,?_,Ac,BB.keep TZ (Ji (BB.keep (HN s6) RX) RP),rc,?_,λu hu=>?_⟩;(.rw[Ab (Ak e ax)];exact s6 _ _ (s4 _ _ e));(.rw[Ab aw];exact s6 _ _ YD);(.rw[ZE];show found.length+1+m<=6000;lia);.rcases ZI hu with hu|hu;(.exact hk u (by rw[YG];exact ZB _ hu));.have:=(AD.mp hu).2;simpa using this
end
theorem KD(a:List (T2×Int))(t:T2):((B9 (a.map λq=>(tk q.1,V.int q.2)) (tk t)).getD (.int 0))=.int (Ex a t):=by rw[Dk (k:=λq:T2×Int=>q.1) (f:=λq=>V.int q.2)];unfold Ex;cases a.find? λq=>decide (q.1=t) with | none=>rfl | some r=>rfl
theorem Jdg(a:List (T2×Int))(q:T2×Int):(addW a q).length<=a.length+1:=by have lp:=Fj (a.map λq=>(tk q.1,V.int q.2)) (tk q.1) (.int (Ex a q.1+q.2));rw[Df,ZA,ZA] at lp;exact lp
theorem KP:∀(l a:List (T2×Int)),(l.foldl addW a).length<=a.length+l.length
 | [],a=>ZG _
 | q::l,a=>by have h1:=KP l (addW a q);have h2:=Jdg a q;show(l.foldl addW (addW a q)).length<=_;simp only[BJ];lia
abbrev FE(L:List (Int×Addr×HS)):List HS:=L.map (·.2.2)
theorem uW{K:W.Frag}{H:Hp}{d:Addr}{L:List (Int×Addr×HS)}{i:Nat}{k:Key}{v:V}(h:(L.map λq=>((.inl q.1:Key),V.ref q.2.1))[i]?=some (k,v)):∃q,L[i]?=some q/\v=.ref q.2.1:=by rw[ZH] at h;cases e:L[i]? with | none=>rw[e] at h;cases h | some q =>rw[e] at h;have h:((.inl q.1:Key),V.ref q.2.1)=(k,v):=ZO h;exact⟨q,rfl,(Prod.mk.inj h).2.symm⟩
section
theorem VT:Ao ["states","weights","state","thing","weight"] ["states"] (Aj Hk):={}
def M7(K:W.Frag):Sp:=λvs H Q _=>∃(d:Addr)(L:List (Int×Addr×HS)),vs=[.ref d]/\aV K H d L/\((FE L).flatMap (·.2.2)).length<=1200 /\
 ∀(r:Addr)(H':Hp),H r=none->Bi H H'->H' r=some (Cf (Ci (FE L)))->Q (.ref r) H'
theorem U0{f:Addr}{fd:FuncData}(F:EK K "recorded" "recorded" Hk f fd):CV P w K mg base 1 f fd ["states"] (M7 K):=by
 refine F.IQ VT λvs H Q E h=>?_;obtain⟨d,L,rfl,S,zl,k⟩:=h;refine⟨rfl,λDP A outer s hr=>?_⟩;have hu:=B3 hr;refine⟨_,Ad (Aw (i:=1) VT.nd rfl (Or.inl rfl) Dv) (Ad (Dg PassesOwn.never rfl (Pu (K0 CK HU MK K5 (pv 0))) (Bl (i:=2) VT.nd rfl (Or.inl rfl)) (Ae (Dg PassesOwn.never rfl (Gk (Az Av (pv 2) Ah)) (Kz rfl (Cc (Bl (i:=3) VT.nd rfl (Or.inl rfl)) (Cc (Bl (i:=4) VT.nd rfl (Or.inl rfl)) Ho))) (Ae (Bz hu (pv 1) (pv 3) (Be Fc (F3 hu (pv 1) (pv 3) Ah ⟨rfl,rfl,rfl,rfl⟩) (pv 4)) rfl))))) (N'.RZ (Ae (Ar (pv 1))))),?_⟩;intro r PR;have s1:=Ai (o:=.dT []) PR;have e1:(upd H r (.dT [])) r=some (Cf []):=Ac;generalize upd H r (.dT [])=H1 at s1 e1;have mV:=s1 _ _ S.ob;refine⟨_,rfl,.inr (.inr (.inl ⟨rfl,.inl ⟨_,mV⟩⟩)),d,_,rfl,rfl,mV,λp hp=>?_⟩;have s2:=Ai (o:=Gu p d) hp;have e2:(upd H1 p (Gu p d)) p=some (Gu p d):=Ac;generalize upd H1 p (Gu p d)=H2 at s2 e2;have tZ:=s2 _ _ mV;have jh:=s2 _ _ e1;have UQ:r≠d:=λz=>by rw[z,S.ob] at PR;cases PR
 refine⟨p,d,_,rfl,e2,tZ,λo=>?_⟩;have kd:∀{H':Hp} {u:HO},H' d=some (.dK (L.map λq=>((.inl q.1:Key),V.ref q.2.1)))->BU H' (upd H' d u):=λ{H'} {u} e=>OI λo' e'=>by rw[e] at e';cases e';exact⟨λ_ z=>(by cases z),λ_ _ z=>(by cases z)⟩
 refine Ol (d:=d) (ob:=o) (λi σ H'=>∃(u2 u3 u4:Option V),σ=[some (.ref d),some (.ref r),u2,u3,u4]/\H' d=some (.FJ o (.dK (L.map λq=>((.inl q.1:Key),V.ref q.2.1))))/\H' r=some (Cf (((FE (L.take i)).flatMap (·.2.2)).foldl addW []))/\BU H2 H'/\∀b ob,H b=some ob->b≠d->H' b=some ob) ⟨_,_,_,rfl,Ac,by rw[Ab UQ];exact jh,kd tZ,λb ob e n=>by rw[Ab n];exact s2 _ _ (s1 _ _ e)⟩ (λi σ H' _ h9=>by obtain⟨_,_,_,_,e,_⟩:=h9;exact e) ?_ ?_;.rintro i kk v σ H3 hi ⟨u2,u3,u4,rfl,ef,er,kt,fr⟩;obtain⟨q,eq,rfl⟩:=uW (K:=K) (H:=H) (d:=d) hi;have mq:=ZP eq;have SY:=(ZJ eq).1;have cP:=((S.st q mq).keep ((HN s1).trans (HN s2))).keep kt;obtain⟨y1,y2,y3,as,bs,ds,f0,f1,t1,f2,t2,f3,t3⟩:=cP;refine⟨_,rfl,q.2.1,_,2,V.ref y3,rfl,rfl,f0,rfl,y3,rfl,⟨_,f3⟩,?_⟩;(have HV:L.take (i+1)=L.take i++[q]:=by rw[DE,eq];rfl);(have lT:((FE (L.take i)).flatMap (·.2.2)).length+q.2.2.2.2.length<=1200:=by (have e5:FE L=FE (L.take (i+1))++FE (L.drop (i+1)):=by rw[<-ZF,DY]);rw[e5,CD,ZE,HV] at zl;rw[show FE (L.take i++[q])=FE (L.take i)++[q.2.2] by unfold FE;rw[ZF];rfl,CD,ZE] at zl;simp only[CA,HI,AH] at zl;lia);refine Hv (K:=K) (a:=y3) (xs:=ds) (λj σ H'=>∃(w3 w4:Option V),σ=[some (.ref d),some (.ref r),some (.ref q.2.1),w3,w4]/\H' d=some (.FJ o (.dK (L.map λq=>((.inl q.1:Key),V.ref q.2.1))))/\H' r=some (Cf ((((FE (L.take i)).flatMap (·.2.2))++q.2.2.2.2.take j).foldl addW []))/\BU H2 H'/\BU H3 H'/\∀b ob,H b=some ob->b≠d->H' b=some ob) ⟨_,_,rfl,ef,by rw[HC,AH];exact er,kt,BU.refl _,fr⟩ (λj σ H' _ h9=>by obtain⟨_,_,_,_,_,_,k3,_⟩:=h9;exact k3.sq f3) ?_ ?_;(.rintro j v σ H4 hj ⟨w3,w4,rfl,YD,NC,LB,UT,UB⟩;obtain⟨x,ex⟩:=Au (xs:=q.2.2.2.2) (j:=j) (by rw[<-Paired.length t3];exact(ZJ hj).1);obtain⟨a,t,rfl,g1,g2⟩:=(Ax t3 j v x hj ex).keep UT;have W_:=(ZJ ex).1;refine⟨a,_,rfl,g1,rfl,_,_,rfl,_,_,rfl,rfl,?_⟩;refine⟨_,rfl,r,rfl,.inr ⟨_,.inl NC⟩,_,rfl,_,DJ.t (k:=tk x.1) NC g2,_,rfl,_,x.2,KD _ _,rfl,_,rfl,_,rfl,r,_,rfl,FF.t (k:=tk x.1) NC g2 (by rw[ZA];have:=KP (((FE (L.take i)).flatMap (·.2.2))++q.2.2.2.2.take j) [];rw[ZE,B_] at this;simp only[BN] at this;exact FL (by lia)),?_⟩;rw[Df];(have aB:∀u:HO,BU H4 (upd H4 r u):=λu=>OI λo' e=>by rw[NC] at e;cases e;exact⟨λ_ z=>(by cases z),λ_ _ z=>(by cases z)⟩);refine⟨_,_,rfl,by rw[Ab (Ne.symm UQ)];exact YD,?_,LB.trans (aB _),UT.trans (aB _),λb ob e n=>by rw[Ab (Ak e PR)];exact UB _ _ e n⟩;(have e7:∀l:List (T2×Int),(l++[x]).foldl addW []=addW (l.foldl addW []) x:=λl=>by rw[LU];rfl);(have e8:(FE (L.take i)).flatMap (·.2.2)++q.2.2.2.2.take (j+1)=((FE (L.take i)).flatMap (·.2.2)++q.2.2.2.2.take j)++[x]:=by rw[DE,ex,<-AW];rfl);rw[e8,e7];exact Ac);.rintro σ H4 ⟨w3,w4,rfl,YD,NC,LB,UT,UB⟩;rw[Paired.length t3,BM] at NC;refine⟨_,_,_,rfl,YD,?_,LB,UB⟩;rw[HV,show FE (L.take i++[q])=FE (L.take i)++[q.2.2] by unfold FE;rw[ZF];rfl,CD];simp only[CA,HI,AH];exact NC
 .rintro σ H3 ⟨u2,u3,u4,rfl,ef,er,kt,fr⟩;rw[ZA,BM] at er;refine⟨upd H3 d (.dK (L.map λq=>((.inl q.1:Key),V.ref q.2.1))),⟨d,o,_,ef,λob v z=>?_,rfl⟩,?_⟩;(.have z:H d=some (.FJ ob v):=z;rw[S.ob] at z;cases z);refine⟨_,rfl,k r _ PR (λb ob e=>?_) (by rw[Ab UQ];exact er)⟩;by_cases hb:b=d;(.rw[hb,Ac];rw[hb,S.ob] at e;exact e);.rw[Ab hb];exact fr b ob e hb
end
structure RC(L:List HS):Prop where
 nd:((rowsOf L).map (·.1)).Nodup
 rz:(rowsOf L).length<=60
 hz:(L.flatMap (·.1)).length<=800
 oz:∀r∈rowsOf L,r.2.2.length<=60
 tz:(L.flatMap (·.2.2)).length<=1200
def Cr(ws:List (T2×Int))(L:List HS):List T2:=L.flatMap λS=>S.1++((S.2.1.filter λr=>!decide (r.2.1=Ex ws r.1)).map (·.1))
theorem Gf(ws:List (T2×Int)):∀L:List HS,(Cr ws L).length<=(L.flatMap (·.1)).length+(rowsOf L).length
 | []=>by simp[Cr]
 | S::L=>by have ih:=Gf ws L;have h:=AS (λr:T2×Int×List T2=>!decide (r.2.1=Ex ws r.1)) S.2.1;unfold Cr rowsOf at *;simp only[CA,ZE,ZA] at *;lia
theorem LM:t∈Cr ws L↔(∃S∈L,t∈S.1)\/∃r∈rowsOf L,r.1=t/\r.2.1≠Ex ws r.1:=by
 unfold Cr rowsOf;simp only[D_,OE,AI,AD];constructor;.rintro⟨S,hS,(h|⟨r,⟨hr,c⟩,e⟩)⟩;(.exact .inl ⟨S,hS,h⟩);.exact .inr ⟨r,⟨S,hS,hr⟩,e,by simpa using c⟩
 .rintro(⟨S,hS,h⟩|⟨r,⟨S,hS,hr⟩,e,c⟩);(.exact⟨S,hS,.inl h⟩);.exact⟨S,hS,.inr ⟨r,⟨hr,by simpa using c⟩,e⟩⟩
def MX(hl:HL)(rows:List (T2×Int×List T2)):Prop:=hl.map (λq=>(q.1,q.2.2))=rows.map λr=>(r.1,r.2.2)
theorem MX.keys(h:MX hl rows):hl.map (·.1)=rows.map (·.1):=by have:=congrArg (List.map Prod.fst) h;rw[AR,AR] at this;exact this
theorem MX.get(h:MX hl rows)(nd:(rows.map (·.1)).Nodup)(hr:r∈rows):Ce hl r.1=r.2.2:=by
 have m:(r.1,r.2.2)∈hl.map λq=>(q.1,q.2.2):=by rw[h];exact AI.mpr ⟨r,hr,rfl⟩
 obtain⟨q,hq,e⟩:=ZN m;have e1:=(Prod.mk.inj e).1;have e2:=(Prod.mk.inj e).2;unfold Ce;rw[<-e1,FX.FN (k:=λq:T2×Addr×List T2=>q.1) (by rw[h.keys];exact nd) hq];exact e2
theorem Jez(nd:((rowsOf L).map (·.1)).Nodup)(h:MX hl (rowsOf L))(rc:KQ (NX hl) n ((Cr (Ci L) L).filter λt=>decide (t∈hl.map (·.1))) [] R) : ∀t,t∈(rowsOf L).map (·.1)->(t∈R↔Led L t):=by
 have start:∀t,t∈Cr (Ci L) L->Led L t:=λt ht=>by rcases LM.mp ht with⟨S,hS,m⟩|⟨r,hr,e,c⟩;(.exact .hand hS m);.rw[<-e];exact .out hr c
 have row:∀t,t∈hl.map (·.1)->∃r∈rowsOf L,r.1=t:=λt ht=>by rw[h.keys] at ht;obtain⟨r,hr,e⟩:=ZN ht;exact⟨r,hr,e⟩
 have cl:∀t∈R,Led L t:=KQ.least (S:=λt=>Led L t) (λt lt u hu=>by have eJ:=AD.mp hu;by_cases c:t∈hl.map (·.1);(.obtain⟨r,hr,e⟩:=row t c;subst e;have rO:=eJ.1;rw[h.get nd hr] at rO;exact .step hr rO lt);.exfalso;(have:Ce hl t=[]:=by unfold Ce;rw[BA.mpr λq hq=>by have:q.1≠t:=λz=>c (AI.mpr ⟨q,hq,z⟩);simpa using this];rfl);rw[this] at eJ;exact absurd eJ.1 (DN)) rc (λt ht=>by cases ht) λt ht=>start t (AD.mp ht).1;have closed:=KQ.closed rc (λt ht=>by cases ht);have sub:=(KQ.sub rc).2;have back:∀t,Led L t->t∈(rowsOf L).map (·.1)->t∈R:=λt lt=>by induction lt with | hand hS m=>intro ht;exact sub _ (AD.mpr ⟨LM.mpr (.inl ⟨_,hS,m⟩),by rw[h.keys];simpa using ht⟩) | out hr c=>intro ht;exact sub _ (AD.mpr ⟨LM.mpr (.inr ⟨_,hr,rfl,c⟩),by rw[h.keys];simpa using ht⟩) | @step r u hr m _ ih =>intro ht;refine closed _ (ih (AI.mpr ⟨_,hr,rfl⟩)) u (AD.mpr ⟨by rw[h.get nd hr];exact m,by rw[h.keys];simpa using ht⟩)
 exact λt ht=>⟨λm=>cl t m,λl=>back t l ht⟩
theorem Jbk(F:RC L)(h:MX hl (rowsOf L)):∃n R,n<=6000/\KQ (NX hl) n ((Cr (Ci L) L).filter λt=>decide (t∈hl.map (·.1))) [] R:=by
 have lk:(hl.map (·.1)).length<=60:=by rw[h.keys,ZA];exact F.rz
 have ls:=Gf (Ci L) L;have l2:=AS (λt=>decide (t∈hl.map (·.1))) (Cr (Ci L) L);have sz:∀t,(NX hl t).length<=60:=λt=>by refine BE (AS _ _) ?_;by_cases c:t∈hl.map (·.1);(.rw[h.keys] at c;obtain⟨r,hr,e⟩:=ZN c;rw[<-e,h.get F.nd hr];exact F.oz r hr);·(have:Ce hl t=[]:=by unfold Ce;rw[BA.mpr λq hq=>by have:q.1≠t:=λz=>c (AI.mpr ⟨q,hq,z⟩);simpa using this];rfl);rw[this];simp
 have:=F.rz;have:=F.hz;obtain⟨n,R,h1,h2⟩:=KQ.ex (nx:=NX hl) (keys:=hl.map (·.1)) (B:=60) (vK hl) sz 6000 ((Cr (Ci L) L).filter λt=>decide (t∈hl.map (·.1))) [] (λt ht=>by have:=(AD.mp ht).2;simpa using this) (by have:((hl.map (·.1)).filter λt=>decide (t∉([]:List T2))).length<=60:=BE (AS _ _) lk;have:=FC (60+1) this;lia);exact⟨n,R,by lia,h2⟩
section
theorem PX:Ao ["states","weights","holds","starts","state","thing","out","held","kept"] ["states"] (Aj Gh):={}
def KG(K:W.Frag):Sp:=λvs H Q _=>∃(d:Addr)(L:List (Int×Addr×HS)),vs=[.ref d]/\aV K H d L/\RC (FE L) /\
 ∀(x:Addr)(as:List Addr)(ts:List T2)(H':Hp),Bi H H'->H' x=some (.BC (as.map V.ref))->BB H' as ts->Found (FE L) ts->Q (.ref x) H'
theorem MX.snoc(h:MX hl rows)(r:T2×Int×List T2)(a:Addr):MX (hl++[(r.1,a,r.2.2)]) (rows++[r]):=by unfold MX at *;rw[ZF,ZF,h];rfl
theorem QN(F:EK K "unreached" "unreached" Gh f fd)(T:iU mg)(MR:QU K mg "reached" E9 ["starts","holds"] fR dR)(MD:QU K mg "recorded" Hk ["states"] fD dD):CV P w K mg base 2 f fd ["states"] (KG K):=by
 have GR:CV P w K mg base 1 fR dR ["starts","holds"] (Fx K):=Io MR.fn;have GD:CV P w K mg base 1 fD dD ["states"] (M7 K):=U0 MD.fn;refine F.IQ PX λvs H Q E h=>?_;obtain⟨d,L,rfl,S,fi,k⟩:=h;refine⟨rfl,λDP A outer s hr=>?_⟩;have hu:=B3 hr;have GO:CU 1 _:=hr.mono (by decide);refine⟨_,Ad (Aw (i:=1) PX.nd rfl (Or.inl rfl) (Cs GD GO (by rfl) MD.mg MD.fn.kp MD.bd .nil Bb (Aa (pv 0) Af))) (Ad (Aw (i:=2) PX.nd rfl (Or.inl rfl) Dv) (Ad (Aw (i:=3) PX.nd rfl (Or.inl rfl) (Fa Af)) (Ad (Dg PassesOwn.never rfl (Pu (K0 CK HU MK K5 (pv 0))) (Bl (i:=4) PX.nd rfl (Or.inl rfl)) (Ad (A5 (Lu CJ MM MJ Wz (pv 3) (Aa (Az Av (pv 4) Ah) Af))) (Ae (Dg PassesOwn.never rfl (Gk (Az Av (pv 4) Ah)) (Kz rfl (Cc (Bl (i:=5) PX.nd rfl (Or.inl rfl)) (Cc (Bl (i:=6) PX.nd rfl (Or.inl rfl)) (Cc (Bl (i:=7) PX.nd rfl (Or.inl rfl)) Ho)))) (Ad (Bz hu (pv 2) (pv 5) (pv 7) rfl) (Ae (Bf (A3 nY (pv 6) (F3 hu (pv 1) (pv 5) Ah ⟨rfl,rfl,rfl,rfl⟩) (A6 _)) (Ae (A5 (Lu CJ HR HQ F6 (pv 3) (Aa (pv 5) Af)))) A4))))))) (N'.RZ (Ad (Aw (i:=8) PX.nd rfl (Or.inr rfl) (Cs GR GO (by rfl) MR.mg MR.fn.kp MR.bd .nil Bb (Aa (pv 3) (Aa (pv 2) Af)))) (Ae (Ar (Dm Dx (by rfl) T.tuple EH (Aa (En (te:=B6 0) (caps:=[("kept",8)]) rfl (Dl (Bg (Cm rfl) (by rfl) T.sorted DI (Aa (pv 2) Af))) rfl ZV rfl ZV rfl ⟨rfl,trivial⟩ (λy h=>FX.LZ ⟨_,rfl⟩ h) ⟨⟨rfl,rfl,rfl,rfl⟩,trivial⟩ ZV (λ_ _ _ _ _=>D3 (Dq (D5 hu (pv 0) (pv 1)))) (λ_ _ _ _ _=>pv 0)) Af))))))))),?_⟩;refine⟨_,rfl,d,L,rfl,S,fi.tz,λws H1 rM s1 ew=>?_⟩;intro hd cw;have s2:=Ai (o:=.dT []) cw;have e2:(upd H1 hd (.dT [])) hd=some (Ec []):=Ac;generalize upd H1 hd (.dT [])=H2 at s2 e2;refine⟨by decide,λsl WY=>?_⟩;have s3:=Ai (o:=.BI []) WY;have e3:(upd H2 sl (.BI [])) sl=some (.BI []):=Ac;generalize upd H2 sl (.BI [])=H3 at s3 e3;have kO:=Am s1 (Am s2 s3);have zx:=s3 _ _ (s2 _ _ ew);have eh3:=s3 _ _ e2;have jK:H hd=none:=Cq s1 cw;have jJ:H sl=none:=Cq s1 (Cq s2 WY);have wu:ws≠hd:=Ak ew cw;have jH:ws≠sl:=Ak (s2 _ _ ew) WY;have kX:hd≠sl:=Ak e2 WY;have aL:=kO _ _ S.ob;have kf:hd≠d:=λz=>by rw[z,S.ob] at jK;cases jK
 have TY:sl≠d:=λz=>by rw[z,S.ob] at jJ;cases jJ
 have xK:ws≠d:=λz=>by rw[z,S.ob] at rM;cases rM
 refine⟨_,rfl,.inr (.inr (.inl ⟨rfl,.inl ⟨_,aL⟩⟩)),d,_,rfl,rfl,aL,λp hp=>?_⟩;have s4:=Ai (o:=Gu p d) hp;have e4:(upd H3 p (Gu p d)) p=some (Gu p d):=Ac;generalize upd H3 p (Gu p d)=H4 at s4 e4;have tY:=s4 _ _ aL;refine⟨p,d,_,rfl,e4,tY,λo=>?_⟩;have vh:∀i,rowsOf (FE (L.take i))=(FE (L.take i)).flatMap (·.2.1):=λi=>rfl;have i':∀{i:Nat} {q:Int×Addr×HS},L[i]?=some q->FE (L.take (i+1))=FE (L.take i)++[q.2.2]:=λ{i q} eq=>by rw[DE,eq];show List.map _ (L.take i++[q])=_;rw[ZF];rfl
 refine Ol (d:=d) (ob:=o) (λi σ H'=>∃(u4 u5 u6 u7:Option V)(hl:HL)(as:List Addr),σ=[some (.ref d),some (.ref ws),some (.ref hd),some (.ref sl),u4,u5,u6,u7,none]/\H' d=some (.FJ o (.dK (L.map λq=>((.inl q.1:Key),V.ref q.2.1))))/\H' ws=some (Cf (Ci (FE L)))/\H' hd=some (Ec hl)/\MX hl (rowsOf (FE (L.take i)))/\NJ K H' hl/\H' sl=some (.BI (as.map V.ref))/\BB H' as (Cr (Ci (FE L)) (FE (L.take i)))/\BU H4 H'/\∀b ob,H b=some ob->b≠d->H' b=some ob) ⟨_,_,_,_,[],[],rfl,Ac,by rw[Ab xK];exact s4 _ _ zx,by rw[Ab kf];exact s4 _ _ eh3,rfl,(λq hq=>by cases hq),by rw[Ab TY];exact s4 _ _ e3,.nil,OI (λo' e'=>by rw[tY] at e';cases e';exact⟨λ_ z=>(by cases z),λ_ _ z=>(by cases z)⟩),λb ob e n=>by rw[Ab n];exact s4 _ _ (kO _ _ e)⟩ (λi σ H' _ h9=>by obtain⟨_,_,_,_,_,_,_,e,_⟩:=h9;exact e) ?_ ?_;.rintro i kk v σ H5 hi ⟨u4,u5,u6,u7,hl,as,rfl,ef,tN,mS,XA,lX,fQ,WT,aB,U_⟩;obtain⟨q,eq,rfl⟩:=uW (K:=K) (H:=H) (d:=d) hi;have mq:=ZP eq;have ZQ:=((S.st q mq).keep ((HN kO).trans (HN s4))).keep aB;obtain⟨y1,y2,y3,I_,bs,ds,f0,f1,t1,f2,t2,f3,t3⟩:=ZQ;(have qN:rowsOf (FE L)=rowsOf (FE (L.take i))++(q.2.2.2.1++rowsOf (FE (L.drop (i+1)))):=by (have e5:FE L=FE (L.take (i+1))++FE (L.drop (i+1)):=by rw[<-ZF,DY]);rw[e5,i' eq];unfold rowsOf;simp only[CD,CA,HI,AH,AW]);(have n9:(FE L).flatMap (·.1)=(FE (L.take i)).flatMap (·.1)++(q.2.2.1++(FE (L.drop (i+1))).flatMap (·.1)):=by (have e5:FE L=FE (L.take (i+1))++FE (L.drop (i+1)):=by rw[<-ZF,DY]);rw[e5,i' eq];simp only[CD,CA,HI,AH,AW]);have zr:=fi.rz;have zh:=fi.hz;have ls:=Gf (Ci (FE L)) (FE (L.take i));have lth:=Paired.length WT;have l1:=Paired.length t1;rw[qN,ZE,ZE] at zr;rw[n9,ZE,ZE] at zh;have nd:=fi.nd;rw[qN] at nd;refine⟨_,rfl,.inl ⟨rfl,_,EC.of fQ⟩,_,rfl,q.2.1,_,0,V.ref y1,rfl,rfl,f0,rfl,sl,y1,_,_,rfl,rfl,fQ,f1,EO (FL (by rw[ZA,ZA];lia)),?_⟩;rw[<-ZF];(have WW:BU H5 (upd H5 sl (.BI ((as++I_).map V.ref))):=OI λo' e=>by rw[fQ] at e;cases e;exact⟨λ_ z=>(by cases z),λ_ _ z=>(by cases z)⟩);(have XY:∀b ob,H5 b=some ob->b≠sl->(upd H5 sl (.BI ((as++I_).map V.ref))) b=some ob:=λb ob e n=>by rw[Ab n];exact e);have fO:(upd H5 sl (.BI ((as++I_).map V.ref))) sl=some (.BI ((as++I_).map V.ref)):=Ac;have RP:BB (upd H5 sl (.BI ((as++I_).map V.ref))) (as++I_) (Cr (Ci (FE L)) (FE (L.take i))++q.2.2.1):=BB.keep WW (Ji WT t1);generalize upd H5 sl (.BI ((as++I_).map V.ref))=H6 at WW XY fO RP;refine⟨_,rfl,q.2.1,_,1,V.ref y2,rfl,rfl,WW.sq f0,rfl,y2,rfl,⟨_,WW.sq f2⟩,?_⟩;refine Hv (K:=K) (a:=y2) (xs:=bs) (λj σ H'=>∃(w5 w6 w7:Option V)(hl:HL)(as:List Addr),σ=[some (.ref d),some (.ref ws),some (.ref hd),some (.ref sl),some (.ref q.2.1),w5,w6,w7,none]/\H' d=some (.FJ o (.dK (L.map λq=>((.inl q.1:Key),V.ref q.2.1))))/\H' ws=some (Cf (Ci (FE L)))/\H' hd=some (Ec hl)/\MX hl (rowsOf (FE (L.take i))++q.2.2.2.1.take j)/\NJ K H' hl/\H' sl=some (.BI (as.map V.ref))/\BB H' as ((Cr (Ci (FE L)) (FE (L.take i))++q.2.2.1)++((q.2.2.2.1.take j).filter λr=>!decide (r.2.1=Ex (Ci (FE L)) r.1)).map (·.1))/\BU H6 H'/\∀b ob,H b=some ob->b≠d->H' b=some ob) ⟨_,_,_,hl,as++I_,rfl,XY _ _ ef (Ne.symm TY),XY _ _ tN jH,XY _ _ mS kX,by rw[HC,AH];exact XA,lX.keep WW,fO,by rw[HC];simpa using RP,BU.refl _,λb ob e n=>XY _ _ (U_ _ _ e n) (Ak e jJ)⟩ (λj σ H' _ h9=>by obtain⟨_,_,_,_,_,_,_,_,_,_,_,_,_,k3,_⟩:=h9;exact(WW.trans k3).sq f2) ?_ ?_;(.rintro j v σ H7 hj ⟨w5,w6,w7,QX,fe,rfl,mU,mH,dA,SF,bu,mK,ag,eD,PB⟩;obtain⟨r,er⟩:=Au (xs:=q.2.2.2.1) (j:=j) (by rw[<-Paired.length t2];exact(ZJ hj).1);obtain⟨a,t,ha,cs,rfl,g1,g2,g3,g4⟩:=(Ax t2 j v r hj er).keep (WW.trans eD);have W_:=(ZJ er).1;(have HV:q.2.2.2.1.take (j+1)=q.2.2.2.1.take j++[r]:=by rw[DE,er];rfl);(have Z_:r.1∉QX.map (·.1):=by rw[SF.keys];intro z;have e9:q.2.2.2.1=q.2.2.2.1.take (j+1)++q.2.2.2.1.drop (j+1):=(DY _ _).symm;rw[e9,HV,<-AW,<-AW,<-AW,AW (rowsOf (FE (L.take i))++q.2.2.2.1.take j++[r])] at nd;(have cY:((rowsOf (FE (L.take i))++q.2.2.2.1.take j++[r]).map (·.1)).Nodup:=by rw[ZF] at nd;exact(AO.mp nd).1);rw[ZF] at cY;exact(AO.mp cY).2.2 r.1 z r.1 (by simp) rfl);(have lh:QX.length<=60:=by have:=congrArg List.length SF.keys;rw[ZA,ZA,ZE,B_] at this;lia);have lf:=AS (λr:T2×Int×List T2=>!decide (r.2.1=Ex (Ci (FE L)) r.1)) (q.2.2.2.1.take j);rw[B_] at lf;have xl:=Paired.length ag;rw[ZE,ZE,ZA] at xl;refine⟨a,_,rfl,g1,rfl,_,_,rfl,_,_,rfl,_,_,rfl,rfl,?_⟩;refine⟨_,rfl,_,rfl,_,rfl,hd,_,rfl,FF.t (k:=tk r.1) dA g2 (by rw[ZA];exact FL (by lia)),?_⟩;rw[Hm (V.ref ha) (λq hq z=>Z_ (AI.mpr ⟨q,hq,z⟩))];rw[show(QX.map λq=>(tk q.1,V.ref q.2.1))++[(tk r.1,V.ref ha)]=(QX++[(r.1,ha,r.2.2)]).map λq=>(tk q.1,V.ref q.2.1) by rw[ZF];rfl];(have UR:BU H7 (upd H7 hd (Ec (QX++[(r.1,ha,r.2.2)]))):=OI λo' e=>by rw[dA] at e;cases e;exact⟨λ_ z=>(by cases z),λ_ _ z=>(by cases z)⟩);(have c6:∀b ob,H7 b=some ob->b≠hd->(upd H7 hd (Ec (QX++[(r.1,ha,r.2.2)]))) b=some ob:=λb ob e n=>by rw[Ab n];exact e);have mQ:(upd H7 hd (Ec (QX++[(r.1,ha,r.2.2)]))) hd=some (Ec (QX++[(r.1,ha,r.2.2)])):=Ac;rw[show HO.dT ((QX++[(r.1,ha,r.2.2)]).map λq=>(tk q.1,V.ref q.2.1))=Ec (QX++[(r.1,ha,r.2.2)]) from rfl];generalize upd H7 hd (Ec (QX++[(r.1,ha,r.2.2)]))=H8 at UR c6 mQ;(have gY:NJ K H8 (QX++[(r.1,ha,r.2.2)]):=λq' VG=>by rcases ZI VG with VG|VG;(.exact(bu.keep UR) q' VG);.rw[ZK VG];exact⟨cs,UR.sq g3,BB.keep UR g4⟩);(have gb:MX (QX++[(r.1,ha,r.2.2)]) (rowsOf (FE (L.take i))++q.2.2.2.1.take (j+1)):=by rw[HV,<-AW];exact SF.snoc r ha);have jd:=c6 _ _ mH wu;have jf:=c6 _ _ mK (Ne.symm kX);have tW:=c6 _ _ mU (Ne.symm kf);have sM:=UR.BC _ _ g2;have di:=BB.keep UR ag;refine⟨_,rfl,_,rfl,ws,rfl,.inr ⟨_,.inl jd⟩,_,rfl,_,DJ.t (k:=tk r.1) jd sM,?_⟩;rw[KD];refine⟨rfl,_,rfl,?_⟩;refine Tj (λc=>?_) (λc=>?_);(·(have c:¬r.2.1=Ex (Ci (FE L)) r.1:=λz=>by rw[z] at c;simp at c);refine⟨_,rfl,.inl ⟨rfl,_,EC.of jf⟩,_,rfl,sl,_,_,rfl,rfl,jf,FL (by rw[ZA];lia),?_⟩;(have jP:BU H8 (upd H8 sl (.BI (fe.map V.ref++[V.ref t]))):=OI λo' e=>by rw[jf] at e;cases e;exact⟨λ_ z=>(by cases z),λ_ _ z=>(by cases z)⟩);refine⟨_,_,_,QX++[(r.1,ha,r.2.2)],fe++[t],rfl,by rw[Ab (Ne.symm TY)];exact tW,by rw[Ab jH];exact jd,by rw[Ab kX];exact mQ,gb,gY.keep jP,by rw[ZF];exact Ac,?_,(eD.trans UR).trans jP,λb ob e n=>by rw[Ab (Ak e jJ)];exact c6 _ _ (PB _ _ e n) (Ak e jK)⟩;rw[HV,ID,ZF,<-AW];(have dB:([r].filter λr=>!decide (r.2.1=Ex (Ci (FE L)) r.1))=[r]:=by simp[c]);rw[dB];exact E2 (BB.keep jP di) (jP.BC _ _ sM));·(have c:r.2.1=Ex (Ci (FE L)) r.1:=by simpa using c);refine⟨_,_,_,QX++[(r.1,ha,r.2.2)],fe,rfl,tW,jd,mQ,gb,gY,jf,?_,eD.trans UR,λb ob e n=>c6 _ _ (PB _ _ e n) (Ak e jK)⟩;rw[HV,ID];(have dB:([r].filter λr=>!decide (r.2.1=Ex (Ci (FE L)) r.1))=[]:=by simp[c]);rw[dB,AH];exact di);.rintro σ H7 ⟨w5,w6,w7,QX,fe,rfl,mU,mH,dA,SF,bu,mK,ag,eD,PB⟩;rw[Paired.length t2,BM] at SF ag;refine⟨_,_,_,_,QX,fe,rfl,mU,mH,dA,?_,bu,mK,?_,(aB.trans WW).trans eD,PB⟩;(.rw[i' eq];unfold rowsOf at SF ⊢;simp only[CD,CA,HI,AH];exact SF);.rw[i' eq];unfold Cr at ag ⊢;simp only[CD,CA,HI,AH];rw[AW] at ag;exact ag
 .rintro σ H5 ⟨u4,u5,u6,u7,hl,as,rfl,ef,tN,mS,XA,lX,fQ,WT,aB,U_⟩;rw[ZA,BM] at XA WT;refine⟨upd H5 d (.dK (L.map λq=>((.inl q.1:Key),V.ref q.2.1))),⟨d,o,_,ef,λob v z=>?_,rfl⟩,?_⟩;(.have z:H d=some (.FJ ob v):=z;rw[S.ob] at z;cases z);(have s6:Bi H (upd H5 d (.dK (L.map λq=>((.inl q.1:Key),V.ref q.2.1)))):=λb ob e=>by by_cases hb:b=d;(.rw[hb,Ac];rw[hb,S.ob] at e;exact e);.rw[Ab hb];exact U_ b ob e hb);(have qM:∀{b:Addr} {xs:List V},CL K H5 b xs->CL K (upd H5 d (.dK (L.map λq=>((.inl q.1:Key),V.ref q.2.1)))) b xs:=λ{b xs} z=>by rcases z with(z|⟨ob,z⟩)|z;(.exact .inl (.inl (by rw[Ab (λy=>by rw[y,ef] at z;cases z)];exact z)));(.exact .inl (.inr ⟨ob,by rw[Ab (λy=>by rw[y,ef] at z;cases z)];exact z⟩));.exact .inr z);have RP:∀{as:List Addr} {ts:List T2},BB H5 as ts->BB (upd H5 d (.dK (L.map λq=>((.inl q.1:Key),V.ref q.2.1)))) as ts:=λ{as ts} z=>As (λb t e=>by rw[Ab (λy=>by rw[y,ef] at e;cases e)];exact e) z;(have gZ:NJ K (upd H5 d (.dK (L.map λq=>((.inl q.1:Key),V.ref q.2.1)))) hl:=λq hq=>by obtain⟨cs,e,t⟩:=lX q hq;exact⟨cs,qM e,RP t⟩);have gE:=RP WT;(have fO:(upd H5 d (.dK (L.map λq=>((.inl q.1:Key),V.ref q.2.1)))) sl=some (.BI (as.map V.ref)):=by rw[Ab TY];exact fQ);(have mR:(upd H5 d (.dK (L.map λq=>((.inl q.1:Key),V.ref q.2.1)))) hd=some (Ec hl):=by rw[Ab kf];exact mS);clear qM RP;generalize upd H5 d (.dK (L.map λq=>((.inl q.1:Key),V.ref q.2.1)))=H6 at s6 gZ gE fO mR;obtain⟨n,R,zn,rc⟩:=Jbk fi XA;have ls:=Gf (Ci (FE L)) (FE L);have zr:=fi.rz;have zh:=fi.hz;(have lh:hl.length=(rowsOf (FE L)).length:=by have:=congrArg List.length XA.keys;rw[ZA,ZA] at this;exact this);refine⟨_,rfl,_,rfl,sl,hd,as,_,hl,n,R,rfl,fO,gE,by lia,mR,by lia,gZ,λq hq=>?_,rc,zn,λx H7 hx s7 ex=>?_⟩;(·(have m:q.1∈(rowsOf (FE L)).map (·.1):=by rw[<-XA.keys];exact AI.mpr ⟨q,hq,rfl⟩);(have e8:Ce hl q.1=q.2.2:=by unfold Ce;rw[FX.FN (k:=λq:T2×Addr×List T2=>q.1) (by rw[XA.keys];exact fi.nd) hq];rfl);obtain⟨r,HW,e⟩:=ZN m;rw[<-e,XA.get fi.nd HW] at e8;rw[<-e8];exact BE (fi.oz r HW) (by decide));have dA:=s7 _ _ mR;obtain⟨so,pm,pw⟩:=FX.sorts (λt:T2=>t) (l:=(rowsOf (FE L)).map (·.1)) (by rw[IK];exact fi.nd);(have pw:so.Pairwise IS:=by simpa using pw);(have dr:Rd H7 hd (.dT ((hl.map λq=>(q.1,V.ref q.2.1)).map λq=>(tk q.1,q.2))):=by (have e:((hl.map λq=>(q.1,V.ref q.2.1)).map λq=>(tk q.1,q.2))=hl.map λq=>(tk q.1,V.ref q.2.1):=by rw[AR];rfl);rw[e];exact .inl dA);refine⟨_,rfl,hd,_,so,rfl,dr,by rw[ZA];lia,?_,pw,λr2 QY NB QW=>?_⟩;(.rw[AR];show so.Perm (hl.map (·.1));rw[XA.keys];exact pm);have s8:=Ai (o:=.BI (QY.map V.ref)) NB;have e8:(upd H7 r2 (.BI (QY.map V.ref))) r2=some (.BI (QY.map V.ref)):=Ac;have di:=BB.keep (HN s8) QW;generalize upd H7 r2 (.BI (QY.map V.ref))=H8 at s8 e8 di;have zw:=s8 _ _ ex;refine⟨r2,rfl,⟨_,EC.of e8⟩,λp2 FH=>?_⟩;(have lso:so.length<=60:=by rw[pm.length_eq,ZA];exact zr);refine Hw (b:=λt=>!decide (t∈R)) (caps:=[("kept",8)]) FH (by lia) e8 di (λH9 a t Q' sm ha ht q=>?_) λH9 bs sm ea tb=>?_;(.refine⟨_,rfl,_,rfl,x,_,rfl,Fl (sm _ _ zw) ha,_,rfl,?_⟩;by_cases c:t∈R;(.rw[AE c];rw[show(!decide (t∈R))=false by simp[c]] at q;exact q);.rw[AB c];rw[show(!decide (t∈R))=true by simp[c]] at q;exact q);.refine⟨p2,_,rfl,.inl ⟨EC.of ea,λtt yI=>?_⟩⟩;have s9:=Ai (o:=.BC (bs.map V.ref)) yI;refine k tt bs _ _ (Am s6 (Am s7 (Am s8 (Am sm s9)))) Ac (BB.keep (HN s9) tb) ⟨pw.filter _,λt=>?_⟩;have li:=Jez fi.nd XA rc;rw[AD];constructor;(.rintro⟨h1,h2⟩;have m:=pm.mem_iff.mp h1;exact⟨m,λz=>by rw[(li t m).mpr z |> AJ] at h2;simp at h2⟩);.rintro⟨h1,h2⟩;exact⟨pm.mem_iff.mpr h1,by have:t∉R:=λz=>h2 ((li t h1).mp z);simp[this]⟩
end
end K61F
namespace FX
open PySem PySem.Spec PyProof.Rows L2
theorem Nl:∀{es:List DictEntry} {vs:List (Key×Value)} {ns:List Int},Pairs (Bp P w) es vs->vs.map (·.1)=ns.map Sum.inl->IntsAre (es.map (·.key)) ns
 | _,_,ns,.nil,e=>by cases ns with | nil=>exact .nil | cons n ns=>cases e
 | _,_,ns,.cons (e:=d) (kv:=kv) h _ t,e=>by cases ns with | nil=>cases e | cons n ns =>have e:kv.1::_=Sum.inl n::ns.map Sum.inl:=e;obtain⟨e1,e2⟩:=List.cons.inj e;have ih:=Nl t e2;rcases Cj (k:=kv.1) (v:=d.key) h with⟨i,tk,e3,e4⟩|⟨x,tk,e3,e4⟩;(.rw[e1] at e3;have:n=i:=Sum.inl.inj e3;rw[AK,e4,<-this];exact .cons n tk ih);.rw[e1] at e3;cases e3
theorem Jdh{es:Array DictEntry}{acc:Array Value}(ha:ItemsOf (λi v=>∃e,es[i]?=some e/\v=e.key) acc es.size):acc.toList=es.toList.map (·.key):=by
 refine LV λj=>?_;by_cases hj:j<es.size;·(have h1:j<acc.size:=by rw[ha.1];exact hj);obtain⟨e2,e3,e4⟩:=ha.2 j acc[j] (by simp[h1]);(have e5:es[j]?=some es[j]:=by simp[hj]);rw[e5] at e3;cases e3;(have h2:acc.toList[j]?=some acc[j]:=by simp[h1]);(have h3:es.toList[j]?=some es[j]:=by simp[hj]);rw[h2,ZH,h3,e4];rfl
 .rw[CC (by rw[CF,ha.1];lia),CC (by rw[ZA,CF];lia)]
section
variable {X:Cx}
theorem Ks(hc:X.calm=true):Fm X (.builtin "sorted") (λxs H Q=>∃(d:Addr)(kvs:List (Key×V))(ns:List Int),xs=[.ref d]/\H d=some (.dK kvs)/\kvs.map (·.1)=ns.map Sum.inl/\ns.length<64 /\ ∀(r:Addr)(ms:List Int),H r=none->ms.Perm ns->ms.Pairwise (·<=·)->Q (.ref r) (upd H r (.BI (ms.map V.int)))):=by
 intro AA s σ H xs us Q I rv h;obtain⟨d,kvs,ns,rfl,hd,ek,UA,q⟩:=h;obtain⟨u,rfl,rx⟩:=vals1 rv;cases rx;obtain⟨z,lo,vs,rel,o,es,ep,g1,g2,g3,g4,g5,g6⟩:=(show CZ X.prog X.w H s.heap d (.dK kvs) from I.CT d _ hd);have ev:∀{a:List (Key×V)} {b:List (Key×Value)},KV a b->b.map (·.1)=a.map (·.1):=λ{a b} r=>by induction r with | nil=>rfl | cons h _ ih=>rw[AK,AK,ih,h.1]
 have hI:IntsAre (es.toList.map (·.key)) ns:=Nl g5 (by rw[ev rel,ek]);have hl:es.size=ns.length:=by have:=IntsAre.length hI;rw[ZA,CF] at this;exact this
 refine NU kind_sorted plain_sorted entry_sorted (args_sorted1 _) (by unfold Builtin.«sorted»;refine ZR (m:=checkCount "sorted" 1 1 _) (ZS (ZR (W.kdu_collect (R5 lo (es:=es) (ep:=ep)) (show _ from I.ok.hd hc) ⟨o,g1,g2,g3⟩ (by rw[hl,DL];lia) λh1 tk acc kp ha=>?_)));rw[Jdh ha];have I1:Inv X AA σ H { s with heap:=h1,toks:=tk }:=I.kept kp;refine ZR (wpAny_newList ?_ (by rw[ZA,CF,hl,DL];lia));have e1:(h1.push (seqObj "list" (es.toList.map (·.key)).toArray 0)).get? h1.objs.size=some (seqObj "list" (es.toList.map (·.key)).toArray 0):=ZU _ rfl;refine ZR (EI (CY slot_list_sort ⟨_,e1,rfl⟩ entry_list_sort (list_sort_tree e1 hI (by rw[ZA,CF,hl];exact UA) λout ms a1 a2 a3=>⟨_,rfl,?_⟩) (args_list_sort _)));have hn:H h1.objs.size=none:=I1.CT.fresh (ZG _);obtain⟨c,ec⟩:=sortedHeap_at (out:=out) e1;(have old:∀b ob,h1.get? b=some ob->(sortedHeap (h1.push (seqObj "list" (es.toList.map (·.key)).toArray 0)) h1.objs.size (es.toList.map (·.key)) out).get? b=some ob:=λb ob hb=>by have JL:=AU hb;rw[sortedHeap_old (BK JL) (by rw[size_push'];exact Nat.lt_succ_of_lt JL)];exact ZT _ hb);refine ZS ⟨_,rfl,.ref h1.objs.size,_,I1.laid (a:=h1.objs.size) (o:=.BI (ms.map V.int)) (t':=tk) old (ZG _) ⟨?_,out.toList,c,Ku a1,by simpa using ec⟩,rfl,q _ ms hn a2 a3⟩;rw[ZA,a2.length_eq,DL];lia)
end
end FX
namespace K61F
open PySem L2 FX K61
def iN(os:List Nat):List V:=os.map λk:Nat=>V.int (k:Int)
theorem Jh8(n:Nat):(rg n).map V.int=iN (List.range n):=by unfold rg iN;rw[AR];rfl
theorem Zm{L:List (Int×Addr×HS)}{h:Int}(n:h∉L.map (·.1)):B9 (L.map λq=>((.inl q.1:Key),V.ref q.2.1)) (.inl h)=none:=by
 unfold B9;rw[List.find?_map,BA.mpr];.rfl
 .intro q hq z;(have z:(Sum.inl q.1:Key)=.inl h:=by simpa using z);injection z with z;exact n (AI.mpr ⟨q,hq,z⟩)
theorem q1:¬(("many":Str)="second_ticks"):=ZV
theorem q2:¬(("many":Str)="first_ticks"):=ZV
theorem q3:¬(("many":Str)="states"):=ZV
theorem q4:¬(("states":Str)="second_ticks"):=ZV
theorem q5:¬(("states":Str)="first_ticks"):=ZV
theorem q6:¬(("first_ticks":Str)="second_ticks"):=ZV
def Fk(m:Int)(sd fd cd:Addr):List (Str×V):=Aq "second_ticks" (.ref cd) (Aq "first_ticks" (.ref fd) (Aq "states" (.ref sd) (Aq "many" (.int m) [])))
section
theorem Y6:(Fk m sd fd cd).lookup ("many":Str)=some (.int m):=by unfold Fk;rw[A8,AB q1,A8,AB q2,A8,AB q3,A8,AE rfl]
theorem Qf:(Fk m sd fd cd).lookup ("states":Str)=some (.ref sd):=by unfold Fk;rw[A8,AB q4,A8,AB q5,A8,AE rfl]
theorem Kj:(Fk m sd fd cd).lookup ("first_ticks":Str)=some (.ref fd):=by unfold Fk;rw[A8,AB q6,A8,AE rfl]
theorem Lg:(Fk m sd fd cd).lookup ("second_ticks":Str)=some (.ref cd):=by unfold Fk;rw[A8,AE rfl]
theorem TL{x:Str}(h1:¬x="second_ticks")(h2:¬x="first_ticks")(h3:¬x="states")(h4:¬x="many"):(Fk m sd fd cd).lookup x=none:=by unfold Fk;rw[A8,AB h1,A8,AB h2,A8,AB h3,A8,AB h4];rfl
end
structure Iq where
 m:Int
 sd:Addr
 fd:Addr
 cd:Addr
 ss:List (Key×V)
 fs:List (Key×V)
 cs:List (Key×V)
structure EW(C:Addr)(H:Hp)(p:Addr)(I:Iq):Prop where
 ob:∃dx,H p=some (.ins C dx (Fk I.m I.sd I.fd I.cd))
 s:H I.sd=some (.dK I.ss)
 f:H I.fd=some (.dK I.fs)
 c:H I.cd=some (.dK I.cs)
 sf:I.sd≠I.fd
 sc:I.sd≠I.cd
 fc:I.fd≠I.cd
theorem EW.keep(x:EW C H p I)(k:∀b,(b=p\/b=I.sd\/b=I.fd\/b=I.cd)->∀o,H b=some o->H' b=some o):EW C H' p I :=⟨let⟨dx,e⟩:=x.ob;⟨dx,k p (.inl rfl) _ e⟩,k _ (.inr (.inl rfl)) _ x.s,k _ (.inr (.inr (.inl rfl))) _ x.f,k _ (.inr (.inr (.inr rfl))) _ x.c,x.sf,x.sc,x.fc⟩
theorem EW.same(x:EW C H p I)(s:Bi H H'):EW C H' p I:=x.keep λb _ o e=>s b o e
structure P'(K:W.Frag)(mg:Str->Option Value)(C:Addr):Prop where
 cl:RV K C
 nM:DR K C "many"
 nS:DR K C "states"
 nF:DR K C "first_ticks"
 nT:DR K C "second_ticks"
 a7:mg "Inquiry"=some (.ref C)
section
def LH(C:Addr):Sp:=λvs H Q _=>∃(p dx:Addr)(n:Int),vs=[.ref p,.int n]/\H p=some (.ins C dx [])/\∀(H':Hp)(I:Iq),(∀b u,H b=some u->b≠p->H' b=some u)->EW C H' p I->I.m=n->I.ss=[]->I.fs=[]->I.cs=[]->H I.sd=none->H I.fd=none->H I.cd=none->Q .EE H'
theorem Jjz:Ao ["self","many"] ["self","many"] (Aj Rz):={}
theorem QL(F:EK K "__init__" "Inquiry.__init__" Rz f fd)(T:P' K mg C):CV P w K mg base 1 f fd ["self","many"] (LH C):=by
 refine F.IQ Jjz λvs H Q E h=>?_;obtain⟨p,dx,n,rfl,hp,k⟩:=h;refine⟨rfl,λDP A outer s hr=>?_⟩;refine⟨_,Ad (C7 (pv 0) (pv 1) rfl) (Ad (C7 (pv 0) Er rfl) (Ad (C7 (pv 0) Er rfl) (Ae (C7 (pv 0) Er rfl)))),?_⟩;have l1:=Ay "many" (.int n) [];refine⟨_,rfl,_,rfl,p,C,dx,[],rfl,hp,T.cl,T.nM,(by show 0<1000;decide),λd1 h1=>?_⟩;have ZZ:p≠d1:=Ak Ac h1;have l2:=λv=>Ay "states" v (Aq "many" (.int n) []);refine⟨_,rfl,p,C,dx,_,rfl,(by rw[Ab ZZ];exact Ac),T.cl,T.nS,(by simp only[BN] at l1;lia),λd2 h2=>?_⟩;have cW:p≠d2:=Ak Ac h2;have l3:=λv u=>Ay "first_ticks" u (Aq "states" v (Aq "many" (.int n) []));refine⟨_,rfl,p,C,dx,_,rfl,(by rw[Ab cW];exact Ac),T.cl,T.nF,(by have:=l2 (.ref d1);simp only[BN] at l1;lia),λd3 h3=>?_⟩;have dz:p≠d3:=Ak Ac h3;refine⟨_,rfl,p,C,dx,_,rfl,(by rw[Ab dz];exact Ac),T.cl,T.nT,(by have:=l2 (.ref d1);have:=l3 (.ref d1) (.ref d2);simp only[BN] at l1;lia),?_⟩;have g1:H d1=none:=by rw[Ab (Ne.symm ZZ)] at h1;exact h1
 have XJ:d1≠d2:=λz=>by rw[<-z,Ab (Ne.symm ZZ),Ac] at h2;cases h2
 have g2:H d2=none:=by rw[Ab (Ne.symm cW),Ab (Ne.symm XJ),Ab (Ne.symm cW)] at h2;exact h2
 have ay:d2≠d3:=λz=>by rw[<-z,Ab (Ne.symm cW),Ac] at h3;cases h3
 have az:d1≠d3:=λz=>by rw[<-z,Ab (Ne.symm ZZ),Ab XJ,Ab (Ne.symm ZZ),Ac] at h3;cases h3
 have g3:H d3=none:=by rw[Ab (Ne.symm dz),Ab (Ne.symm ay),Ab (Ne.symm dz),Ab (Ne.symm az),Ab (Ne.symm dz)] at h3;exact h3
 refine k _ ⟨n,d1,d2,d3,[],[],[]⟩ (λb u e hb=>?_) ⟨⟨dx,Ac⟩,?_,?_,?_,XJ,az,ay⟩ rfl rfl rfl rfl g1 g2 g3;.have m1:=Ak e g1;have m2:=Ak e g2;have m3:=Ak e g3;rw[Ab hb,Ab m3,Ab hb,Ab m2,Ab hb,Ab m1,Ab hb];exact e
 .rw[Ab (Ne.symm ZZ),Ab az,Ab (Ne.symm ZZ),Ab XJ,Ab (Ne.symm ZZ)];exact Ac
 .rw[Ab (Ne.symm cW),Ab ay,Ab (Ne.symm cW)];exact Ac
 .rw[Ab (Ne.symm dz)];exact Ac
def TN(C:Addr):Sp:=λvs H Q _=>∃(p:Addr)(I:Iq)(h t:Int)(v:V),vs=[.ref p,.int h,.int t,v]/\EW C H p I/\I.fs.length<=500/\I.ss.length<=500/\∀H',EW C H' p { I with ss:=putK I.ss (.inl h) v,fs:=putK I.fs (.inl h) (.int t) }->(∀b o,H b=some o->b≠I.sd->b≠I.fd->H' b=some o)->Q (.bl (decide (V.int ((putK I.fs (.inl h) (.int t)).length:Int)=V.int I.m))) H'
theorem kM:Ao ["self","h","tick","state"] ["self","h","tick","state"] (Aj Mj):={}
theorem WO(F:EK K "first" "Inquiry.first" Mj f fd)(T:P' K mg C)(hl:mg "len"=none):CV P w K mg base 1 f fd ["self","h","tick","state"] (TN C):=by
 refine F.IQ kM λvs H Q E h=>?_;obtain⟨p,I,h,t,v,rfl,S,zf,zs,k⟩:=h;refine⟨rfl,λDP A outer s hr=>?_⟩;have hu:=B3 hr;obtain⟨dx,hp⟩:=S.ob;refine⟨_,Ad (Bz hu (An (pv 0) rfl) (pv 1) (pv 2) rfl) (Ad (Bz hu (An (pv 0) rfl) (pv 1) (pv 3) rfl) (Ae (Ar (Jz Cy (Bg Ll (by rfl) hl B' (Aa (An (pv 0) rfl) Af)) (An (pv 0) rfl) (A6 _))))),?_⟩;have w_:p≠I.fd:=λz=>by rw[z,S.f] at hp;cases hp
 have w8:p≠I.sd:=λz=>by rw[z,S.s] at hp;cases hp
 refine⟨_,rfl,_,rfl,p,C,dx,_,_,rfl,hp,T.cl,T.nF,Kj,_,rfl,I.fd,_,rfl,FF.k (k:=Sum.inl h) S.f (FL (by lia)),?_⟩;have FY:(upd H I.fd (.dK (putK I.fs (.inl h) (.int t)))) p=some (.ins C dx (Fk I.m I.sd I.fd I.cd)):=by rw[Ab w_];exact hp
 have s1:(upd H I.fd (.dK (putK I.fs (.inl h) (.int t)))) I.sd=some (.dK I.ss):=by rw[Ab S.sf];exact S.s
 have c1:(upd H I.fd (.dK (putK I.fs (.inl h) (.int t)))) I.cd=some (.dK I.cs):=by rw[Ab (Ne.symm S.fc)];exact S.c
 have f1:(upd H I.fd (.dK (putK I.fs (.inl h) (.int t)))) I.fd=some (.dK (putK I.fs (.inl h) (.int t))):=Ac;have k1:∀b o,H b=some o->b≠I.sd->b≠I.fd->(upd H I.fd (.dK (putK I.fs (.inl h) (.int t)))) b=some o:=λb o e _ n=>by rw[Ab n];exact e
 generalize upd H I.fd (.dK (putK I.fs (.inl h) (.int t)))=H1 at FY s1 c1 f1 k1;refine⟨_,rfl,_,rfl,p,C,dx,_,_,rfl,FY,T.cl,T.nS,Qf,_,rfl,I.sd,_,rfl,FF.k (k:=Sum.inl h) s1 (FL (by lia)),?_⟩;have FH:(upd H1 I.sd (.dK (putK I.ss (.inl h) v))) p=some (.ins C dx (Fk I.m I.sd I.fd I.cd)):=by rw[Ab w8];exact FY
 have s2:(upd H1 I.sd (.dK (putK I.ss (.inl h) v))) I.sd=some (.dK (putK I.ss (.inl h) v)):=Ac;have c2:(upd H1 I.sd (.dK (putK I.ss (.inl h) v))) I.cd=some (.dK I.cs):=by rw[Ab (Ne.symm S.sc)];exact c1
 have f2:(upd H1 I.sd (.dK (putK I.ss (.inl h) v))) I.fd=some (.dK (putK I.fs (.inl h) (.int t))):=by rw[Ab (Ne.symm S.sf)];exact f1
 have k2:∀b o,H b=some o->b≠I.sd->b≠I.fd->(upd H1 I.sd (.dK (putK I.ss (.inl h) v))) b=some o:=λb o e n1 n2=>by rw[Ab n1];exact k1 b o e n1 n2
 generalize upd H1 I.sd (.dK (putK I.ss (.inl h) v))=H2 at FH s2 c2 f2 k2;exact⟨_,rfl,p,C,dx,_,_,rfl,FH,T.cl,T.nF,Kj,I.fd,_,rfl,f2,_,rfl,p,C,dx,_,_,rfl,FH,T.cl,T.nM,Y6,rfl,k H2 ⟨⟨dx,FH⟩,s2,f2,c2,S.sf,S.sc,S.fc⟩ k2⟩
def RJ(C:Addr):Sp:=λvs H Q _=>∃(p:Addr)(I:Iq)(h t:Int),vs=[.ref p,.int h,.int t]/\EW C H p I/\I.cs.length<=500/\∀H',EW C H' p { I with cs:=putK I.cs (.inl h) (.int t) }->(∀b o,H b=some o->b≠I.cd->H' b=some o)->Q (.bl (decide (V.int ((putK I.cs (.inl h) (.int t)).length:Int)=V.int I.m))) H'
theorem cQ:Ao ["self","h","tick"] ["self","h","tick"] (Aj Ju):={}
theorem UO(F:EK K "second" "Inquiry.second" Ju f fd)(T:P' K mg C)(hl:mg "len"=none):CV P w K mg base 1 f fd ["self","h","tick"] (RJ C):=by
 refine F.IQ cQ λvs H Q E h=>?_;obtain⟨p,I,h,t,rfl,S,zc,k⟩:=h;refine⟨rfl,λDP A outer s hr=>?_⟩;have hu:=B3 hr;obtain⟨dx,hp⟩:=S.ob;refine⟨_,Ad (Bz hu (An (pv 0) rfl) (pv 1) (pv 2) rfl) (Ae (Ar (Jz Cy (Bg Ll (by rfl) hl B' (Aa (An (pv 0) rfl) Af)) (An (pv 0) rfl) (A6 _)))),?_⟩;have xA:p≠I.cd:=λz=>by rw[z,S.c] at hp;cases hp
 refine⟨_,rfl,_,rfl,p,C,dx,_,_,rfl,hp,T.cl,T.nT,Lg,_,rfl,I.cd,_,rfl,FF.k (k:=Sum.inl h) S.c (FL (by lia)),?_⟩;have FY:(upd H I.cd (.dK (putK I.cs (.inl h) (.int t)))) p=some (.ins C dx (Fk I.m I.sd I.fd I.cd)):=by rw[Ab xA];exact hp
 have s1:(upd H I.cd (.dK (putK I.cs (.inl h) (.int t)))) I.sd=some (.dK I.ss):=by rw[Ab S.sc];exact S.s
 have c1:(upd H I.cd (.dK (putK I.cs (.inl h) (.int t)))) I.cd=some (.dK (putK I.cs (.inl h) (.int t))):=Ac;have f1:(upd H I.cd (.dK (putK I.cs (.inl h) (.int t)))) I.fd=some (.dK I.fs):=by rw[Ab S.fc];exact S.f
 have k1:∀b o,H b=some o->b≠I.cd->(upd H I.cd (.dK (putK I.cs (.inl h) (.int t)))) b=some o:=λb o e n=>by rw[Ab n];exact e
 generalize upd H I.cd (.dK (putK I.cs (.inl h) (.int t)))=H1 at FY s1 c1 f1 k1;exact⟨_,rfl,p,C,dx,_,_,rfl,FY,T.cl,T.nT,Lg,I.cd,_,rfl,c1,_,rfl,p,C,dx,_,_,rfl,FY,T.cl,T.nM,Y6,rfl,k H1 ⟨⟨dx,FY⟩,s1,f1,c1,S.sf,S.sc,S.fc⟩ k1⟩
structure Full(I:Iq)(n:Nat)(f c:Nat->Int)(a:Nat->Addr):Prop where
 ks:∃os:List Nat,os.Perm (List.range n)/\I.fs.map (·.1)=os.map λk:Nat=>(Sum.inl (k:Int):Key)
 fs:∀k<n,B9 I.fs (.inl (k:Int))=some (.int (f k))
 cs:∀k<n,B9 I.cs (.inl (k:Int))=some (.int (c k))
 ss:∀k<n,B9 I.ss (.inl (k:Int))=some (.ref (a k))
def Cz(n:Nat)(f c:Nat->Int):List Nat:=(List.range n).filter λk=>decide (f k=c k)
theorem Zr:∀{ms:List Int} {n:Nat},ms.Perm (rg n)->ms.Pairwise (·<=·)->ms=rg n:=λ{ms n} pm pw=>by (have pr:(rg n).Pairwise (·<=·):=by unfold rg;rw[EG];exact List.Pairwise.imp (λ{a b} (h:a<b)=>by lia) NS);exact pm.eq_of_pairwise (λa b _ _ h1 h2=>by lia) pw pr
def QH(C:Addr):Sp:=λvs H Q _=>∃(p:Addr)(I:Iq)(n:Nat)(f c:Nat->Int)(a:Nat->Addr),vs=[.ref p]/\EW C H p I/\n<=60/\Full I n f c a/\∀(l:Addr)(H':Hp),H l=none->Bi H H'->H' l=some (.BI (iN (Cz n f c)))->Q (.ref l) H'
theorem Jjq:Ao ["self"] ["self"] (Aj Mi):={}
def um(K:W.Frag):TT:=Lr (RR cV (Pj (Q0 K (B6 1) "first_ticks") (B6 0)) (Pj (Q0 K (B6 1) "second_ticks") (B6 0)))
theorem WN(F:EK K "still" "Inquiry.still" Mi f fd)(T:P' K mg C)(yM:mg "sorted"=none):CV P w K mg base 1 f fd ["self"] (QH C):=by
 refine F.IQ Jjq λvs H Q E h=>?_;obtain⟨p,I,n,f,c,a,rfl,S,hz,fu,k⟩:=h;refine⟨rfl,λDP A outer s hr=>?_⟩;have hu:=B3 hr;obtain⟨dx,hp⟩:=S.ob;refine⟨_,Ae (Ar (En (tt:=um K) (te:=B6 0) (caps:=[("self",0)]) rfl (Dl (Bg (Ks rfl) (by rfl) yM DI (Aa (An (pv 0) rfl) Af))) rfl ZV rfl ZV rfl ⟨rfl,trivial⟩ (λy h=>FX.LZ ⟨_,rfl⟩ h) ⟨⟨rfl,rfl,rfl,rfl⟩,trivial⟩ ZV (λ_ _ _ _ _=>D3 (A3 Cy (Cp hu (An (pv 1) rfl) (pv 0)) (Cp hu (An (pv 1) rfl) (pv 0)) (A6 _))) (λ_ _ _ _ _=>pv 0))),?_⟩;obtain⟨os,pm,ek⟩:=fu.ks;have lo:os.length=n:=by rw[pm.length_eq,BV]
 refine⟨_,rfl,p,C,dx,_,_,rfl,hp,T.cl,T.nF,Kj,I.fd,I.fs,os.map (λk:Nat=>(k:Int)),rfl,S.f,by rw[ek,AR];rfl,by rw[ZA];lia,λr ms HW wb pw=>?_⟩;have em:ms=rg n:=Zr (wb.trans (pm.map _)) pw;subst em;rw[Jh8];have s1:=Ai (o:=.BI (iN (List.range n))) HW;have e1:(upd H r (.BI (iN (List.range n)))) r=some (.BI (iN (List.range n))):=Ac;generalize upd H r (.BI (iN (List.range n)))=H1 at s1 e1;refine⟨r,rfl,⟨_,EC.of e1⟩,λl hl=>?_⟩;refine Gb (K:=K) (a:=r) (xs:=iN (List.range n)) (tt:=um K) (te:=B6 0) (caps:=[("self",0)]) (λi ys H'=>H' l=some (.BI ys)/\Bi H1 H'/\ys=iN (Cz i f c)) ⟨Ac,Ai hl,rfl⟩ (λi ys H' _ z=>⟨EC.of (z.2.1 _ _ e1),z.1⟩) ?_ ?_;.rintro i v ys H2 N hi ⟨el,s2,rfl⟩ hN;have SY:=(ZJ hi).1;(have li:(iN (List.range n)).length=n:=by unfold iN;rw[ZA,BV]);rw[li] at SY;(have hi:V.int (i:Int)=v:=by unfold iN at hi;rw[ZH,List.getElem?_range SY] at hi;exact ZO hi);subst hi;have aq:=Am s1 s2;have S2:=S.same aq;obtain⟨HZ,FH⟩:=S2.ob;(have gf:DJ H2 I.fd (.int (i:Int)) (some (.int (f i))):=by have:=DJ.k (k:=.inl (i:Int)) S2.f;rw[fu.fs i SY] at this;exact this);(have gc:DJ H2 I.cd (.int (i:Int)) (some (.int (c i))):=by have:=DJ.k (k:=.inl (i:Int)) S2.c;rw[fu.cs i SY] at this;exact this);(have BI:(Cz i f c).length<=i:=by have:=AS (λk=>decide (f k=c k)) (List.range i);rw[BV] at this;exact this);(have qJ:Cz (i+1) f c=Cz i f c++(if f i=c i then [i] else []):=by unfold Cz;rw[DT,ID];congr 1;by_cases z:f i=c i;(.rw[AE z];simp[z]);.rw[AB z];simp[z]);refine⟨_,rfl,p,C,HZ,_,_,rfl,FH,T.cl,T.nF,Kj,_,rfl,I.fd,_,rfl,gf,_,rfl,p,C,HZ,_,_,rfl,FH,T.cl,T.nT,Lg,_,rfl,I.cd,_,rfl,gc,rfl,_,rfl,?_⟩;refine Tj (λz=>?_) (λz=>?_);(·(have z:f i=c i:=by have:=BL z;injection this);refine⟨_,rfl,el,FL (by unfold iN;rw[ZA];lia),hN _ _ ⟨Ac,λb o e=>by rw[Ab (Ak e hl)];exact s2 b o e,?_⟩⟩;rw[qJ,AE z];unfold iN;rw[ZF];rfl);.have z:¬f i=c i:=λy=>z (by rw[y];simp);refine hN _ _ ⟨el,s2,?_⟩;rw[qJ,AB z,AH]
 .rintro ys H2 ⟨el,s2,rfl⟩;(have li:(iN (List.range n)).length=n:=by unfold iN;rw[ZA,BV]);rw[li] at el;exact k l H2 (Cq s1 hl) (Am s1 s2) el
def JN(n:Nat)(f c:Nat->Int)(a:Nat->Addr)(S:Nat->HS):List (Int×Addr×HS):=(Cz n f c).map λk:Nat=>((k:Int),a k,S k)
def OQ(C:Addr)(K:W.Frag):Sp:=λvs H Q _=>∃(p:Addr)(I:Iq)(n:Nat)(f c:Nat->Int)(a:Nat->Addr)(S:Nat->HS),vs=[.ref p]/\EW C H p I/\n<=60/\Full I n f c a/\(∀k<n,PV K H (a k) (S k))/\RC (FE (JN n f c a S)) /\
 ∀(x:Addr)(as:List Addr)(ts:List T2)(H':Hp),Bi H H'->H' x=some (.BC (as.map V.ref))->BB H' as ts->Found (FE (JN n f c a S)) ts->Q (.ref x) H'
theorem WC:Ao ["self","states","h"] ["self"] (Aj Jv):={}
theorem Jdp{a:Nat->Addr}{S:Nat->HS}{ks:List Nat}{k:Nat}(h:k∉ks):B9 ((ks.map λk:Nat=>((k:Int),a k,S k)).map λq=>((.inl q.1:Key),V.ref q.2.1)) (.inl (k:Int))=none:=by refine Zm λm=>?_;rw[AR] at m;obtain⟨j,hj,e⟩:=ZN m;have e:(j:Int)=(k:Int):=e;exact h (by rw[show k=j by lia];exact hj)
theorem Ja8(n:Nat)(f c:Nat->Int):(Cz n f c).Nodup:=List.nodup_range.filter _
theorem UP{f fS fU:Addr}{fd dS dU:FuncData}(F:EK K "result" "Inquiry.result" Jv f fd)(T:P' K mg C)(MS:CO K C "still" "Inquiry.still" Mi ["self"] fS dS)(GS:CV P w K mg base 1 fS dS ["self"] (QH C))(MU:QU K mg "unreached" Gh ["states"] fU dU)(GU:CV P w K mg base 2 fU dU ["states"] (KG K)):CV P w K mg base 3 f fd ["self"] (OQ C K):=by
 refine F.IQ WC λvs H Q E h=>?_;obtain⟨p,I,n,f,c,a,Sf,rfl,S,hz,fu,st,fi,k⟩:=h;refine⟨rfl,λDP A outer s hr=>?_⟩;have hu:=B3 hr;have GO:CU 1 _:=hr.mono (by decide);have NB:CU 2 _:=hr.mono (by decide);obtain⟨dx,hp⟩:=S.ob;refine⟨_,Ad (Aw (i:=1) WC.nd rfl (Or.inl rfl) Er) (Ad (Dg PassesOwn.never rfl (Dl (C9 (pl:=_) (pv 0) T.cl MS.mt GS GO MS.bd .nil Bb)) (Bl (i:=2) WC.nd rfl (Or.inl rfl)) (Ae (Bz hu (pv 1) (pv 2) (Cp hu (An (pv 0) rfl) (pv 2)) rfl))) (Ae (Ar (Cs GU NB (by rfl) MU.mg MU.fn.kp MU.bd .nil Bb (Aa (pv 1) Af))))),?_⟩;intro d hd;have s1:=Ai (o:=.dK []) hd;have e1:(upd H d (.dK [])) d=some (.dK []):=Ac;generalize upd H d (.dK [])=H1 at s1 e1;have S1:=S.same s1;obtain⟨EJ,FY⟩:=S1.ob;refine⟨_,rfl,p,EJ,_,rfl,FY,TL ZV ZV ZV ZV,p,I,n,f,c,a,rfl,S1,hz,fu,λl H2 hl s2 el=>?_⟩;refine⟨l,rfl,⟨_,EC.of el⟩,?_⟩;have cX:d≠l:=λz=>by rw[z] at e1;rw[e1] at hl;cases hl
 have ls:(iN (Cz n f c)).length=(Cz n f c).length:=by unfold iN;rw[ZA]
 have lz:(Cz n f c).length<=n:=by have:=AS (λk=>decide (f k=c k)) (List.range n);rw[BV] at this;exact this
 refine Hf (K:=K) (a:=l) (xs:=iN (Cz n f c)) (λj σ H'=>∃u2,σ=[some (.ref p),some (.ref d),u2]/\Bi H H'/\H' l=some (.BI (iN (Cz n f c)))/\H' d=some (.dK (((Cz n f c).take j).map (λk:Nat=>((k:Int),a k,Sf k)) |>.map λq=>((.inl q.1:Key),V.ref q.2.1)))) ⟨_,rfl,Am s1 s2,el,s2 _ _ e1⟩ (λj σ H' _ h9=>by obtain⟨_,_,_,z,_⟩:=h9;exact EC.of z) ?_ ?_;.rintro j v σ H3 hj ⟨u2,rfl,s3,aK,aL⟩;have W_:=(ZJ hj).1;rw[ls] at W_;obtain⟨kk,jj⟩:=Au (xs:=Cz n f c) W_;(have hj:V.int (kk:Int)=v:=by unfold iN at hj;rw[ZH,jj] at hj;exact ZO hj);subst hj;have mk:=ZP jj;have hk:kk<n:=BQ.mp (AD.mp mk).1;have S3:=S.same s3;obtain⟨ND,OH⟩:=S3.ob;(have gs:DJ H3 I.sd (.int (kk:Int)) (some (.ref (a kk))):=by have:=DJ.k (k:=.inl (kk:Int)) S3.s;rw[fu.ss kk hk] at this;exact this);(have Z_:kk∉(Cz n f c).take j:=λz=>by obtain⟨i,hi,e⟩:=List.mem_iff_getElem.mp z;rw[B_] at hi;rw[List.getElem_take] at e;have e3:=(ZJ jj).2;have:=(JE (Ja8 n f c)).mp (e.trans e3.symm);lia);refine⟨_,rfl,p,C,ND,_,_,rfl,OH,T.cl,T.nS,Qf,_,rfl,I.sd,_,rfl,gs,_,rfl,_,rfl,d,_,rfl,FF.k (k:=.inl (kk:Int)) aL (FL (by rw[ZA,ZA,B_];lia)),?_⟩;rw[Fz _ (Jdp Z_)];refine⟨_,rfl,λb o e=>by rw[Ab (Ak e hd)];exact s3 _ _ e,by rw[Ab (Ne.symm cX)];exact aK,?_⟩;rw[Ac,DE,jj];simp only[Option.toList_some,ZF,AK,E']
 .rintro σ H3 ⟨u2,rfl,s3,aK,aL⟩;rw[ls,BM] at aL;refine⟨_,rfl,d,JN n f c a Sf,rfl,⟨aL,λq hq=>?_⟩,fi,λx as ts H4 s4 ex th fo=>k x as ts H4 (Am s3 s4) ex th fo⟩;obtain⟨j,hj,rfl⟩:=ZN hq;exact(st j (BQ.mp (AD.mp hj).1)).keep (HN s3)
end
end K61F
namespace K61
open PySem L2 FX
theorem Ip:∀{R U:List T2},R.Nodup->(∀t∈R,t∈U)->R.length<=U.length
 | [],U,_,_=>BF _
 | a::R,U,nd,h=>by have KH:=AV.mp nd;have ha:=h a (ZL ..);have ih:=Ip (R:=R) (U:=U.erase a) KH.2 λt ht=>(List.mem_erase_of_ne (λz=>KH.1 (by rw[<-z];exact ht))).mpr (h t (ZD _ ht));rw[List.length_erase_of_mem ha] at ih;have:=List.length_pos_of_mem ha;simp only[BJ];lia
def nV(p:Addr)(W:FZ)(io:Addr)(I:K61F.Iq):Prop:=∀b,(b=io\/b=I.sd\/b=I.fd\/b=I.cd)->b∉Cb p W
structure dQ(H:Hp)(c b:Int)(ts:List T2)(L:List (Int×Addr))(m:Nat):Prop where
 BP:L.map (·.1)=(List.range m).map λ(i:Nat)=>c+1+(i:Int)
 MQ:Paired (λ(y:Int×Addr)(i:Nat)=>QC H y.2 y.1 b (i:Int) (ts.filter λt=>decide (t.1=(i:Int)))) L (List.range m)
theorem dQ.len(x:dQ H c b ts L m):L.length=m:=by have:=Paired.length x.MQ;rw[BV] at this;exact this
section
def Kx(CW C CP CI:Addr)(K:W.Frag):Sp:=λvs H Q _=>∃(p:Addr)(b n:Int)(W:FZ)(io:Addr)(I:K61F.Iq)(m:Nat)(f c:Nat->Int)(a:Nat->Addr)(S:Nat->HS),vs=[.ref p,.int b,.int n]/\AN CW C CP H p W/\B9 (kvsOf W.JX) (.inl n)=some (.ref io)/\K61F.EW CI H io I/\m<=60/\K61F.Full I m f c a/\(∀k<m,PV K H (a k) (S k))/\K61F.RC (K61F.FE (K61F.JN m f c a S)) /\
 W.qs.length<=12/\W.ls.length<=400/\W.IG.length<=400/\(∀e∈W.IG,e.1≠n) /\
 ∀(x xf:Addr)(as:List Addr)(ts:List T2)(L:List (Int×Addr))(H':Hp),Found (K61F.FE (K61F.JN m f c a S)) ts->AN CW C CP H' p { W with c:=W.c+(W.qs.length:Nat),ls:=W.ls++L,IG:=W.IG++[(n,xf)] }->dQ H' W.c b ts L W.qs.length->H' xf=some (.BC (as.map V.ref))->BB H' as ts->F_ p W H H'->H' x=some (.BI (L.map λy=>V.int y.1))->x≠W.hs->Tz p W H x->Q (.ref x) H'
theorem RD:Ao ["self","beginner","n","found","went","h","there"] ["self","beginner","n"] (Aj Jq):={}
def Jjb(K:W.Frag):TT:=Lr (RR cV (RR (f' K) (B6 0) (tC (.int 0))) (B6 1))
theorem Wu(F:EK K "let_all" "World.let_all" Jq f fd)(T:Txt K mg C Cn DO MI NW)(TW:Ek K mg CW NH NI)(TP:Kt K mg CP NL)(TI:K61F.P' K mg CI)(M1:CO K CI "result" "Inquiry.result" Jv ["self"] f1 d1)(G1:CV P w K mg base 3 f1 d1 ["self"] (K61F.OQ CI K))(M3:CO K CP "put" "Post.put" Js ["self","kind","sender","goal","about"] f3 d3):CV P w K mg base 4 f fd ["self","beginner","n"] (Kx CW C CP CI K):=by
 have G3:CV P w K mg base 1 f3 d3 ["self","kind","sender","goal","about"] (Fn CP):=Hs M3.fn TP;refine F.IQ RD λvs H Q E h=>?_;obtain⟨p,b,n,W,io,I,m,f,c,a,Sf,rfl,S,vi,SI,zm,fu,st,fi,z1,z2,z3,nf,k⟩:=h;refine⟨rfl,λDP A outer s hr=>?_⟩;have hu:=B3 hr;have GO:CU 1 _:=hr.mono (by decide);obtain⟨dx,hp⟩:=S.ob;obtain⟨aN,cv⟩:=SI.ob;refine⟨_,Ad (Aw (i:=3) RD.nd rfl (Or.inl rfl) (C9 (pl:=_) (Cp hu (An (pv 0) rfl) (pv 2)) TI.cl M1.mt G1 hr M1.bd .nil Bb)) (Ad (Bz hu (An (pv 0) rfl) (pv 2) (pv 3) rfl) (Ad (Aw (i:=4) RD.nd rfl (Or.inl rfl) (Fa Af)) (Ad (Dg PassesOwn.never rfl (F2 rfl T.range (Aa (Bg Bq (by rfl) T.len B' (Aa (An (pv 0) rfl) Af)) Af)) (Bl (i:=5) RD.nd rfl (Or.inr rfl)) (Ad (Aw (i:=6) RD.nd rfl (Or.inl rfl) (Dm Dx (by rfl) T.tuple EH (Aa (En (tt:=Jjb K) (te:=B6 0) (caps:=[("h",5)]) rfl (Gk (pv 3)) rfl ZV rfl ZV rfl ⟨rfl,trivial⟩ (λy h=>FX.LZ ⟨_,rfl⟩ h) ⟨⟨rfl,rfl,rfl,rfl⟩,trivial⟩ ZV (λ_ _ _ _ _=>D3 (A3 Cy (Az Av (pv 0) Ah) (pv 1) (A6 _))) (λ_ _ _ _ _=>pv 0)) Af))) (Ae (A5 (Lu CJ HR HQ F6 (pv 4) (Aa (Ap (pl:=_) (An (pv 0) rfl) TP.cl M3.mt G3 GO M3.bd .nil Bb (Aa Bk (Aa (pv 1) (Aa (pv 5) (Aa (pv 6) Af))))) Af)))))) (Ae (Ar (pv 4)))))),?_⟩;have gi:DJ H W.iq (.int n) (some (.ref io)):=by have:=DJ.k (k:=.inl n) S.iq;rw[vi] at this;exact this
 refine⟨_,rfl,p,CW,dx,_,_,rfl,hp,TW.cl,TW.nI,Mu W,_,rfl,W.iq,_,rfl,gi,io,aN,_,rfl,cv,K61F.TL ZV ZV ZV ZV,io,I,m,f,c,a,Sf,rfl,SI,zm,fu,st,fi,λxf as ts H1 s1 U' th fo=>?_⟩;have W1:=S.same s1;obtain⟨EJ,FY⟩:=W1.ob;refine⟨_,rfl,_,rfl,p,CW,EJ,_,_,rfl,FY,TW.cl,TW.nF,Jax W,_,rfl,W.fi,_,rfl,FF.k (k:=Sum.inl n) W1.fi (by rw[Kd];exact A7 (by lia)),?_⟩;rw[Tb nf];obtain⟨W2,MN⟩:=Jl2 W1 (l:=W.IG++[(n,xf)]);have ck:=F_.DS W1 MN;have UZ:F_ p W H (upd H1 W.fi (.dK (kvsOf (W.IG++[(n,xf)])))):=λb o eb hb=>MN b o (s1 _ _ eb) hb;have bx:=ck.BC _ _ U';have QW:=BB.keep ck th;generalize upd H1 W.fi (.dK (kvsOf (W.IG++[(n,xf)])))=H2 at W2 ck UZ bx QW;refine⟨by decide,λr HW=>?_⟩;have s3:=Ai (o:=.BI []) HW;have e3:(upd H2 r (.BI [])) r=some (.BI []):=Ac;have W3:=W2.same s3;generalize upd H2 r (.BI [])=H3 at s3 e3 W3;have gL:∀W':FZ,Cb p W'=Cb p W->r∉Cb p W':=λW' e m=>by rw[e] at m;exact W2.ME HW m
 obtain⟨ND,OH⟩:=W3.ob;have e0:((W.qs.map λq=>V.ref q.1).length:Int)=W.qs.length:=by simp
 refine⟨_,rfl,p,CW,ND,_,_,rfl,OH,TW.cl,TW.nH,Dc _,W.hs,_,rfl,.inl (EC.of W3.hs),(W.qs.length:Int),(by rw[<-e0]),by lia,by lia,?_⟩;rw[DF];have aA:as.length=ts.length:=Paired.length QW;have JGf:ts.length<=60:=by have nd:ts.Nodup:=List.Pairwise.imp (λ{a b} (h:IS a b) (z:a=b)=>by rw[E3,z] at h;lia) fo.pw;have:=Ip nd λt ht=>((fo.mem t).mp ht).1;rw[ZA] at this;exact BE this fi.rz
 refine Lf (lo:=0) (n:=W.qs.length) (λi σ H'=>∃(u5 u6:Option V)(L:List (Int×Addr)),σ=[some (.ref p),some (.int b),some (.int n),some (.ref xf),some (.ref r),u5,u6]/\H' r=some (.BI (L.map λy=>V.int y.1))/\AN CW C CP H' p { W with c:=W.c+(i:Nat),ls:=W.ls++L,IG:=W.IG++[(n,xf)] }/\dQ H' W.c b ts L i/\BU H3 H'/\F_ p W H H') ⟨_,_,[],rfl,e3,by (have e:({ W with c:=W.c+((0:Nat):Int),ls:=W.ls++[],IG:=W.IG++[(n,xf)] }:FZ)={ W with IG:=W.IG++[(n,xf)] }:=by simp);rw[e];exact W3,⟨rfl,.nil⟩,BU.refl _,λb o eb hb=>s3 _ _ (UZ b o eb hb)⟩ ?_ ?_;.rintro i σ H4 hi ⟨u5,u6,L,rfl,er,W4,l4,k4,OW⟩;rw[show(0:Int)+(i:Int)=(i:Int) by lia];have hV:=k4.BC _ _ (s3 _ _ bx);have vz:=BB.keep k4 (BB.keep (HN s3) QW);refine⟨_,rfl,xf,rfl,⟨_,CL.of hV⟩,λq hq=>?_⟩;refine Vs (K:=K) (b:=λt=>decide (t.1=(i:Int))) (caps:=[("h",5)]) hq (by lia) (CL.of hV) vz (λH5 a5 t5 Q' sm ha ht qq=>?_) λH5 bs sm ep tb=>?_;(.refine⟨_,rfl,a5,_,0,V.int t5.1,rfl,rfl,CL.of ha,rfl,_,rfl,rfl,_,rfl,?_⟩;rw[show decide (V.int t5.1=V.int (i:Int))=decide (t5.1=(i:Int)) by by_cases z:t5.1=(i:Int);(.rw[z];simp);.rw[AG z,AG λy=>z (by injection y)]];exact qq);refine⟨q,_,rfl,.inl ⟨EC.of ep,λx6 yD=>?_⟩⟩;have s6:=Ai (o:=.BC (bs.map V.ref)) yD;have e6:(upd H5 x6 (.BC (bs.map V.ref))) x6=some (.BC (bs.map V.ref)):=Ac;have qF:=BB.keep (HN s6) tb;have dq:=Am sm s6;generalize upd H5 x6 (.BC (bs.map V.ref))=H6 at s6 e6 qF dq;have W6:=W4.same dq;obtain⟨RM,UW⟩:=W6.ob;obtain⟨mZ,yR⟩:=W6.po.ob;have tP:=dq _ _ er;refine⟨_,rfl,.inl ⟨rfl,_,EC.of tP⟩,_,rfl,p,CW,RM,_,_,rfl,UW,TW.cl,TW.nP,Dz _,W.po,mZ,_,rfl,yR,C8 _ _ ZV ZV,_,rfl,_,rfl,_,rfl,?_⟩;refine⟨W.po,W.pd,_,_,_,_,_,_,rfl,W6.po,(by rw[ZE,l4.len];lia),λt7 H7 yK mI S7 PB=>?_⟩;obtain⟨W7,cL⟩:=W6.IE S7 PB;have TZ:=F_.DS W6 cL;have tO:H7 r=some (.BI (L.map λy=>V.int y.1)):=cL _ _ tP (gL _ rfl);refine⟨r,_,_,rfl,rfl,tO,A7 (by rw[ZA,l4.len];lia),?_⟩;(have kq:BU H7 (upd H7 r (.BI (L.map (λy=>V.int y.1)++[V.int (W.c+(i:Nat)+1)]))):=OI λo' e=>by rw[tO] at e;cases e;exact⟨λ_ z=>(by cases z),λ_ _ z=>(by cases z)⟩);have kk:=((HN dq).trans TZ).trans kq;refine⟨_,_,L++[(W.c+(i:Nat)+1,t7)],rfl,by rw[ZF];exact Ac,?_,⟨?_,?_⟩,k4.trans kk,?_⟩;(·(have e1:W.c+((i+1:Nat):Int)=W.c+(i:Nat)+1:=by lia);rw[e1,<-AW];exact W7.keep λb o hb e=>by rw[Ab (λz=>gL _ rfl (by rw[<-z];exact hb))];exact e);(.rw[ZF,l4.BP,DT,ZF];congr 1;show [W.c+(i:Nat)+1]=[W.c+1+(i:Int)];congr 1;lia);(.rw[DT];exact Es ⟨x6,bs,kq.BC _ _ mI,kq.BC _ _ (TZ.BC _ _ e6),BB.keep kq (BB.keep TZ qF)⟩ (As (λ_ _ rr=>rr.keep kk) l4.MQ));.intro b' o' e' HM;have fA:b'≠r:=Ak (UZ b' o' e' HM) HW;rw[Ab fA];exact cL b' o' (dq _ _ (OW b' o' e' HM)) HM
 .rintro σ H4 ⟨u5,u6,L,rfl,er,W4,l4,k4,OW⟩;exact⟨_,rfl,k r xf as ts L H4 fo W4 l4 (k4.BC _ _ (s3 _ _ bx)) (BB.keep k4 (BB.keep (HN s3) QW)) OW er (λz=>by have:=W2.hs;rw[show({ W with IG:=W.IG++[(n,xf)] }:FZ).hs=W.hs from rfl,<-z,HW] at this;cases this) λb o eb hb=>Ak (UZ b o eb hb) HW⟩
end
def QZ(p:Addr)(W:FZ)(I:K61F.Iq)(H H':Hp):Prop:=∀b o,H b=some o->b∉Cb p W->b≠I.sd->b≠I.fd->b≠I.cd->H' b=some o
section
theorem QZ.DS(x:AN CW C CP H p W)(y:K61F.EW CI H io I)(f:QZ p W I H H'):BU H H':=by
 have ne:∀{b:Addr} {o:HO} {d:Addr} {kvs:List (Key×V)},H b=some o->(∀kvs,o≠.dK kvs)->H d=some (.dK kvs)->b≠d:=λ{b o d kvs} e n ed z=>by rw[z,ed] at e;injection e with e;exact n _ e.symm
 exact⟨λa xs e=>f a _ e (x.WL e) (ne e (λ_ z=>by cases z) y.s) (ne e (λ_ z=>by cases z) y.f) (ne e (λ_ z=>by cases z) y.c),λa ob u e=>f a _ e (λm=>by obtain⟨o,e',_,h⟩:=x.some_at m;rw[e] at e';cases e';exact h _ _ rfl) (ne e (λ_ z=>by cases z) y.s) (ne e (λ_ z=>by cases z) y.f) (ne e (λ_ z=>by cases z) y.c)⟩
theorem AN.off(x:AN CW C CP H p W)(f:∀b o,H b=some o->b∈Cb p W->H' b=some o):AN CW C CP H' p W:=x.keep λb o m e=>f b o e m
theorem Y8(nd:((e1++(k,e)::e2).map (·.1)).Nodup):B9 (kvsOf (e1++(k,e)::e2)) (.inl k)=some (.ref e)/\Da (kvsOf (e1++(k,e)::e2)) (.inl k)=kvsOf (e1++e2):=⟨by rw[Kc,Vr nd];rfl,Vx nd⟩
end
section
def M0(CW C CP CI:Addr)(K:W.Frag):Sp:=λvs H Q _=>∃(p t:Addr)(W:FZ)(k s g n u:Int)(e1 e2:List (Int×Addr))(e xs:Addr)(tick:Int)(io:Addr)(I:K61F.Iq),vs=[.ref p,.ref t]/\AN CW C CP H p W/\MY H t k "answer" s g n u/\W.ED=e1++(k,e)::e2/\(W.ED.map (·.1)).Nodup/\H e=some (.BC [.int tick,.ref xs])/\B9 (kvsOf W.JX) (.inl n)=some (.ref io)/\K61F.EW CI H io I/\nV p W io I/\I.fs.length<=500/\I.ss.length<=500/\I.cs.length<=500/\W.qs.length<=12/\W.ls.length<=400 /\
 ((u=1/\(((putK I.fs (.inl s) (.int tick)).length:Int)≠I.m->∀(x:Addr)(H':Hp),AN CW C CP H' p { W with ED:=e1++e2 }->K61F.EW CI H' io { I with ss:=putK I.ss (.inl s) (.ref xs),fs:=putK I.fs (.inl s) (.int tick) }->QZ p W I H H'->H' x=some (.BI [])->Q (.ref x) H') /\
  (((putK I.fs (.inl s) (.int tick)).length:Int)=I.m->∀(x:Addr)(L:List (Int×Addr))(H':Hp),AN CW C CP H' p { W with ED:=e1++e2,c:=W.c+(W.qs.length:Nat),ls:=W.ls++L }->KU H' W.c g n 2 L W.qs.length->K61F.EW CI H' io { I with ss:=putK I.ss (.inl s) (.ref xs),fs:=putK I.fs (.inl s) (.int tick) }->QZ p W I H H'->H' x=some (.BI (L.map λy=>V.int y.1))->Q (.ref x) H')) \/
  (u≠1/\(((putK I.cs (.inl s) (.int tick)).length:Int)≠I.m->∀(x:Addr)(H':Hp),AN CW C CP H' p { W with ED:=e1++e2 }->K61F.EW CI H' io { I with cs:=putK I.cs (.inl s) (.int tick) }->QZ p W I H H'->H' x=some (.BI [])->Q (.ref x) H') /\
   (((putK I.cs (.inl s) (.int tick)).length:Int)=I.m->∃(m:Nat)(f c:Nat->Int)(a:Nat->Addr)(S:Nat->HS),m<=60/\K61F.Full { I with cs:=putK I.cs (.inl s) (.int tick) } m f c a/\(∀k<m,PV K H (a k) (S k))/\K61F.RC (K61F.FE (K61F.JN m f c a S))/\W.IG.length<=400/\(∀e∈W.IG,e.1≠n) /\
     ∀(x xf:Addr)(as:List Addr)(ts:List T2)(L:List (Int×Addr))(H':Hp),Found (K61F.FE (K61F.JN m f c a S)) ts->AN CW C CP H' p { W with ED:=e1++e2,c:=W.c+(W.qs.length:Nat),ls:=W.ls++L,IG:=W.IG++[(n,xf)] }->dQ H' W.c g ts L W.qs.length->H' xf=some (.BC (as.map V.ref))->BB H' as ts->K61F.EW CI H' io { I with cs:=putK I.cs (.inl s) (.int tick) }->QZ p W I H H'->H' x=some (.BI (L.map λy=>V.int y.1))->Q (.ref x) H')))
theorem OO:Ao ["self","letter","sender","beginner","n","enclosed","last"] ["self","letter"] (Aj Ez):={}
theorem Jeg(F:EK K "answer_came" "World.answer_came" Ez f fd)(T:Txt K mg C Cn DO MI NW)(TW:Ek K mg CW NH NI)(TI:K61F.P' K mg CI)(M1:CO K CI "first" "Inquiry.first" Mj ["self","h","tick","state"] f1 d1)(M2:CO K CI "second" "Inquiry.second" Ju ["self","h","tick"] f2 d2)(M3:CO K CW "ask_all" "World.ask_all" G0 ["self","beginner","n","turn"] f3 d3)(G3:CV P w K mg base 2 f3 d3 ["self","beginner","n","turn"] (Fw CW C CP K))(M4:CO K CW "let_all" "World.let_all" Jq ["self","beginner","n"] f4 d4)(G4:CV P w K mg base 4 f4 d4 ["self","beginner","n"] (Kx CW C CP CI K)) : CV P w K mg base 5 f fd ["self","letter"] (M0 CW C CP CI K):=by
 have G1:CV P w K mg base 1 f1 d1 ["self","h","tick","state"] (K61F.TN CI):=K61F.WO M1.fn TI T.len;have G2:CV P w K mg base 1 f2 d2 ["self","h","tick"] (K61F.RJ CI):=K61F.UO M2.fn TI T.len;refine F.ok OO (λvs H Q E h=>?_) (λDP A outer s H vs Q E hr h=>?_);.obtain⟨p,t,W,k,s,g,n,u,e1,e2,e,xs,tick,io,I,rfl,_⟩:=h;rfl
 .obtain⟨p,t,W,k,s,g,n,u,e1,e2,e,xs,tick,io,I,rfl,S,⟨a,et,ea⟩,ee,xN,he,vi,SI,off,zf,zs,zc,z1,z2,kk⟩:=h;have hu:=B3 hr;have GO:CU 1 _:=hr.mono (by decide);have NB:CU 2 _:=hr.mono (by decide);obtain⟨dx,hp⟩:=S.ob;refine⟨_,Ad (Aw (i:=2) OO.nd rfl (Or.inl rfl) (Az Av (pv 1) Ah)) (Ad (Aw (i:=3) OO.nd rfl (Or.inl rfl) (Az Av (pv 1) Ah)) (Ad (Aw (i:=4) OO.nd rfl (Or.inl rfl) (Az Av (Az Av (pv 1) Ah) Ah)) (Ad (Aw (i:=5) OO.nd rfl (Or.inl rfl) (Uw (An (pv 0) rfl) (Az Av (pv 1) Ah) ⟨rfl,rfl,rfl,rfl⟩)) (Ad (Bf (A3 Cy (Az Av (Az Av (pv 1) Ah) Ah) Ah (A6 _)) (Ad (Aw (i:=6) OO.nd rfl (Or.inl rfl) (Ap (pl:=_) (Cp hu (An (pv 0) rfl) (pv 4)) TI.cl M1.mt G1 GO M1.bd .nil Bb (Aa (pv 2) (Aa (Az Av (pv 5) Ah) (Aa (Az Av (pv 5) Ah) Af))))) (Ae (Ar (Uv (Eu (pv 6)) (Ap (pl:=_) (pv 0) TW.cl M3.mt G3 NB M3.bd .nil Bb (Aa (pv 3) (Aa (pv 4) (Aa Ah Af)))) (Fa Af))))) A4) (Ad (Aw (i:=6) OO.nd rfl (Or.inl rfl) (Ap (pl:=_) (Cp hu (An (pv 0) rfl) (pv 4)) TI.cl M2.mt G2 GO M2.bd .nil Bb (Aa (pv 2) (Aa (Az Av (pv 5) Ah) Af)))) (Ae (Ar (Uv (Eu (pv 6)) (Ap (pl:=_) (pv 0) TW.cl M4.mt G4 hr M4.bd .nil Bb (Aa (pv 3) (Aa (pv 4) Af))) (Fa Af))))))))),?_⟩;have gN:=xN;rw[ee] at gN;obtain⟨ev,ed⟩:=Y8 gN;refine⟨_,rfl,t,_,2,V.int s,rfl,rfl,CL.of et,rfl,?_⟩;refine⟨_,rfl,t,_,3,V.int g,rfl,rfl,CL.of et,rfl,?_⟩;refine⟨_,rfl,t,_,4,V.ref a,rfl,rfl,CL.of et,rfl,a,_,0,V.int n,rfl,rfl,CL.of ea,rfl,?_⟩;have mL:=S.en;rw[ee] at mL;refine⟨_,rfl,p,CW,dx,_,_,rfl,hp,TW.cl,TW.nE,vR W,W.en,rfl,.inl ⟨_,.inl mL⟩,_,rfl,t,_,0,V.int k,rfl,rfl,CL.of et,rfl,_,Sum.inl k,_,mL,rfl,ev,?_⟩;rw[ed];obtain⟨W1,FU⟩:=uX S (l:=e1++e2);have MO:=F_.DS S FU;have jk:K61F.EW CI (upd H W.en (.dK (kvsOf (e1++e2)))) io I:=SI.keep λb hb o eb=>FU b o eb (off b hb);generalize upd H W.en (.dK (kvsOf (e1++e2)))=H1 at W1 FU MO jk;have mJ:=MO.BC _ _ et;have ea1:=MO.BC _ _ ea;have lq:=MO.BC _ _ he;obtain⟨EJ,FY⟩:=W1.ob;obtain⟨aN,cv⟩:=jk.ob;(have gi:DJ H1 W.iq (.int n) (some (.ref io)):=by have:=DJ.k (k:=.inl n) W1.iq;rw[show({ W with ED:=e1++e2 }:FZ).JX=W.JX from rfl,vi] at this;exact this);refine⟨_,rfl,t,_,4,V.ref a,rfl,rfl,CL.of mJ,rfl,a,_,1,V.int u,rfl,rfl,CL.of ea1,rfl,rfl,_,rfl,?_⟩;have oR:=off I.sd (.inr (.inl rfl));have oS:=off I.fd (.inr (.inr (.inl rfl)));have oU:=off I.cd (.inr (.inr (.inr rfl)));rcases kk with⟨u1,k1,k2⟩|⟨u1,k1,k2⟩;(.subst u1;refine Ck ?_;refine⟨_,rfl,p,CW,EJ,_,_,rfl,FY,TW.cl,TW.nI,Mu _,_,rfl,W.iq,_,rfl,gi,io,aN,_,rfl,cv,K61F.TL ZV ZV ZV ZV,_,rfl,_,rfl,e,_,0,V.int tick,rfl,rfl,CL.of lq,rfl,_,rfl,e,_,1,V.ref xs,rfl,rfl,CL.of lq,rfl,?_⟩;refine⟨io,I,s,tick,.ref xs,rfl,jk,zf,zs,λH2 dN JV=>?_⟩;have W2:AN CW C CP H2 p { W with ED:=e1++e2 }:=AN.off W1 λb o eb hb=>JV b o eb (λz=>oR (by rw[<-z];exact hb)) (λz=>oS (by rw[<-z];exact hb));have c9:QZ p W I H H2:=λb o eb hb n1 n2 n3=>JV b o (FU b o eb hb) n1 n2;obtain⟨HZ,FH⟩:=W2.ob;refine⟨_,rfl,_,rfl,?_⟩;by_cases c:((putK I.fs (.inl s) (.int tick)).length:Int)=I.m;(.rw[AJ (by rw[c])];refine Ck ?_;refine⟨_,rfl,p,HZ,_,rfl,FH,C4 _ ZV,_,rfl,_,rfl,p,g,n,2,_,rfl,W2,z1,z2,λx L H3 W3 l3 SV ex _ _=>?_⟩;refine k2 c x L H3 W3 l3 (dN.keep λb hb o eb=>SV b o eb (off b hb)) (λb o eb hb n1 n2 n3=>SV b o (c9 b o eb hb n1 n2 n3) hb) ex);.rw[AG (λz=>c (by injection z))];refine Cd ⟨by decide,λx hx=>?_⟩;have s3:=Ai (o:=.BI []) hx;exact k1 c x _ (W2.same s3) (dN.same s3) (λb o eb hb n1 n2 n3=>s3 _ _ (c9 b o eb hb n1 n2 n3)) Ac);.rw[AG (λz=>u1 (by injection z))];refine Cd ?_;refine⟨_,rfl,p,CW,EJ,_,_,rfl,FY,TW.cl,TW.nI,Mu _,_,rfl,W.iq,_,rfl,gi,io,aN,_,rfl,cv,K61F.TL ZV ZV ZV ZV,_,rfl,_,rfl,e,_,0,V.int tick,rfl,rfl,CL.of lq,rfl,?_⟩;refine⟨io,I,s,tick,rfl,jk,zc,λH2 dN JV=>?_⟩;have W2:AN CW C CP H2 p { W with ED:=e1++e2 }:=AN.off W1 λb o eb hb=>JV b o eb (λz=>oU (by rw[<-z];exact hb));have c9:QZ p W I H H2:=λb o eb hb n1 n2 n3=>JV b o (FU b o eb hb) n3;obtain⟨HZ,FH⟩:=W2.ob;refine⟨_,rfl,_,rfl,?_⟩;by_cases c:((putK I.cs (.inl s) (.int tick)).length:Int)=I.m;(.rw[AJ (by rw[c])];refine Ck ?_;obtain⟨m,f,cf,af,Sf,zm,fu,st,fi,z3,nf,k3⟩:=k2 c;have kt:=QZ.DS S SI c9;refine⟨_,rfl,p,HZ,_,rfl,FH,C4 _ ZV,_,rfl,_,rfl,p,g,n,_,io,_,m,f,cf,af,Sf,rfl,W2,vi,dN,zm,fu,λj hj=>(st j hj).keep kt,fi,z1,z2,z3,nf,λx xf as ts L H3 fo W3 l3 U' th SV ex _ _=>?_⟩;exact k3 x xf as ts L H3 fo W3 l3 U' th (dN.keep λb hb o eb=>SV b o eb (off b hb)) (λb o eb hb n1 n2 n3=>SV b o (c9 b o eb hb n1 n2 n3) hb) ex);.rw[AG (λz=>c (by injection z))];refine Cd ⟨by decide,λx hx=>?_⟩;have s3:=Ai (o:=.BI []) hx;exact k1 c x _ (W2.same s3) (dN.same s3) (λb o eb hb n1 n2 n3=>s3 _ _ (c9 b o eb hb n1 n2 n3)) Ac
def Q9(CW C CP CI:Addr):Sp:=λvs H Q E=>∃(p:Addr)(h:Int)(W:FZ)(q:Addr)(G:BS),vs=[.ref p,.int h]/\AN CW C CP H p W/\IH W h q G/\W.qs.length<=12/\W.ls.length<=400/\W.JX.length<=400/\(∀l∈W.JX,l.1≠(W.JX.length:Int)+1) /\
 ∀(io:Addr)(I:K61F.Iq)(L:List (Int×Addr))(H':Hp),AN CW C CP H' p { W with JX:=W.JX++[((W.JX.length:Int)+1,io)],c:=W.c+(W.qs.length:Nat),ls:=W.ls++L }->KU H' W.c h ((W.JX.length:Int)+1) 1 L W.qs.length->K61F.EW CI H' io I->nV p W io I->(∀b,(b=io\/b=I.sd\/b=I.fd\/b=I.cd)->H b=none)->I.m=(W.qs.length:Int)->I.ss=[]->I.fs=[]->I.cs=[]->F_ p W H H'->Q (.int ((W.JX.length:Int)+1)) H'
theorem WM:Ao ["self","h","n"] ["self","h"] (Aj X4):={}
theorem Jef(F:EK K "ask" "World.ask" X4 f fd)(T:Txt K mg C Cn DO MI NW)(TW:Ek K mg CW NH NI)(TI:K61F.P' K mg CI)(MH:CO K CW "house" "World.house" D0 ["self","h"] fH dH)(m_:Mk K CI fI)(FI:EK K "__init__" "Inquiry.__init__" Rz fI dI)(bI:Binds K dI ["self","many"] [])(M1:CO K CW "ask_all" "World.ask_all" G0 ["self","beginner","n","turn"] f1 d1)(G1:CV P w K mg base 2 f1 d1 ["self","beginner","n","turn"] (Fw CW C CP K)):EU P w K mg base 3 f fd ["self","h"] (Q9 CW C CP CI):=by
 have GH:EU P w K mg base 1 fH dH ["self","h"] (Dt CW C CP NH):=Do MH.fn T TW;have GI:EU P w K mg base 1 fI dI ["self","many"] (K61F.LH CI):=FX.DZ.RO (K61F.QL FI TI);have G1':EU P w K mg base 2 f1 d1 ["self","beginner","n","turn"] (Fw CW C CP K):=FX.DZ.RO G1;refine F5 F WM λvs H Q E h=>?_;obtain⟨p,h,W,q,G,rfl,S,i,z1,z2,z3,h1,k⟩:=h;refine⟨rfl,λDP A outer s hr=>?_⟩;have hu:=B3 hr;have GO:CU 1 _:=hr.mono (by decide);obtain⟨dx,hp⟩:=S.ob;refine⟨_,Ad (A5 (Ap (pl:=_) (pv 0) TW.cl MH.mt GH GO MH.bd .nil Bm (Aa (pv 1) Af))) (Ad (Aw (i:=2) WM.nd rfl (Or.inl rfl) (Be Fc (Bg Ll (by rfl) T.len B' (Aa (An (pv 0) rfl) Af)) Ah)) (Ad (Bz hu (An (pv 0) rfl) (pv 2) (R6 m_ GI hr (by rfl) TI.a7 bI .nil Bm (Aa (Bg Bq (by rfl) T.len B' (Aa (An (pv 0) rfl) Af)) Af)) rfl) (Ad (A5 (Ap (pl:=_) (pv 0) TW.cl M1.mt G1' hr M1.bd .nil Bm (Aa (pv 1) (Aa (pv 2) (Aa Ah Af))))) (Ae (Ar (pv 2)))))),?_⟩;refine⟨_,rfl,p,dx,_,rfl,hp,C4 W ZV,_,rfl,p,h,W,rfl,S,.inr ⟨q,G,i,?_⟩⟩;refine⟨_,rfl,p,CW,dx,_,_,rfl,hp,TW.cl,TW.nI,Mu W,W.iq,_,rfl,S.iq,_,_,rfl,rfl,?_⟩;rw[Kd];refine⟨_,rfl,p,CW,dx,_,_,rfl,hp,TW.cl,TW.nH,Dc W,W.hs,_,rfl,.inl (EC.of S.hs),λio aN kW Z' kY=>?_⟩;refine⟨io,aN,_,rfl,Ac,λH1 I jQ A1 im is ko ic n1 n2 n3=>⟨rfl,?_⟩⟩;have s0:Bi H (upd (upd H aN (.own io)) io (.ins CI aN [])):=λb o e=>by rw[Ab (Ak e kW),Ab (Ak e Z')];exact e
 have s1:Bi H H1:=λb o e=>jQ b o (s0 b o e) (Ak e kW);have EE:∀b,(b=io\/b=I.sd\/b=I.fd\/b=I.cd)->H b=none:=λb hb=>by rcases hb with rfl|rfl|rfl|rfl;(.exact kW);(.exact Cq s0 n1);(.exact Cq s0 n2);.exact Cq s0 n3
 have off:nV p W io I:=λb hb=>S.ME (EE b hb);have S1:=S.same s1;obtain⟨EJ,FY⟩:=S1.ob;refine⟨_,rfl,p,CW,EJ,_,_,rfl,FY,TW.cl,TW.nI,Mu W,_,rfl,W.iq,_,rfl,FF.k (k:=Sum.inl ((W.JX.length:Int)+1)) S1.iq (by rw[Kd];exact A7 (by lia)),?_⟩;rw[Tb h1];obtain⟨W2,MN⟩:=S1.o4 (l:=W.JX++[((W.JX.length:Int)+1,io)]);have A2:K61F.EW CI (upd H1 W.iq (.dK (kvsOf (W.JX++[((W.JX.length:Int)+1,io)])))) io I:=A1.keep λb hb o eb=>MN b o eb (off b hb);have UZ:F_ p W H (upd H1 W.iq (.dK (kvsOf (W.JX++[((W.JX.length:Int)+1,io)])))):=λb o eb hb=>MN b o (s1 _ _ eb) hb;generalize upd H1 W.iq (.dK (kvsOf (W.JX++[((W.JX.length:Int)+1,io)])))=H2 at W2 MN A2 UZ;obtain⟨HZ,FH⟩:=W2.ob;refine⟨_,rfl,p,HZ,_,rfl,FH,C4 _ ZV,_,rfl,_,rfl,p,h,(W.JX.length:Int)+1,1,_,rfl,W2,z1,z2,λx L H3 W3 l3 SV _ _ _=>?_⟩;refine⟨_,rfl,k io I L H3 W3 l3 (A2.keep λb hb o eb=>SV b o eb (off b hb)) off EE ?_ is ko ic λb o eb hb=>SV b o (UZ b o eb hb) hb⟩;rw[im];simp
end
section
def Q8(CW C CP CI:Addr)(K:W.Frag):Sp:=λvs H Q E=>∃(p:Addr)(n:Int)(W:FZ)(l1 l2:List (Int×Addr))(t:Addr)(m s g:Int)(kind:Str)(v:V),vs=[.ref p,.int n]/\AN CW C CP H p W/\W.ls=l1++(n,t)::l2/\H t=some (.BC [.int m,.str kind,.int s,.int g,v]) /\
 ∀H1,AN CW C CP H1 p { W with ls:=l1++l2 }->F_ p W H H1 ->
  ((kind="pass"/\Jj CW C CP [.ref p,.ref t] H1 Q E)\/(kind="ask"/\E8 CW C CP K [.ref p,.ref t] H1 Q E)\/(kind="answer"/\M0 CW C CP CI K [.ref p,.ref t] H1 Q E)\/(kind="let"/\E7 CW C CP [.ref p,.ref t] H1 Q E) \/
   ((¬kind="pass"/\¬kind="ask"/\¬kind="answer"/\¬kind="let")/\Fv CW C CP [.ref p,.ref t] H1 (λ_ H2=>∀r,H2 r=none->Q (.ref r) (upd H2 r (.BI []))) E))
theorem Jee(F:EK K "deliver" "World.deliver" Hi f fd)(TW:Ek K mg CW NH NI)(TP:Kt K mg CP NL)(M1:CO K CP "taken" "Post.taken" Mh ["self","n"] f1 d1)(M2:CO K CW "weight_came" "World.weight_came" Jp ["self","letter"] f2 d2)(G2:CV P w K mg base 3 f2 d2 ["self","letter"] (Fv CW C CP))(M3:CO K CW "pass_came" "World.pass_came" Ro ["self","letter"] f3 d3)(G3:CV P w K mg base 2 f3 d3 ["self","letter"] (Jj CW C CP))(M4:CO K CW "ask_came" "World.ask_came" Hj ["self","letter"] f4 d4)(G4:CV P w K mg base 3 f4 d4 ["self","letter"] (E8 CW C CP K))(M5:CO K CW "answer_came" "World.answer_came" Ez ["self","letter"] f5 d5)(G5:CV P w K mg base 5 f5 d5 ["self","letter"] (M0 CW C CP CI K))(M6:CO K CW "let_came" "World.let_came" Hh ["self","letter"] f6 d6)(G6:CV P w K mg base 3 f6 d6 ["self","letter"] (E7 CW C CP)):EU P w K mg base 6 f fd ["self","n"] (Q8 CW C CP CI K):=by
 have G1:EU P w K mg base 1 f1 d1 ["self","n"] (Ug CP NL):=Z2 M1.fn TP;have n5:EU P w K mg base 3 f2 d2 ["self","letter"] (Fv CW C CP):=FX.DZ.RO G2;have G3':EU P w K mg base 2 f3 d3 ["self","letter"] (Jj CW C CP):=FX.DZ.RO G3;have G4':EU P w K mg base 3 f4 d4 ["self","letter"] (E8 CW C CP K):=FX.DZ.RO G4;have G5':EU P w K mg base 5 f5 d5 ["self","letter"] (M0 CW C CP CI K):=FX.DZ.RO G5;have G6':EU P w K mg base 3 f6 d6 ["self","letter"] (E7 CW C CP):=FX.DZ.RO G6;refine qd F LK (λvs H Q E h=>?_) (λDP A outer s H vs Q E hr h=>?_);.obtain⟨p,n,W,l1,l2,t,m,s,g,kind,v,rfl,_⟩:=h;rfl
 .obtain⟨p,n,W,l1,l2,t,m,s,g,kind,v,rfl,S,el,et,k⟩:=h;have GO:CU 1 _:=hr.mono (by decide);have NB:CU 2 _:=hr.mono (by decide);have UU:CU 3 _:=hr.mono (by decide);obtain⟨dx,hp⟩:=S.ob;obtain⟨EJ,hq⟩:=S.po.ob;refine⟨_,Ad (Aw (i:=2) LK.nd rfl (Or.inl rfl) (Ap (pl:=_) (An (pv 0) rfl) TP.cl M1.mt G1 GO M1.bd .nil Bm (Aa (pv 1) Af))) (Ad (Aw (i:=3) LK.nd rfl (Or.inl rfl) (Az Av (pv 2) Ah)) (Ad (Bf (A3 Cy (pv 3) Bk (A6 _)) (Ae (Ar (Ap (pl:=_) (pv 0) TW.cl M3.mt G3' NB M3.bd .nil Bm (Aa (pv 2) Af)))) A4) (Ad (Bf (A3 Cy (pv 3) Bk (A6 _)) (Ae (Ar (Ap (pl:=_) (pv 0) TW.cl M4.mt G4' UU M4.bd .nil Bm (Aa (pv 2) Af)))) A4) (Ad (Bf (A3 Cy (pv 3) Bk (A6 _)) (Ae (Ar (Ap (pl:=_) (pv 0) TW.cl M5.mt G5' hr M5.bd .nil Bm (Aa (pv 2) Af)))) A4) (Ad (Bf (A3 Cy (pv 3) Bk (A6 _)) (Ae (Ar (Ap (pl:=_) (pv 0) TW.cl M6.mt G6' UU M6.bd .nil Bm (Aa (pv 2) Af)))) A4) (Ad (A5 (Ap (pl:=_) (pv 0) TW.cl M2.mt n5 UU M2.bd .nil Bm (Aa (pv 2) Af))) (Ae (Ar (Fa Af))))))))),?_⟩;refine⟨_,rfl,p,CW,dx,_,_,rfl,hp,TW.cl,TW.nP,Dz W,W.po,EJ,_,rfl,hq,C8 _ _ ZV ZV,_,rfl,W.po,W.pd,W.c,W.ls,n,rfl,S.po,?_⟩;refine .inl ⟨l1,l2,t,el,λH1 S1 JT=>?_⟩;obtain⟨W1,FU⟩:=S.IE S1 λb o e h1 h2=>JT b o e h2;have MO:=F_.DS S FU;obtain⟨HZ,FH⟩:=W1.ob;refine⟨_,rfl,t,_,_,_,rfl,rfl,CL.of (MO.BC _ _ et),rfl,?_⟩;have k2:=k H1 W1 FU;clear k;rcases k2 with⟨rfl,k⟩|⟨rfl,k⟩|⟨rfl,k⟩|⟨rfl,k⟩|⟨nk,k⟩;(.exact Ja ⟨_,rfl,p,HZ,_,rfl,FH,C4 _ ZV,_,rfl,k⟩);(.exact HY (Ja ⟨_,rfl,p,HZ,_,rfl,FH,C4 _ ZV,_,rfl,k⟩));(.exact HY (HY (Ja ⟨_,rfl,p,HZ,_,rfl,FH,C4 _ ZV,_,rfl,k⟩)));(.exact HY (HY (HY (Ja ⟨_,rfl,p,HZ,_,rfl,FH,C4 _ ZV,_,rfl,k⟩))));.refine HY (ne:=nk.1) (HY (ne:=nk.2.1) (HY (ne:=nk.2.2.1) (HY (ne:=nk.2.2.2) ⟨_,rfl,p,HZ,_,rfl,FH,C4 _ ZV,_,rfl,?_⟩)));obtain⟨p',t',W',n',s',g',ie,tb,wt,q,G,G',e1,h1,h2,h3,h4,h5,h6⟩:=k;exact⟨p',t',W',n',s',g',ie,tb,wt,q,G,G',e1,h1,h2,h3,h4,h5,λH2 a1 a2=>⟨BF _,h6 H2 a1 a2⟩⟩
end
def JA(K:W.Frag)(H:Hp)(ED:List (Int×Addr))(y:Int×Addr):LL->Prop
 | .w l=>II H y.2 y.1 l.kind l.s l.g l.th l.x
 | .ask s g n u=>MY H y.2 y.1 "ask" s g n u
 | .LP s g n u tick S=>MY H y.2 y.1 "answer" s g n u/\∃e xs,(y.1,e)∈ED/\H e=some (.BC [.int tick,.ref xs])/\PV K H xs S
 | .lt s g ts=>QC H y.2 y.1 s g ts
theorem JA.keep(h:JA K H ED y z)(k:BU H H'):JA K H' ED y z:=by cases z with | w l=>exact II.keep h k | ask s g n u=>exact MY.keep h k | LP s g n u tick S =>obtain⟨h1,e,xs,h2,h3,h4⟩:=h;exact⟨h1.keep k,e,xs,h2,k.BC _ _ h3,h4.keep k⟩ | lt s g ts=>exact QC.keep h k
theorem JA.more(h:JA K H ED y z)(sb:∀e,(y.1,e)∈ED->(y.1,e)∈pU):JA K H pU y z:=by cases z with | w l=>exact h | ask s g n u=>exact h | LP s g n u tick S =>obtain⟨h1,e,xs,h2,h3,h4⟩:=h;exact⟨h1,e,xs,sb e h2,h3,h4⟩ | lt s g ts=>exact h
theorem D6(x:Paired (JA K H ED) ys al)(k:BU H H'):Paired (JA K H' ED) ys al:=As (λ_ _ r=>r.keep k) x
structure Qy where
 n:Int
 io:Addr
 I:K61F.Iq
 fi:List (Int×Int×HS)
 se:List (Int×Int)
def Ee(y:Qy):List Addr:=[y.io,y.I.sd,y.I.fd,y.I.cd]
theorem ET:b∈Ee y↔(b=y.io\/b=y.I.sd\/b=y.I.fd\/b=y.I.cd):=by simp[Ee]
structure OM(CI:Addr)(K:W.Frag)(H:Hp)(m:Nat)(y:Qy):Prop where
 at_:K61F.EW CI H y.io y.I
 many:y.I.m=(m:Int)
 fs:y.I.fs=y.fi.map λr=>((Sum.inl r.1:Key),V.int r.2.1)
 cs:y.I.cs=y.se.map λr=>((Sum.inl r.1:Key),V.int r.2)
 ss:Paired (λ(kv:Key×V)(r:Int×Int×HS)=>∃a,kv=(Sum.inl r.1,V.ref a)/\PV K H a r.2.2) y.I.ss y.fi
section
variable {CI:Addr}{K:W.Frag}{H H':Hp}{m:Nat}{y:Qy}
theorem OM.has(x:OM CI K H m y)(hb:b∈Ee y):∃o,H b=some o/\(∀xs,o≠.BC xs)/\(∀xs,o≠.BI xs)/\(∀ob u,o≠.FJ ob u):=by
 rcases ET.mp hb with rfl|rfl|rfl|rfl;.obtain⟨dx,e⟩:=x.at_.ob;exact⟨_,e,λ_ z=>(by cases z),λ_ z=>(by cases z),λ_ _ z=>(by cases z)⟩
 .exact⟨_,x.at_.s,λ_ z=>(by cases z),λ_ z=>(by cases z),λ_ _ z=>(by cases z)⟩
 .exact⟨_,x.at_.f,λ_ z=>(by cases z),λ_ z=>(by cases z),λ_ _ z=>(by cases z)⟩
 .exact⟨_,x.at_.c,λ_ z=>(by cases z),λ_ z=>(by cases z),λ_ _ z=>(by cases z)⟩
theorem OM.keep(x:OM CI K H m y)(k:∀b o,b∈Ee y->H b=some o->H' b=some o)(kt:BU H H'):OM CI K H' m y :=⟨x.at_.keep λb hb o e=>k b o (ET.mpr hb) e,x.many,x.fs,x.cs,As (λ_ _ h9=>by obtain⟨a,e,s⟩:=h9;exact⟨a,e,s.keep kt⟩) x.ss⟩
end
def Kn(ns:List Int):LL->Prop
 | .ask _ _ n u=>n∈ns/\(u=1\/u=2)
 | .LP _ _ n u _ _=>n∈ns/\(u=1\/u=2)
 | _=>True
def Fe(qs:List (Addr×BS)):Int:=(qs.map λq=>q.2.AY).sum
theorem P1:∀{l:List (Addr×BS)} {i:Nat} {q r:Addr×BS},l[i]?=some q->Fe (l.set i r)=Fe l-q.2.AY+r.2.AY
 | [],i,q,r,h=>by simp at h
 | a::l,0,q,r,h=>by (have e:a=q:=by simpa using h);subst e;simp only[List.set_cons_zero,Fe,AK,DH];lia
 | a::l,i+1,q,r,h=>by have ih:=P1 (l:=l) (i:=i) (q:=q) (r:=r) (by simpa using h);simp only[List.set_cons_succ,Fe,AK,DH] at *;lia
structure WI(CW C CP CI:Addr)(K:W.Frag)(H:Hp)(p:Addr)(W:FZ)(D:T2->Prop)(m n:Nat)(al:List LL)(ys:List Qy):Prop where
 wa:AN CW C CP H p W
 wg:Wg D m n W.share W.qs (GB al)
 md:Fe W.qs<=n
 ob:∀(j:Nat) q G,W.qs[j]?=some (q,G)->∀t∈G.AF.map (·.1),0<=t.2
 m1:1<=m
 m5:m<=5
 lw:Paired (JA K H W.ED) W.ls al
 en:(W.ED.map (·.1)).Nodup
 ec:∀e∈W.ED,e.1<=W.c
 ez:W.ED.length<=n
 fz:W.IG.length<=n
 lz:al.length<=(GB al).length+5*n
 iz:ys.length<=n
 iq:W.JX=ys.map λy=>(y.n,y.io)
 cp:ys.map (·.n)=(List.range ys.length).map λ(j:Nat)=>(j:Int)+1
 nd:(ys.flatMap Ee).Nodup
 off:∀y∈ys,∀b∈Ee y,b∉Cb p W
 at_:∀y∈ys,OM CI K H m y
 iv:∀y∈ys,NK m W.qs (GB al) al y.n y.fi y.se
 kn:∀z∈al,Kn (ys.map (·.n)) z
 ff:∀e∈W.IG,∃y∈ys,y.n=e.1/\y.se.length=m
 lt:∀s g ts,LL.lt s g ts∈al->0<=g/\g<m/\∃F,MV W.qs (GB al) F/\(∀t,F t->D t)/\∀t,t∈ts↔(F t/\t.1=g)
def jt(p:Addr)(W:FZ)(ys:List Qy)(H H':Hp):Prop:=∀b o,H b=some o->b∉Cb p W->b∉ys.flatMap Ee->H' b=some o
section
variable {CW C CP CI p:Addr}{K:W.Frag}{H H1:Hp}{W W':FZ}{D:T2->Prop}{m n:Nat}{al al':List LL}{ys:List Qy}
theorem WI.same(x:WI CW C CP CI K H p W D m n al ys)(s:Bi H H1):WI CW C CP CI K H1 p W D m n al ys :={ x with wa:=x.wa.same s,lw:=D6 x.lw (HN s),at_:=λy hy=>(x.at_ y hy).keep (λb o _ e=>s _ _ e) (HN s) }
theorem WI.len(x:WI CW C CP CI K H p W D m n al ys):W.ls.length=al.length/\(GB al).length<=n:=by have:=Paired.length x.lw;have:=x.wg.wl.cnt;lia
theorem Jav{i:Nat}{q:Addr}{G G':BS}{c:Int}{Ls:List (Int×Addr)}(hi:W.qs[i]?=some (q,G))(nw:∀b∈BG G',b∈BG G\/H b=none):∀b∈Cb p { W with qs:=W.qs.set i (q,G'),c:=c,ls:=Ls },b∈Cb p W\/H b=none:=λb hb=>by rcases ZI hb with hb|hb;(.exact .inl (ZB _ hb));.obtain⟨z,hz,hm⟩:=CG.mp hb;have hz:z∈W.qs.set i (q,G'):=hz;rcases LN hz with hz|rfl;(.exact .inl (ZC _ (CG.mpr ⟨z,hz,hm⟩)));.have mq:=ZP hi;rcases hm with hm|hm;(.exact .inl (ZC _ (CG.mpr ⟨(q,G),mq,.inl hm⟩)));.rcases nw b hm with h|h;(.exact .inl (ZC _ (CG.mpr ⟨(q,G),mq,.inr h⟩)));.exact .inr h
theorem fw(f:F_ p W H H1):jt p W ys H H1:=λb o e h _=>f b o e h
theorem WI.TJ(x:WI CW C CP CI K H p W D m n al ys)(f:F_ p W H H1)(hy:y∈ys):OM CI K H1 m y:=(x.at_ y hy).keep (λb o hb e=>f b o e (x.off y hy b hb)) (F_.DS x.wa f)
theorem WI.oG(x:WI CW C CP CI K H p W D m n al ys)(sub:∀b∈Cb p W',b∈Cb p W\/H b=none):∀y∈ys,∀b∈Ee y,b∉Cb p W':=λy hy b hb m=>by rcases sub b m with h|h;(.exact x.off y hy b hb h);.obtain⟨o,e,_⟩:=(x.at_ y hy).has hb;rw[e] at h;cases h
theorem WI.V_(x:WI CW C CP CI K H p W D m n al ys){j:Nat}{q:Addr}{G G':BS}{c:Int}{Ls:List (Int×Addr)}(hi:W.qs[j]?=some (q,G))(W1:AN CW C CP H1 p { W with qs:=W.qs.set j (q,G'),c:=c,ls:=Ls })(wf:F_ p W H H1)(nw:∀b∈BG G',b∈BG G\/H b=none)(tk:G.AZ<G'.AZ)(md:G.AY<=G'.AY)(mk:G'.AY<=G.AY+1)(ou:∀t∈G'.AF.map (·.1),t∈G.AF.map (·.1)\/0<=t.2)(wg:Wg D m (n+1) W.share (W.qs.set j (q,G')) (GB al'))(st:JJ W.qs (GB al) (W.qs.set j (q,G')) (GB al'))(hA:∀n u,Cg al' n u=Cg al n u)(hB:∀n u,B4 al' n u=B4 al n u)(lw:Paired (JA K H1 W.ED) Ls al')(lz:al'.length<=(GB al').length+5*(n+1))(hc:W.c<=c)(sub:∀z∈al',z∈al\/∃l,z=.w l):WI CW C CP CI K H1 p { W with qs:=W.qs.set j (q,G'),c:=c,ls:=Ls } D m (n+1) al' ys:=by
 have a1:=x.md;have a2:=x.ez;have a3:=x.fz;have a4:=x.iz;refine⟨W1,wg,?_,λj2 q2 G2 e2 t ht=>?_,x.m1,x.m5,lw,x.en,λe he=>Int.le_trans (x.ec e he) hc,by show W.ED.length<=n+1;lia,by show W.IG.length<=n+1;lia,lz,by lia,x.iq,x.cp,x.nd,x.oG (Jav hi nw),λy hy=>x.TJ wf hy,λy hy=>(x.iv y hy).V_ hi tk md (hA y.n) (hB y.n) st,λz hz=>?_,x.ff,λs g ts hz=>?_⟩;.show Fe (W.qs.set j (q,G'))<=_;rw[P1 hi];show Fe W.qs-G.AY+G'.AY<=((n+1:Nat):Int);lia
 .have e2:(W.qs.set j (q,G'))[j2]?=some (q2,G2):=e2;rcases El e2 with⟨_,e3,_⟩|⟨_,e3⟩;(.rw[e3] at ht;rcases ou t ht with h|h;(.exact x.ob j q G hi t h);.exact h);.exact x.ob j2 q2 G2 e3 t ht
 .rcases sub z hz with h|⟨l,rfl⟩;(.exact x.kn z h);.trivial
 .rcases sub _ hz with h|⟨l,h⟩;(.obtain⟨g0,g1,F,sF,fD,ht⟩:=x.lt s g ts h;exact⟨g0,g1,F,st F sF,fD,ht⟩);.cases h
end
inductive Dd where
 | make (h:Int)
 | three (w:Str) (h:Int) (a b:Addr)
 | free (h:Int) (b:Addr)
 | send (h g:Int) (b:Addr)
 | clean (h:Int)
 | ask (h:Int)
 | deliver (n:Int)
def mj:Dd->List V
 | .make h=>[.str "make",.int h]
 | .three w h a b=>[.str w,.int h,.ref a,.ref b]
 | .free h b=>[.str "free",.int h,.ref b]
 | .send h g b=>[.str "send",.int h,.int g,.ref b]
 | .clean h=>[.str "clean",.int h]
 | .ask h=>[.str "ask",.int h]
 | .deliver n=>[.str "deliver",.int n]
section
structure Wm(P:Program)(w:World)(K:W.Frag)(mg:Str->Option Value)(base:Heap)(CW C CP CI NH Cn DO MI NW f1 f2 f3 f4 f5 f6 f7 f8 f9:Addr)(d1 d2 d3 d4 d5 d6 d7 d8 d9:FuncData):Prop where
 make:CO K CW "make" "World.make" Rp ["self","h"] f1 d1
 hold:CO K CW "hold" "World.hold" Rq ["self","h","a","b"] f2 d2
 drop:CO K CW "drop" "World.drop" Rt ["self","h","a","b"] f3 d3
 take:CO K CW "take" "World.take" Rm ["self","h","a","b"] f4 d4
 free:CO K CW "free" "World.free" Rr ["self","h","b"] f5 d5
 send:CO K CW "send" "World.send" Rn ["self","h","g","b"] f6 d6
 clean:CO K CW "clean" "World.clean" Mf ["self","h"] f7 d7
 ask:CO K CW "ask" "World.ask" X4 ["self","h"] f9 d9
 deliver:CO K CW "deliver" "World.deliver" Hi ["self","n"] f8 d8
 iy:EU P w K mg base 5 f1 d1 ["self","h"] (Q4 CW C CP NH)
 i4:EU P w K mg base 5 f2 d2 ["self","h","a","b"] (Q5 CW C CP NH Cn DO)
 i6:EU P w K mg base 5 f3 d3 ["self","h","a","b"] (Q7 CW C CP NH Cn DO MI)
 iu:EU P w K mg base 5 f4 d4 ["self","h","a","b"] (Q3 CW C CP NH Cn DO MI)
 i5:EU P w K mg base 5 f5 d5 ["self","h","b"] (Q6 CW C CP NH Cn)
 ix:EU P w K mg base 5 f6 d6 ["self","h","g","b"] (Md CW C CP Cn NW)
 cJ:EU P w K mg base 5 f7 d7 ["self","h"] (Jk CW C CP)
 pM:EU P w K mg base 5 f9 d9 ["self","h"] (Q9 CW C CP CI)
 WS:EU P w K mg base 6 f8 d8 ["self","n"] (Q8 CW C CP CI K)
def TC(CW C CP CI NH Cn DO MI NW:Addr)(K:W.Frag)(p:Addr)(H:Hp)(Q:VK)(E:XK):Dd->Prop
 | .make h=>Q4 CW C CP NH [.ref p,.int h] H Q E
 | .three x h a b=>(x="hold"/\Q5 CW C CP NH Cn DO [.ref p,.int h,.ref a,.ref b] H Q E)\/(x="drop"/\Q7 CW C CP NH Cn DO MI [.ref p,.int h,.ref a,.ref b] H Q E)\/(x="take"/\Q3 CW C CP NH Cn DO MI [.ref p,.int h,.ref a,.ref b] H Q E)
 | .free h b=>Q6 CW C CP NH Cn [.ref p,.int h,.ref b] H Q E
 | .send h g b=>Md CW C CP Cn NW [.ref p,.int h,.int g,.ref b] H Q E
 | .clean h=>Jk CW C CP [.ref p,.int h] H Q E
 | .ask h=>Q9 CW C CP CI [.ref p,.int h] H Q E
 | .deliver n=>Q8 CW C CP CI K [.ref p,.int n] H Q E
def nJ(CW C CP CI NH Cn DO MI NW:Addr)(K:W.Frag):Sp:=λvs H Q E=>∃(p x dx:Addr)(fs:List (Str×V))(dd:Dd),vs=[.ref p,.ref x]/\H x=some (.BC (mj dd))/\H p=some (.ins CW dx fs)/\(∀n:Str,(["make","hold","drop","take","free","send","clean","ask","deliver"]:List Str).contains n=true->fs.lookup n=none)/\TC CW C CP CI NH Cn DO MI NW K p H Q E dd
theorem gJ:Ao ["_law_world","_law_deed_here","_law_word"] ["_law_world","_law_deed_here"] (Aj jD):={}
theorem Jid(F:EK K "_law_do" "_law_do" jD f fd)(TW:Ek K mg CW NH NI)(M:Wm P w K mg base CW C CP CI NH Cn DO MI NW f1 f2 f3 f4 f5 f6 f7 f8 f9 d1 d2 d3 d4 d5 d6 d7 d8 d9) : EU P w K mg base 7 f fd ["_law_world","_law_deed_here"] (nJ CW C CP CI NH Cn DO MI NW K):=by refine F5 F gJ λvs H Q E h=>?_;obtain⟨p,x,dx,fs,dd,rfl,ex,hp,fl,k⟩:=h;refine⟨rfl,λDP A outer s hr=>?_⟩;have VF:CU 5 _:=hr.mono (by decide);refine⟨_,Ad (Aw (i:=2) gJ.nd rfl (Or.inl rfl) (Az Av (pv 1) Ah)) (Ad (Bf (A3 Cy (pv 2) Bk (A6 _)) (Ae (Ar (Ap (pl:=_) (pv 0) TW.cl M.make.mt M.iy VF M.make.bd .nil Bm (Aa (Az Av (pv 1) Ah) Af)))) A4) (Ad (Bf (A3 Cy (pv 2) Bk (A6 _)) (Ae (Ar (Ap (pl:=_) (pv 0) TW.cl M.hold.mt M.i4 VF M.hold.bd .nil Bm (Aa (Az Av (pv 1) Ah) (Aa (Az Av (pv 1) Ah) (Aa (Az Av (pv 1) Ah) Af)))))) A4) (Ad (Bf (A3 Cy (pv 2) Bk (A6 _)) (Ae (Ar (Ap (pl:=_) (pv 0) TW.cl M.drop.mt M.i6 VF M.drop.bd .nil Bm (Aa (Az Av (pv 1) Ah) (Aa (Az Av (pv 1) Ah) (Aa (Az Av (pv 1) Ah) Af)))))) A4) (Ad (Bf (A3 Cy (pv 2) Bk (A6 _)) (Ae (Ar (Ap (pl:=_) (pv 0) TW.cl M.take.mt M.iu VF M.take.bd .nil Bm (Aa (Az Av (pv 1) Ah) (Aa (Az Av (pv 1) Ah) (Aa (Az Av (pv 1) Ah) Af)))))) A4) (Ad (Bf (A3 Cy (pv 2) Bk (A6 _)) (Ae (Ar (Ap (pl:=_) (pv 0) TW.cl M.free.mt M.i5 VF M.free.bd .nil Bm (Aa (Az Av (pv 1) Ah) (Aa (Az Av (pv 1) Ah) Af))))) A4) (Ad (Bf (A3 Cy (pv 2) Bk (A6 _)) (Ae (Ar (Ap (pl:=_) (pv 0) TW.cl M.send.mt M.ix VF M.send.bd .nil Bm (Aa (Az Av (pv 1) Ah) (Aa (Az Av (pv 1) Ah) (Aa (Az Av (pv 1) Ah) Af)))))) A4) (Ad (Bf (A3 Cy (pv 2) Bk (A6 _)) (Ae (Ar (Ap (pl:=_) (pv 0) TW.cl M.clean.mt M.cJ VF M.clean.bd .nil Bm (Aa (Az Av (pv 1) Ah) Af)))) A4) (Ad (Bf (A3 Cy (pv 2) Bk (A6 _)) (Ae (Ar (Ap (pl:=_) (pv 0) TW.cl M.ask.mt M.pM VF M.ask.bd .nil Bm (Aa (Az Av (pv 1) Ah) Af)))) A4) (Ae (Ar (Ap (pl:=_) (pv 0) TW.cl M.deliver.mt M.WS hr M.deliver.bd .nil Bm (Aa (Az Av (pv 1) Ah) Af)))))))))))),?_⟩;cases dd with | make h =>refine⟨_,rfl,x,_,_,_,rfl,rfl,CL.of ex,rfl,Ja ?_⟩;exact⟨_,rfl,p,dx,_,rfl,hp,fl _ ZV,_,rfl,x,_,_,_,rfl,rfl,CL.of ex,rfl,k⟩ | three wd h a b =>rcases k with⟨rfl,k⟩|⟨rfl,k⟩|⟨rfl,k⟩;(.refine⟨_,rfl,x,_,_,_,rfl,rfl,CL.of ex,rfl,HY (Ja ?_)⟩;exact⟨_,rfl,p,dx,_,rfl,hp,fl _ ZV,_,rfl,x,_,_,_,rfl,rfl,CL.of ex,rfl,_,rfl,x,_,_,_,rfl,rfl,CL.of ex,rfl,_,rfl,x,_,_,_,rfl,rfl,CL.of ex,rfl,k⟩);(.refine⟨_,rfl,x,_,_,_,rfl,rfl,CL.of ex,rfl,HY (HY (Ja ?_))⟩;exact⟨_,rfl,p,dx,_,rfl,hp,fl _ ZV,_,rfl,x,_,_,_,rfl,rfl,CL.of ex,rfl,_,rfl,x,_,_,_,rfl,rfl,CL.of ex,rfl,_,rfl,x,_,_,_,rfl,rfl,CL.of ex,rfl,k⟩);.refine⟨_,rfl,x,_,_,_,rfl,rfl,CL.of ex,rfl,HY (HY (HY (Ja ?_)))⟩;exact⟨_,rfl,p,dx,_,rfl,hp,fl _ ZV,_,rfl,x,_,_,_,rfl,rfl,CL.of ex,rfl,_,rfl,x,_,_,_,rfl,rfl,CL.of ex,rfl,_,rfl,x,_,_,_,rfl,rfl,CL.of ex,rfl,k⟩ | free h b =>refine⟨_,rfl,x,_,_,_,rfl,rfl,CL.of ex,rfl,HY (HY (HY (HY (Ja ?_))))⟩;exact⟨_,rfl,p,dx,_,rfl,hp,fl _ ZV,_,rfl,x,_,_,_,rfl,rfl,CL.of ex,rfl,_,rfl,x,_,_,_,rfl,rfl,CL.of ex,rfl,k⟩ | send h g b =>refine⟨_,rfl,x,_,_,_,rfl,rfl,CL.of ex,rfl,HY (HY (HY (HY (HY (Ja ?_)))))⟩;exact⟨_,rfl,p,dx,_,rfl,hp,fl _ ZV,_,rfl,x,_,_,_,rfl,rfl,CL.of ex,rfl,_,rfl,x,_,_,_,rfl,rfl,CL.of ex,rfl,_,rfl,x,_,_,_,rfl,rfl,CL.of ex,rfl,k⟩ | clean h =>refine⟨_,rfl,x,_,_,_,rfl,rfl,CL.of ex,rfl,HY (HY (HY (HY (HY (HY (Ja ?_))))))⟩;exact⟨_,rfl,p,dx,_,rfl,hp,fl _ ZV,_,rfl,x,_,_,_,rfl,rfl,CL.of ex,rfl,k⟩ | ask h =>refine⟨_,rfl,x,_,_,_,rfl,rfl,CL.of ex,rfl,HY (HY (HY (HY (HY (HY (HY (Ja ?_)))))))⟩;exact⟨_,rfl,p,dx,_,rfl,hp,fl _ ZV,_,rfl,x,_,_,_,rfl,rfl,CL.of ex,rfl,k⟩ | deliver n =>refine⟨_,rfl,x,_,_,_,rfl,rfl,CL.of ex,rfl,HY (HY (HY (HY (HY (HY (HY (HY ?_)))))))⟩;exact⟨_,rfl,p,dx,_,rfl,hp,fl _ ZV,_,rfl,x,_,_,_,rfl,rfl,CL.of ex,rfl,k⟩
end
theorem Cv:∀{as:List α} {bs:List β} {cs:List α} {ds:List β},Paired R as bs->Paired R cs ds->Paired R (as++cs) (bs++ds)
 | _,_,_,_,.nil,k=>k
 | _,_,_,_,.cons h t,k=>.cons h (Cv t k)
theorem C5{α β γ:Type}{f:β->γ}{R:α->γ->Prop}:∀{l:List α} {m:List β},Paired (λa b=>R a (f b)) l m->Paired R l (m.map f)
 | _,_,.nil=>.nil
 | _,_,.cons h t=>.cons h (C5 t)
theorem Qh(h:t∈l.map (·.1)):l.find? (λq=>decide (q.1=t))=some (t,Ag l t):=by unfold Ag;cases e:l.find? λq=>decide (q.1=t) with | none =>obtain⟨q,hq,e2⟩:=ZN h;have:=BA.mp e q hq;simp[e2] at this | some q =>have:=DK e;have:q.1=t:=BL this;rw[<-this];rfl
def KT(CW C CP CI p:Addr)(K:W.Frag)(W:FZ)(m n:Nat)(ys:List Qy)(H:Hp)(Q:VK):Prop:=∀(v:V)(W':FZ)(D':T2->Prop)(al':List LL)(aW:List Qy)(H':Hp),WI CW C CP CI K H' p W' D' m (n+1) al' aW->jt p W ys H H'->W'.hs=W.hs->Q v H'
section
variable {CW C CP CI NH NL Cn DO MI NW p:Addr}{K:W.Frag}{H H1:Hp}{W W':FZ}{D:T2->Prop}{m n:Nat}{al:List LL}{ys:List Qy}{Q:VK}{E:XK}{h:Int}{q:Addr}{G G':BS}
theorem Je6{a:Addr}(ha:H a=none):∀b∈BG (HV (VE G a)),b∈BG G\/H b=none:=λb hb=>by rw[Jc0] at hb;rcases ZI hb with hb|hb;(.exact .inl hb);.rw[ZK hb];exact .inr ha
theorem Qd(ta:T2)(l:List T2):BG { G with AZ:=G.AZ+1,holds:=Ia G.holds ta l }=BG G:=by unfold BG;show G.h::G.o::G.l::G.r::(Ia G.holds ta l).map (·.2.1)=_;rw[Jbf]
theorem nK(ok:Ok G n):(G.holds.map (·.1)).Nodup:=by rw[ok.ke];exact ok.on
theorem WI.RF(x:WI CW C CP CI K H p W D m n al ys)(i:IH W h q G)(W1:AN CW C CP H1 p { W with qs:=W.qs.set h.toNat (q,G') })(wf:F_ p W H H1)(nw:∀b∈BG G',b∈BG G\/H b=none)(tk:G.AZ<G'.AZ)(md:G.AY<=G'.AY)(mk:G'.AY<=G.AY+1)(ou:∀t∈G'.AF.map (·.1),t∈G.AF.map (·.1)\/0<=t.2)(wg:Wg D m (n+1) W.share (W.qs.set h.toNat (q,G')) (GB al))(st:JJ W.qs (GB al) (W.qs.set h.toNat (q,G')) (GB al))(k:KT CW C CP CI p K W m n ys H Q)(v:V):Q v H1 :=k v _ D al ys H1 (x.V_ (c:=W.c) (Ls:=W.ls) i.2 W1 wf nw tk md mk ou wg st (λ_ _=>rfl) (λ_ _=>rfl) (D6 x.lw (F_.DS x.wa wf)) (by have:=x.lz;lia) (A' _) λz hz=>.inl hz) (fw wf) rfl
theorem Jfb(x:WI CW C CP CI K H p W D m n al ys)(hn:n<60)(i:IH W h q G)(k:KT CW C CP CI p K W m n ys H Q):TC CW C CP CI NH Cn DO MI NW K p H Q E (.make h):=by
 obtain⟨s,nu⟩:=x.wg.BP i.2;have z1:=s.ok.hz;have z2:=s.ok.oz;have z3:=s.ok.OL;refine⟨p,h,W,rfl,x.wa,.inr ⟨q,G,i,q,G,rfl,i.at x.wa,by lia,by lia,by lia,s.ok.fresh.1,s.ok.fresh.2.1,s.ok.fresh.2.2,λt a H1 ht ha et S1 JT=>?_⟩⟩;have SW:=Je6 (G:=G) ha;obtain⟨W1,FU⟩:=x.wa.step i.2 (G':=HV (VE G a)) S1 JT SW;refine x.RF i W1 FU SW (by show G.AZ<G.AZ+1;lia) (by show G.AY<=G.AY+1;lia) (A' _) (λt ht=>?_) (x.wg.make i.2 hn a) (T9 i.2 nu a) k _;have ht:t∈(G.AF++[(((G.BP,G.AY),0):T2×Int)]).map (λq:T2×Int=>q.1):=ht;rw[ZF] at ht;rcases ZI ht with h|h;.exact .inl h
 ·(have e:t=(G.BP,G.AY):=by simpa using h);rw[e];exact .inr s.m0
theorem Jfc(x:WI CW C CP CI K H p W D m n al ys)(hn:n<60)(i:IH W h q G)(ea:H a=some (.BC (tv ta)))(eb:H b=some (.BC (tv tb)))(ha:ta∈G.hand)(hb:tb∈G.hand)(hh:ta.1=G.BP)(k:KT CW C CP CI p K W m n ys H Q):TC CW C CP CI NH Cn DO MI NW K p H Q E (.three "hold" h a b):=by obtain⟨s,nu⟩:=x.wg.BP i.2;obtain⟨ad,fd⟩:=s.ok.find ha hh;have z1:=(s.ok.get ta).2.1;refine .inl ⟨rfl,p,h,_,_,W,rfl,x.wa,.inr ⟨q,G,i,q,a,b,G,ta,tb,rfl,i.at x.wa,ea,eb,.inr (.inr ⟨ha,hb,hh,ad,_,fd,by lia,λH1 S1 JT=>?_⟩)⟩⟩;rw[Pq (Zj (i.at x.wa).nd) (nK s.ok) fd] at S1;have SW:∀b∈BG (Qk G ta tb),b∈BG G\/H b=none:=λb hb=>.inl (by rw[<-Qd (G:=G) ta (Bt (Ce G.holds ta) tb)];exact hb);obtain⟨W1,FU⟩:=x.wa.step i.2 (G':=Qk G ta tb) S1 JT SW;obtain⟨g1,g2⟩:=x.wg.hold i.2 (ta:=ta) hb;exact x.RF i W1 FU SW (by show G.AZ<G.AZ+1;lia) (A' _) (by show G.AY<=G.AY+1;lia) (λt ht=>.inl ht) g1 g2 k _
theorem Jfe(x:WI CW C CP CI K H p W D m n al ys)(hn:n<60)(i:IH W h q G)(ea:H a=some (.BC (tv ta)))(eb:H b=some (.BC (tv tb)))(ha:ta∈G.hand)(hb:tb∈Ce G.holds ta)(hh:ta.1=G.BP)(k:KT CW C CP CI p K W m n ys H Q):TC CW C CP CI NH Cn DO MI NW K p H Q E (.three "drop" h a b):=by obtain⟨s,nu⟩:=x.wg.BP i.2;obtain⟨ad,fd⟩:=s.ok.find ha hh;refine .inr (.inl ⟨rfl,p,h,_,_,W,rfl,x.wa,.inr ⟨q,G,i,q,a,b,G,ta,tb,rfl,i.at x.wa,ea,eb,.inr (.inr ⟨ha,hh,ad,_,fd,.inr ⟨hb,λH1 S1 JT=>?_⟩⟩)⟩⟩);rw[Pq (Zj (i.at x.wa).nd) (nK s.ok) fd] at S1;have SW:∀b∈BG (Ov G ta tb),b∈BG G\/H b=none:=λb hb=>.inl (by rw[<-Qd (G:=G) ta (Gp (Ce G.holds ta) tb)];exact hb);obtain⟨W1,FU⟩:=x.wa.step i.2 (G':=Ov G ta tb) S1 JT SW;obtain⟨g1,g2⟩:=x.wg.drop i.2 ta tb;exact x.RF i W1 FU SW (by show G.AZ<G.AZ+1;lia) (A' _) (by show G.AY<=G.AY+1;lia) (λt ht=>.inl ht) g1 g2 k _
theorem Je9(x:WI CW C CP CI K H p W D m n al ys)(hn:n<60)(i:IH W h q G)(ea:H a=some (.BC (tv ta)))(eb:H b=some (.BC (tv tb)))(ha:ta∈G.hand)(hb:tb∈Ce G.holds ta)(hh:ta.1=G.BP)(k:KT CW C CP CI p K W m n ys H Q):TC CW C CP CI NH Cn DO MI NW K p H Q E (.three "take" h a b):=by obtain⟨s,nu⟩:=x.wg.BP i.2;obtain⟨ad,fd⟩:=s.ok.find ha hh;have z1:=s.ok.hz;refine .inr (.inr ⟨rfl,p,h,_,_,W,rfl,x.wa,.inr ⟨q,G,i,q,a,b,G,ta,tb,rfl,i.at x.wa,ea,eb,by lia,.inr (.inr ⟨ha,hh,ad,_,fd,.inr ⟨hb,λH1 S1 JT=>?_⟩⟩)⟩⟩);have SW:∀b∈BG (Qj G tb),b∈BG G\/H b=none:=λb hb=>.inl hb;obtain⟨W1,FU⟩:=x.wa.step i.2 (G':=Qj G tb) S1 JT SW;obtain⟨g1,g2⟩:=x.wg.take i.2 ha hb;exact x.RF i W1 FU SW (by show G.AZ<G.AZ+1;lia) (A' _) (by show G.AY<=G.AY+1;lia) (λt ht=>.inl ht) g1 g2 k _
theorem Jfd(x:WI CW C CP CI K H p W D m n al ys)(hn:n<60)(i:IH W h q G)(eb:H b=some (.BC (tv tb)))(hb:tb∈G.hand)(k:KT CW C CP CI p K W m n ys H Q):TC CW C CP CI NH Cn DO MI NW K p H Q E (.free h b):=by refine⟨p,h,_,W,rfl,x.wa,.inr ⟨q,G,i,q,b,G,tb,rfl,i.at x.wa,eb,.inr ⟨hb,λH1 S1 JT=>?_⟩⟩⟩;have SW:∀b∈BG (Ql G tb),b∈BG G\/H b=none:=λb hb=>.inl hb;obtain⟨W1,FU⟩:=x.wa.step i.2 (G':=Ql G tb) S1 JT SW;obtain⟨g1,g2⟩:=x.wg.free i.2 tb;exact x.RF i W1 FU SW (by show G.AZ<G.AZ+1;lia) (A' _) (by show G.AY<=G.AY+1;lia) (λt ht=>.inl ht) g1 g2 k _
theorem WI.YS(x:WI CW C CP CI K H p W D m n al ys)(i:IH W h q G){c:Int}{L:List (Int×Addr)}{ls:List LT}(W1:AN CW C CP H1 p { W with qs:=W.qs.set h.toNat (q,G'),c:=c,ls:=W.ls++L })(wf:F_ p W H H1)(nw:∀b∈BG G',b∈BG G\/H b=none)(tk:G.AZ<G'.AZ)(md:G.AY<=G'.AY)(mk:G'.AY<=G.AY+1)(ou:∀t∈G'.AF.map (·.1),t∈G.AF.map (·.1)\/0<=t.2)(wg:Wg D m (n+1) W.share (W.qs.set h.toNat (q,G')) (GB al++ls))(st:JJ W.qs (GB al) (W.qs.set h.toNat (q,G')) (GB al++ls))(hc:W.c<=c)(lw:Paired (λ(y:Int×Addr) (l:LT)=>II H1 y.2 y.1 l.kind l.s l.g l.th l.x) L ls)(k:KT CW C CP CI p K W m n ys H Q)(v:V):Q v H1:=by
 have e:GB (al++ls.map .w)=GB al++ls:=by rw[Co,ng]
 have zl:=x.lz;refine k v { W with qs:=W.qs.set h.toNat (q,G'),c:=c,ls:=W.ls++L } D (al++ls.map .w) ys H1 (x.V_ (al':=al++ls.map .w) i.2 W1 wf nw tk md mk ou (by rw[e];exact wg) (by rw[e];exact st) (λn u=>by rw[Br,(K4 ls n u).1,AH]) (λn u=>by rw[Bo,(K4 ls n u).2,AH]) (Cv (D6 x.lw (F_.DS x.wa wf)) (C5 (f:=LL.w) (R:=JA K H1 W.ED) lw)) ?_ hc λz hz=>?_) (fw wf) rfl;.rw[e,ZE,ZE,ZA];lia
 .rcases ZI hz with h|h;(.exact .inl h);.obtain⟨l,_,rfl⟩:=ZN h;exact .inr ⟨l,rfl⟩
theorem WI.OL(x:WI CW C CP CI K H p W D m n al ys)(hn:n<60):W.ls.length<=360:=by have:=x.len;have:=x.lz;lia
theorem Jfa(x:WI CW C CP CI K H p W D m n al ys)(hn:n<60)(i:IH W h q G){g:Int}(g0:0<=g)(g1:g<m){b:Addr}{tb:T2}(eb:H b=some (.BC (tv tb)))(hb:tb∈G.hand)(k:KT CW C CP CI p K W m n ys H Q)(kE:E (.ref NW) none H):TC CW C CP CI NH Cn DO MI NW K p H Q E (.send h g b):=by
 obtain⟨s,nu⟩:=x.wg.BP i.2;have z1:=s.ok.oz;have z2:=s.ok.rz;have z3:=x.OL hn;have hN:((h.toNat:Nat):Int)=h:=BH i.1;have ig:∃q2 G2,IH W g q2 G2:=by obtain⟨y,hy⟩:=Au (xs:=W.qs) (j:=g.toNat) (by rw[x.wg.wl.len];lia);exact⟨y.1,y.2,g0,hy⟩
 refine⟨p,b,h,g,W,tb,q,G,rfl,x.wa,eb,i,ig,by lia,by lia,by lia,?_⟩;by_cases near:tb.1=G.BP;.have ho:=s.ok.hk tb hb near;refine .inr (.inl ⟨hb,near,_,Qh ho,BA.mpr λz hz=>?_,λt H1 W1 l1 FU=>?_⟩);(.have:=s.ok.rk z.1 (AI.mpr ⟨z,hz,rfl⟩);have:¬z.1=tb:=λe=>this (by rw[e];exact near);simpa using this);obtain⟨wg,st⟩:=x.wg.OS i.2 hb near g0 g1;rw[hN] at wg st;exact x.YS (G':=Xl G tb (Ag G.AF tb+W.share)) i W1 FU (λb hb=>.inl hb) (by show G.AZ<G.AZ+1;lia) (A' _) (by show G.AY<=G.AY+1;lia) (λt ht=>.inl (by rcases(Du _ _ _).2.2 t ht with h|h;(.rw[h];exact ho);.exact h)) wg st (by lia) (.cons l1 .nil) k _
 .have hr:=s.rk tb (.inl hb) near;have nn:=Iv s.nn tb;refine .inr (.inr ⟨hb,near,_,Qh hr,?_⟩);by_cases w0:Ag G.AM tb=0;(.exact .inl ⟨w0,kE⟩);.by_cases w1:Ag G.AM tb=1;(.refine .inr (.inl ⟨w1,λt H1 W1 l1 FU=>?_⟩);obtain⟨wg,st⟩:=x.wg.OR i.2 hb near g0 g1 w1;rw[hN] at wg st;exact x.YS (G':=Li G tb 0) i W1 FU (λb hb=>.inl hb) (by show G.AZ<G.AZ+1;lia) (A' _) (by show G.AY<=G.AY+1;lia) (λt ht=>.inl ht) wg st (by lia) (.cons l1 .nil) k _);·(have w2:2<=Ag G.AM tb:=by lia);refine .inr (.inr ⟨w2,λt H1 W1 l1 FU=>?_⟩);obtain⟨wg,st⟩:=x.wg.QJ i.2 hb near g0 g1 w2;rw[hN] at wg st;exact x.YS (G':=Li G tb (Ag G.AM tb-Ag G.AM tb / 2)) i W1 FU (λb hb=>.inl hb) (by show G.AZ<G.AZ+1;lia) (A' _) (by show G.AY<=G.AY+1;lia) (λt ht=>.inl ht) wg st (by lia) (.cons l1 .nil) k _
theorem Jc7(x:WI CW C CP CI K H p W D m n al ys)(hn:n<60)(i:IH W h q G)(k:KT CW C CP CI p K W m n ys H Q):TC CW C CP CI NH Cn DO MI NW K p H Q E (.clean h):=by
 obtain⟨s,nu⟩:=x.wg.BP i.2;have z3:=x.OL hn;have hN:((h.toNat:Nat):Int)=h:=BH i.1;obtain⟨hs,os,rs,IZ⟩:=(x.wg.wl.good (by lia) i.2).told;obtain⟨kk,R,hk,rc⟩:=FX.KQ.wq s.ok (by lia);have zb:(Bs (keepR G R) rs).length<=60:=by have h1:(Bs (keepR G R) rs).length<=(rs.filter λq=>!Bh (keepR G R) q.1).length:=AS _ _;have h2:=AS (λq:T2×Int=>!Bh (keepR G R) q.1) rs;have h3:=IZ.pr.length_eq;have h4:=s.ok.rz;lia
 refine⟨p,h,W,q,G,n,kk,rs,R,rfl,x.wa,i,s.ok,by lia,λt ht=>(s.ip t (.inl ht)).1,λz hz t ht=>(s.ip t (.inr ⟨z,hz,ht⟩)).1,IZ.pr,IZ.wr,rc,hk,FX.Ok.clean s.ok rc,zb,by lia,λy L H1 W1 bk FU aY aX ey=>?_⟩;obtain⟨wg,st⟩:=x.wg.clean i.2 rc IZ.pr;rw[hN] at wg st;exact x.YS (G':=Iy G R) i W1 FU (λb hb=>.inl (Iw b hb)) (by show G.AZ<G.AZ+1;lia) (A' _) (by show G.AY<=G.AY+1;lia) (λt ht=>.inl ((List.filter_sublist.map _).subset ht)) wg st (by lia) (C5 bk.MQ) k _
end
theorem Uc:∀{l1:List (Int×Addr)} {al:List LL},Paired R (l1++y::l2) al->∃(a:List LL)(z:LL)(b:List LL),al=a++z::b/\Paired R l1 a/\R y z/\Paired R l2 b
 | [],_,.cons r pr=>⟨[],_,_,rfl,.nil,r,pr⟩
 | _::l1,_,.cons r pr=>by obtain⟨a,z,b,e,p1,p2,p3⟩:=Uc pr;subst e;exact⟨_::a,z,b,rfl,.cons r p1,p2,p3⟩
section
theorem Ok.sz(ok:Ok G n)(hn:n<60):Sz G:=by grind [Ok,Sz]
theorem Vn(es:al=a++z::b)(lz:al.length<=(GB al).length+5*n):a.length+b.length<=(GB (a++b)).length+5*n:=by
 rw[es,Co] at lz;have e:GB (z::b)=(cM z).toList++GB b:=by unfold GB;rw[FK];cases cM z<;>rfl
 rw[e] at lz;rw[Co];simp only[ZE,BJ] at *;have:(cM z).toList.length<=1:=by cases cM z<;>simp
 lia
theorem WI.got(x:WI CW C CP CI K H p W D m n al ys)(i:IH W h q G)(es:al=a++z::b)(p1:Paired (JA K H W.ED) l1 a)(p3:Paired (JA K H W.ED) l2 b)(W1:AN CW C CP H1 p { W with qs:=W.qs.set h.toNat (q,G'),c:=c,ls:=l1++l2++L })(wf:F_ p W H H1)(nw:∀b∈BG G',b∈BG G\/H b=none)(tk:G.AZ<G'.AZ)(md:G.AY<=G'.AY)(mk:G'.AY<=G.AY+1)(ou:∀t∈G'.AF.map (·.1),t∈G.AF.map (·.1)\/0<=t.2)(wg:Wg D m (n+1) W.share (W.qs.set h.toNat (q,G')) (GB (a++b)++ls))(st:JJ W.qs (GB al) (W.qs.set h.toNat (q,G')) (GB (a++b)++ls))(hc:W.c<=c)(lw:Paired (λ(y:Int×Addr) (l:LT)=>II H1 y.2 y.1 l.kind l.s l.g l.th l.x) L ls)(mu:∀n u,Xn n u z=none/\dY n u z=none)(k:KT CW C CP CI p K W m n ys H Q)(v:V):Q v H1:=by
 have e:GB (a++b++ls.map .w)=GB (a++b)++ls:=by rw[Co,ng]
 have zl:=Vn es x.lz;have kt:=F_.DS x.wa wf;refine k v { W with qs:=W.qs.set h.toNat (q,G'),c:=c,ls:=l1++l2++L } D (a++b++ls.map .w) ys H1 (x.V_ (al':=a++b++ls.map .w) i.2 W1 wf nw tk md mk ou (by rw[e];exact wg) (by rw[e];exact st) (λn u=>?_) (λn u=>?_) (Cv (Cv (D6 p1 kt) (D6 p3 kt)) (C5 (f:=LL.w) (R:=JA K H1 W.ED) lw)) ?_ hc λz hz=>?_) (fw wf) rfl;.rw[Br,(K4 ls n u).1,AH,es,Br,Br,E5,(mu n u).1];rfl
 .rw[Bo,(K4 ls n u).2,AH,es,Bo,Bo,Dp,(mu n u).2];rfl
 .rw[e];simp only[ZE,ZA] at *;lia
 .rcases ZI hz with h|h;(.refine .inl ?_;rw[es];rcases ZI h with h|h;(.exact ZB _ h);.exact ZC _ (ZD _ h));.obtain⟨l,_,rfl⟩:=ZN h;exact .inr ⟨l,rfl⟩
theorem Jf3(es:al=a++LL.w l::b):GB al=GB a++l::GB b:=by rw[es,Co];rfl
theorem Jke(ok:IJ g0 l)(e:l.kind=kind)(np:kind≠"pass"):¬kind="pass"/\¬kind="ask"/\¬kind="answer"/\¬kind="let":=by
 obtain⟨_,_,_,kk⟩:=ok;rw[e] at kk;rcases kk with⟨e,_⟩|⟨e,_⟩|⟨e,_⟩|⟨e,_⟩;.rw[e];exact⟨ZV,ZV,ZV,ZV⟩
 .rw[e];exact⟨ZV,ZV,ZV,ZV⟩
 .rw[e];exact⟨ZV,ZV,ZV,ZV⟩
 .exact absurd e np
theorem Jan(x:WI CW C CP CI K H p W D m n al ys)(hn:n<60)(el:W.ls=l1++(BP,t)::l2)(es:al=a++LL.w l::b)(p1:Paired (JA K H W.ED) l1 a)(p2:JA K H W.ED (BP,t) (.w l))(p3:Paired (JA K H W.ED) l2 b)(k:KT CW C CP CI p K W m n ys H Q):TC CW C CP CI NH Cn DO MI NW K p H Q E (.deliver BP):=by
 have z3:=x.OL hn;have ew:=Jf3 es;have hl:l∈GB al:=by rw[ew];exact ZC _ (ZL ..)
 have jO:=x.wg.wl.ok _ hl;obtain⟨kind,sn,g,th,xx⟩:=l;obtain⟨g0,g1,ib,kk⟩:=jO;have g0:0<=g:=g0;have g1:g<m:=g1;obtain⟨⟨q,G⟩,hi⟩:=Au (xs:=W.qs) (j:=g.toNat) (by rw[x.wg.wl.len];lia);have i:IH W g q G:=⟨g0,hi⟩;obtain⟨s,nu⟩:=x.wg.BP i.2;have SE:(l1++l2).length<=400:=by rw[el,ZE,BJ] at z3;rw[ZE];lia
 have p2:II H t BP kind sn g th xx:=p2;obtain⟨a0,b0,et,_⟩:=id p2;refine⟨p,BP,W,l1,l2,t,BP,sn,g,kind,_,rfl,x.wa,el,et,λH1 W1 FU=>?_⟩;have MO:=F_.DS x.wa FU;have mu:∀n u,Xn n u (.w ⟨kind,sn,g,th,xx⟩)=none/\dY n u (.w ⟨kind,sn,g,th,xx⟩)=none:=λ_ _=>⟨rfl,rfl⟩;by_cases hp:kind="pass";.refine .inl ⟨hp,?_⟩;subst hp;(have gt:g=th.1:=by rcases kk with⟨e,_⟩|⟨e,_⟩|⟨e,_⟩|⟨_,e,_⟩;(.exact absurd e.symm C3);(.exact absurd e.symm D7);(.exact absurd e.symm D8);.exact e);subst gt;obtain⟨mem,p9,p_⟩:=x.wg.pass ew rfl hi;have mem:th∈G.AF.map (·.1):=mem;rw[<-Co] at p9 p_;refine⟨p,t,_,BP,sn,th.1,xx,th,q,G,rfl,W1,p2.keep MO,i,Ok.sz s.ok hn,mem,SE,?_⟩;by_cases same:xx=th.1;(.subst same;refine .inl ⟨rfl,λy t1 H2 W2 m1 MN aY aX ey=>?_⟩;obtain⟨wg,st⟩:=p9 rfl;exact x.got i (ls:=[⟨"more",th.1,sn,th,W.share⟩]) es p1 p3 W2 (λb o e hb=>MN b o (FU b o e hb) hb) (λb hb=>.inl hb) (by show G.AZ<G.AZ+1;lia) (A' _) (by show G.AY<=G.AY+1;lia) (λt ht=>.inl (Jy mem t ht)) wg st (by show W.c<=W.c+1;lia) (.cons m1 .nil) mu k _);.refine .inr ⟨same,λy t1 t2 H2 W2 m1 m2 MN aY aX ey=>?_⟩;obtain⟨wg,st⟩:=p_ same;rw[AW (GB (a++b))] at wg st;(have W2:AN CW C CP H2 p { W with qs:=W.qs.set th.1.toNat (q,F4 G th W.share false),c:=W.c+1+1,ls:=l1++l2++([(W.c+1,t1)]++[(W.c+1+1,t2)]) }:=by rw[<-AW];exact W2);have lw:Paired (λ(y:Int×Addr)(l:LT)=>II H2 y.2 y.1 l.kind l.s l.g l.th l.x) [(W.c+1,t1),(W.c+1+1,t2)] [⟨"hold",th.1,xx,th,W.share⟩,⟨"more",th.1,sn,th,W.share⟩]:=.cons m1 (.cons m2 .nil);exact x.got i (ls:=[(⟨"hold",th.1,xx,th,W.share⟩:LT)]++[(⟨"more",th.1,sn,th,W.share⟩:LT)]) es p1 p3 W2 (λb o e hb=>MN b o (FU b o e hb) hb) (λb hb=>.inl hb) (by show G.AZ<G.AZ+1;lia) (A' _) (by show G.AY<=G.AY+1;lia) (λt ht=>.inl (Jy mem t ht)) wg st (by show W.c<=W.c+1+1;lia) lw mu k _
 .obtain⟨G',wt,wg,st⟩:=x.wg.wt ew hp hi;rw[<-Co] at wg st;have wt:Wt kind G th xx G':=wt;refine .inr (.inr (.inr (.inr ⟨Jke (x.wg.wl.ok _ hl) rfl hp,p,t,_,BP,sn,g,kind,th,xx,q,G,G',rfl,W1,p2.keep MO,i,wt,Ok.sz s.ok hn,λH2 W2 MN r hr=>?_⟩)));have s3:=Ai (o:=.BI []) hr;obtain⟨_,_,h3,_,h5,_,h6,_⟩:=wt.gD;(have W2:AN CW C CP H2 p { W with qs:=W.qs.set g.toNat (q,G'),c:=W.c,ls:=l1++l2++[] }:=by rw[AH];exact W2);exact x.got i (ls:=[]) es p1 p3 (W2.same s3) (λb o e hb=>s3 _ _ (MN b o (FU b o e hb) hb)) (λb hb=>.inl (by rw[<-wt.BG];exact hb)) (by lia) (by lia) (by lia) (λt ht=>.inl (h6 t ht)) (by rw[AH];exact wg) (by rw[AH];exact st) (A' _) .nil mu k _
theorem Jha(x:WI CW C CP CI K H p W D m n al ys)(hn:n<60)(el:W.ls=l1++(BP,t)::l2)(es:al=a++LL.lt s g ts::b)(p1:Paired (JA K H W.ED) l1 a)(p2:JA K H W.ED (BP,t) (.lt s g ts))(p3:Paired (JA K H W.ED) l2 b)(k:KT CW C CP CI p K W m n ys H Q):TC CW C CP CI NH Cn DO MI NW K p H Q E (.deliver BP):=by
 have z3:=x.OL hn;have ew:GB al=GB (a++b):=by rw[es,Co,Co];rfl
 obtain⟨g0,g1,F,sF,fD,ht⟩:=x.lt s g ts (by rw[es];exact ZC _ (ZL ..));obtain⟨⟨q,G⟩,hi⟩:=Au (xs:=W.qs) (j:=g.toNat) (by rw[x.wg.wl.len];lia);have i:IH W g q G:=⟨g0,hi⟩;obtain⟨sd,nu⟩:=x.wg.BP i.2;have hN:((g.toNat:Nat):Int)=g:=BH g0;have SE:(l1++l2).length<=400:=by rw[el,ZE,BJ] at z3;rw[ZE];lia
 have p2:QC H t BP s g ts:=p2;obtain⟨a0,uQ,et,_⟩:=id p2;refine⟨p,BP,W,l1,l2,t,BP,s,g,"let",_,rfl,x.wa,el,et,λH1 W1 FU=>?_⟩;have MO:=F_.DS x.wa FU;refine .inr (.inr (.inr (.inl ⟨rfl,?_⟩)));obtain⟨hs,os,rs,IZ⟩:=(x.wg.wl.good (by lia) i.2).told;obtain⟨wg,st,jG⟩:=x.wg.ot i.2 sF fD (by rw[hN];exact ht) IZ.pr;rw[hN,ew] at wg st;have zb:(Bs (Al G ts) rs).length<=60:=by have h1:(Bs (Al G ts) rs).length<=(rs.filter λq=>!Bh (Al G ts) q.1).length:=AS _ _;have h2:=AS (λq:T2×Int=>!Bh (Al G ts) q.1) rs;have h3:=IZ.pr.length_eq;have h4:=sd.ok.rz;lia
 refine⟨p,t,_,BP,s,g,ts,q,G,n,rs,rfl,W1,p2.keep MO,i,sd.ok,by lia,λt ht=>(sd.ip t (.inl ht)).1,λz hz t ht=>(sd.ip t (.inr ⟨z,hz,ht⟩)).1,IZ.pr,IZ.wr,jG,zb,SE,λy L H2 W2 bk MN aY aX ey=>?_⟩;exact x.got (G':=Vv G ts) i es p1 p3 W2 (λb o e hb=>MN b o (FU b o e hb) hb) (λb hb=>.inl (On b hb)) (by show G.AZ<G.AZ+1;lia) (A' _) (by show G.AY<=G.AY+1;lia) (λt ht=>.inl ((List.filter_sublist.map _).subset ht)) wg (by rw[ew];exact st) (by show W.c<=W.c+_;lia) (C5 bk.MQ) (λ_ _=>⟨rfl,rfl⟩) k _
end
theorem vJ:∀{l:List (T2×α)},(l.map (·.1)).Nodup->∀{a b:T2×α},a∈l->b∈l->a.1=b.1->a=b
 | [],_,a,b,ha,_,_=>by cases ha
 | c::l,nd,a,b,ha,hb,e=>by rw[AK] at nd;obtain⟨n1,n2⟩:=AV.mp nd;rcases ZM ha with ha|ha;(.rcases ZM hb with hb|hb;(.rw[ha,hb]);.exact absurd (AI.mpr ⟨b,hb,by rw[<-e,ha]⟩) n1);.rcases ZM hb with hb|hb;(.exact absurd (AI.mpr ⟨a,ha,by rw[e,hb]⟩) n1);.exact vJ n2 ha hb e
section
variable {G:BS}{hs:List T2}{os:List (T2×Int×List T2)}{rs:List (T2×Int)}{n:Nat}
theorem Told.aQ(t:Told G hs os rs)(ok:Ok G n):Zk G (hs,os,rs):=by
 have kn:(G.holds.map (·.1)).Nodup:=nK ok;refine⟨λu hu=>t.pm.mem_iff.mpr hu,λu hu=>?_,λr hr=>⟨?_,?_⟩,λr hr q hq e u hu=>?_,λu=>?_⟩;.obtain⟨r,hr,e⟩:=ZN (t.RS.pm.mem_iff.mpr hu);exact⟨r,hr,e⟩
 .exact t.RS.pm.mem_iff.mp (AI.mpr ⟨r,hr,rfl⟩)
 .unfold Ag;rw[(t.RS.at_ r hr).1];rfl
 .obtain⟨_,a,hl,f,_,pm,_⟩:=t.RS.at_ r hr;refine pm.mem_iff.mpr ?_;have f2:=DK f;have m2:=AX f;(have:q=(r.1,a,hl):=by have h1:q.1=(r.1,a,hl).1:=e;exact vJ kn hq m2 h1);rw[this] at hu;exact hu
 .have nd:(rs.map (·.1)).Nodup:=(t.pr.map _).nodup_iff.mpr ok.rn;show Ey u rs=_;rw[My nd,Kh t.pr ok.rn]
theorem Told.jB(t:Told G hs os rs)(ok:Ok G n)(hn:n<=60)(ob:∀t∈G.AF.map (·.1),0<=t.2):fj G.BP (hs,os,rs)/\∀w∈os,w.1.2<G.AY:=by
 have h1:=t.pm.length_eq;have h2:=t.pr.length_eq;have z1:=ok.hz;have z2:=ok.rz;have key:∀w∈os,w.1∈G.AF.map (·.1):=λw hw=>t.RS.pm.mem_iff.mp (AI.mpr ⟨w,hw,rfl⟩);refine⟨⟨?_,by show hs.length<=60;lia,by show rs.length<=60;lia,λw hw=>⟨(ok.new w.1 (key w hw)).1,ob _ (key w hw),?_⟩⟩,λw hw=>(ok.new w.1 (key w hw)).2⟩;.exact t.RS.pm.nodup_iff.mpr ok.on
 .obtain⟨_,a,hl,f,_,pm,_⟩:=t.RS.at_ w hw;have:=(ok.ln _ (AX f)).2;have:=pm.length_eq;(have e:hl.length<=n:=by assumption);lia
theorem Told.tells(t:Told G hs os rs)(ok:Ok G n)(hn:n<=60):Tells G hs os rs:=by have z1:=ok.hz;have z2:=ok.rz;have z3:=ok.oz;exact⟨by lia,by lia,by lia,t.pm,t.pw,t.RS,t.pr,t.wr⟩
end
theorem Y5(kn:∀z∈al,Kn ns z)(h:n∉ns)(u:Int):Cg al n u=[]/\B4 al n u=[]:=by
 refine⟨E_.mpr λz hz=>?_,E_.mpr λz hz=>?_⟩;.have k:=kn z hz;cases z with | ask s g n' u'=>exact AB λz=>h (by rw[<-z.1];exact k.1) | w l=>rfl | LP s g n' u' tk S=>rfl | lt s g ts=>rfl
 .have k:=kn z hz;cases z with | LP s g n' u' tk S=>exact AB λz=>h (by rw[<-z.1];exact k.1) | w l=>rfl | ask s g n' u'=>rfl | lt s g ts=>rfl
section
theorem NK.pe(x:NK m qs ls al n fi se)(hu:u=1\/u=2)(h:g∈Cg al n u):0<=g/\g<m:=by
 rcases hu with rfl|rfl;.exact MZ.mp (x.t1.mem_iff.mp (ZB _ (ZB _ h)))
 .rcases x.t2 with⟨_,e,_⟩|⟨_,pm⟩;(.rw[e] at h;cases h);.exact MZ.mp (pm.mem_iff.mp (ZB _ (ZB _ h)))
end
theorem Wg.up(x:Wg D m n sh qs ls):Wg D m (n+1) sh qs ls:=⟨x.wl.up,x.sD,x.rc⟩
section
theorem Jc8(x:WI CW C CP CI K H p W D m n al ys)(hn:n<60)(el:W.ls=l1++(BP,t)::l2)(es:al=a++LL.ask s g n' u::b)(p1:Paired (JA K H W.ED) l1 a)(p2:JA K H W.ED (BP,t) (.ask s g n' u))(p3:Paired (JA K H W.ED) l2 b)(k:KT CW C CP CI p K W m n ys H Q):TC CW C CP CI NH Cn DO MI NW K p H Q E (.deliver BP):=by
 have z3:=x.OL hn;have z4:=x.ez;have hz:LL.ask s g n' u∈al:=by rw[es];exact ZC _ (ZL ..)
 obtain⟨k1,ku⟩:=x.kn _ hz;obtain⟨y0,jS,fK⟩:=ZN k1;have mg:g∈Cg al n' u:=IC.mpr ⟨_,hz,AE ⟨rfl,rfl⟩⟩;obtain⟨g0,g1⟩:=(x.iv y0 jS).pe ku (by rw[fK];exact mg);obtain⟨⟨q,G⟩,hi⟩:=Au (xs:=W.qs) (j:=g.toNat) (by rw[x.wg.wl.len];lia);have i:IH W g q G:=⟨g0,hi⟩;obtain⟨sd,nu⟩:=x.wg.BP i.2;have hN:((g.toNat:Nat):Int)=g:=BH g0;have SE:(l1++l2).length<=400:=by rw[el,ZE,BJ] at z3;rw[ZE];lia
 have p2:MY H t BP "ask" s g n' u:=p2;obtain⟨a0,et,_⟩:=id p2;refine⟨p,BP,W,l1,l2,t,BP,s,g,"ask",_,rfl,x.wa,el,et,λH1 W1 FU=>?_⟩;have MO:=F_.DS x.wa FU;refine .inr (.inl ⟨rfl,?_⟩);obtain⟨hs,os,rs,IZ⟩:=(x.wg.wl.good (by lia) i.2).told;refine⟨p,t,_,BP,s,g,n',u,q,G,hs,os,rs,rfl,W1,p2.keep MO,i,IZ.tells sd.ok (by lia),SE,by show W.ED.length<=400;lia,λe he=>by have:=x.ec e he;show e.1≠W.c+1;lia,λy t1 e xs H2 W2 m6 he st MN _ _ _=>?_⟩;have wf:F_ p W H H2:=λb o e hb=>MN b o (FU b o e hb) hb;have kt:=F_.DS x.wa wf;have ew:GB (a++b++[.LP g s n' u G.AZ (hs,os,rs)])=GB al:=by rw[es,Co,Co,Co];show _++_++[]=_;rw[AH];rfl
 have zl:=Vn es x.lz;have mo:∀{L:List (Int×Addr)} {c:List LL},Paired (JA K H W.ED) L c->Paired (JA K H2 (W.ED++[(W.c+1,e)])) L c:=λpp=>As (λ_ _ r=>(r.keep kt).more λe he=>ZB _ he) pp;have VW:∀z∈a++b++[LL.LP g s n' u G.AZ (hs,os,rs)],z∈al\/z=LL.LP g s n' u G.AZ (hs,os,rs):=λz hz=>by rcases ZI hz with h|h;(.refine .inl ?_;rw[es];rcases ZI h with h|h;(.exact ZB _ h);.exact ZC _ (ZD _ h));.exact .inr (ZK h)
 obtain⟨jB,nw⟩:=IZ.jB sd.ok (by lia) (x.ob _ _ _ hi);rw[nu,hN] at jB;have a1:=x.md;have a3:=x.fz;have a4:=x.iz;refine k _ { W with c:=W.c+1,ls:=l1++l2++[(W.c+1,t1)],ED:=W.ED++[(W.c+1,e)] } D (a++b++[.LP g s n' u G.AZ (hs,os,rs)]) ys H2 ⟨W2,by rw[ew];exact x.wg.up,by show Fe W.qs<=_;lia,x.ob,x.m1,x.m5,?_,?_,?_,?_,by show W.IG.length<=n+1;lia,?_,by lia,x.iq,x.cp,x.nd,x.off,λy hy=>x.TJ wf hy,λy hy=>?_,λz hz=>?_,x.ff,λs g ts hz=>?_⟩ (fw wf) rfl;.exact Cv (Cv (mo p1) (mo p3)) (.cons ⟨m6,e,xs,ZC _ (DM.mpr rfl),he,st⟩ .nil)
 .show((W.ED++[(W.c+1,e)]).map (·.1)).Nodup;rw[ZF];refine AO.mpr ⟨x.en,by simp,λu hu v hv z=>?_⟩;obtain⟨w,hw,ew⟩:=ZN hu;have:=x.ec w hw;have hv:v=W.c+1:=ZK hv;lia
 .intro w hw;have hw:w∈W.ED++[(W.c+1,e)]:=hw;show w.1<=W.c+1;rcases ZI hw with hw|hw;(.have:=x.ec w hw;lia);.rw[ZK hw];exact A' _
 .show(W.ED++[(W.c+1,e)]).length<=n+1;rw[ZE];show W.ED.length+1<=n+1;lia
 .rw[ew];(have e2:al.length=a.length+(b.length+1):=by rw[es];simp);have:=x.lz;simp only[ZE,BJ,BN];lia
 .rw[ew];exact(x.iv y hy).asked es g0 hi rfl (IZ.aQ sd.ok) jB nw
 .rcases VW z hz with h|rfl;(.exact x.kn z h);.exact⟨k1,ku⟩
 .rcases VW _ hz with h|h;(.rw[ew];exact x.lt s g ts h);.cases h
theorem WI.cG(x:WI CW C CP CI K H p W D m n al ys):∀y∈ys,1<=y.n/\y.n<=(ys.length:Int):=λy hy=>by have:y.n∈ys.map (·.n):=AI.mpr ⟨y,hy,rfl⟩;rw[x.cp] at this;obtain⟨j,hj,e⟩:=ZN this;have:=BQ.mp hj;lia
theorem Jhb(x:WI CW C CP CI K H p W D m n al ys)(hn:n<60)(i:IH W h q G)(k:KT CW C CP CI p K W m n ys H Q):TC CW C CP CI NH Cn DO MI NW K p H Q E (.ask h):=by
 have z3:=x.OL hn;have a1:=x.md;have a2:=x.ez;have a3:=x.fz;have a4:=x.iz;have a5:=x.m5;have a6:=x.lz;have c_:W.qs.length=m:=x.wg.wl.len;have fV:W.JX.length=ys.length:=by rw[x.iq,ZA]
 have Z_:(ys.length:Int)+1∉ys.map (·.n):=λz=>by obtain⟨y,hy,e⟩:=ZN z;have:=x.cG y hy;lia
 refine⟨p,h,W,q,G,rfl,x.wa,i,by lia,by lia,by lia,λl hl e=>?_,λio I L H1 W1 m7 VO oV EE im is ko ic wf=>?_⟩;.rw[fV] at e;rw[x.iq] at hl;obtain⟨y,hy,e2⟩:=ZN hl;rw[<-e2] at e;exact Z_ (AI.mpr ⟨y,hy,e⟩)
 rw[c_] at m7;rw[fV] at W1 m7;have kt:=F_.DS x.wa wf;have ew:GB (al++Dy m h ((ys.length:Int)+1) 1)=GB al:=by rw[Co,Zg,AH]
 let y1:Qy:=⟨(ys.length:Int)+1,io,I,[],[]⟩;have VW:∀z∈al++Dy m h ((ys.length:Int)+1) 1,z∈al\/∃g,z=LL.ask h g ((ys.length:Int)+1) 1:=λz hz=>by rcases ZI hz with h|h;(.exact .inl h);.obtain⟨j,_,e⟩:=ZN h;exact .inr ⟨_,e.symm⟩
 have atY:OM CI K H1 m y1:=⟨VO,by show I.m=_;rw[im,c_],ko,ic,by show Paired _ I.ss [];rw[is];exact .nil⟩;have xO:(Ee y1).Nodup:=by obtain⟨dx,e⟩:=VO.ob;(have n1:io≠I.sd:=λz=>by rw[z,VO.s] at e;cases e);(have n2:io≠I.fd:=λz=>by rw[z,VO.f] at e;cases e);(have n3:io≠I.cd:=λz=>by rw[z,VO.c] at e;cases e);show [io,I.sd,I.fd,I.cd].Nodup;simp[n1,n2,n3,VO.sf,VO.sc,VO.fc]
 refine k _ { W with JX:=W.JX++[((ys.length:Int)+1,io)],c:=W.c+(W.qs.length:Nat),ls:=W.ls++L } D (al++Dy m h ((ys.length:Int)+1) 1) (ys++[y1]) H1 ⟨W1,by rw[ew];exact x.wg.up,by show Fe W.qs<=_;lia,x.ob,x.m1,x.m5,?_,x.en,λe he=>?_,by show W.ED.length<=n+1;lia,by show W.IG.length<=n+1;lia,?_,?_,?_,?_,?_,λy hy=>?_,λy hy=>?_,λy hy=>?_,λz hz=>?_,λe he=>?_,λs g ts hz=>?_⟩ (fw wf) rfl;.exact Cv (D6 x.lw kt) (C5 (f:=λi:Nat=>LL.ask h (i:Int) ((ys.length:Int)+1) 1) (R:=JA K H1 W.ED) m7.MQ)
 .have:=x.ec e he;show e.1<=W.c+(W.qs.length:Nat);lia
 .rw[ew,ZE];(have:(Dy m h ((ys.length:Int)+1) 1).length=m:=by unfold Dy;rw[ZA,BV]);lia
 .rw[ZE];show ys.length+1<=n+1;lia
 .show W.JX++_=_;rw[x.iq,ZF];rfl
 .rw[ZF,ZE,x.cp];show _++[(ys.length:Int)+1]=(List.range (ys.length+1)).map _;rw[DT,ZF];rfl
 .rw[CD];refine AO.mpr ⟨x.nd,by simpa using xO,λu hu v hv z=>?_⟩;obtain⟨y,hy,hb⟩:=D_.mp hu;obtain⟨o,e,_⟩:=(x.at_ y hy).has hb;(have hv:v∈Ee y1:=by simpa using hv);have:=EE v (ET.mp hv);rw[<-z,e] at this;cases this
 .rcases ZI hy with hy|hy;(.exact x.off y hy);.rw[ZK hy];exact λb hb=>oV b (ET.mp hb)
 .rcases ZI hy with hy|hy;(.exact x.TJ wf hy);.rw[ZK hy];exact atY
 .rcases ZI hy with hy|hy;(.have ne:¬(ys.length:Int)+1=y.n:=λz=>Z_ (AI.mpr ⟨y,hy,z.symm⟩);refine(x.iv y hy).bg (λu=>?_) (λu=>?_) (by rw[ew];exact JJ.refl _ _);(.rw[Br,Ge,AB (λz=>ne z.1),AH]);.rw[Bo,Hx,AH]);.rw[ZK hy];exact Jl7 x.m1 (λu=>(Y5 x.kn Z_ u).1) (λu=>(Y5 x.kn Z_ u).2) h
 .rcases VW z hz with h|⟨g,rfl⟩;(.have kz:=x.kn z h;rw[ZF];cases z with | w l=>trivial | ask s g n' u=>exact⟨ZB _ kz.1,kz.2⟩ | LP s g n' u tk S=>exact⟨ZB _ kz.1,kz.2⟩ | lt s g ts=>trivial);.exact⟨AI.mpr ⟨y1,ZC _ (DM.mpr rfl),rfl⟩,.inl rfl⟩
 .obtain⟨y,hy,e1,e2⟩:=x.ff e he;exact⟨y,ZB _ hy,e1,e2⟩
 .rcases VW _ hz with h|⟨_,h⟩;(.rw[ew];exact x.lt s g ts h);.cases h
end
theorem Nm:∀{as:List α} {bs:List β},(∀a∈as,∀b,R a b->S a b)->Paired R as bs->Paired S as bs
 | _,_,_,.nil=>.nil
 | _,_,h,.cons r p=>.cons (h _ (ZL ..) _ r) (Nm (λa ha=>h a (ZD _ ha)) p)
section
variable {CW C CP CI NH NL Cn DO MI NW p:Addr}{K:W.Frag}{H H2:Hp}{W:FZ}{D D':T2->Prop}{m n:Nat}{al a b new:List LL}{ys i1 i2:List Qy}{y y':Qy}
theorem Jc2(ey:ys=i1++y::i2)(nd:(ys.flatMap Ee).Nodup):∀z,(z∈i1\/z∈i2)->∀b∈Ee z,b∉Ee y:=λz hz b hb sI=>by rw[ey,CD,CA] at nd;obtain⟨_,n2,n3⟩:=AO.mp nd;rcases hz with hz|hz;(.exact n3 b (D_.mpr ⟨z,hz,hb⟩) b (ZB _ sI) rfl);.exact(AO.mp n2).2.2 b sI b (D_.mpr ⟨z,hz,hb⟩) rfl
theorem Se(ey:ys=i1++y::i2)(nd:(ys.map (·.n)).Nodup):∀z,(z∈i1\/z∈i2)->z.n≠y.n:=λz hz e=>by rw[ey,ZF,AK] at nd;obtain⟨_,n2,n3⟩:=AO.mp nd;rcases hz with hz|hz;(.exact n3 z.n (AI.mpr ⟨z,hz,rfl⟩) y.n (ZL ..) e);.exact(AV.mp n2).1 (AI.mpr ⟨z,hz,e⟩)
theorem WI.jM(x:WI CW C CP CI K H p W D m n al ys):(ys.map (·.n)).Nodup:=by rw[x.cp];unfold List.Nodup;rw[EG];exact List.Pairwise.imp (λ{a b} (h:a<b)=>by lia) NS
theorem WI.answer(x:WI CW C CP CI K H p W D m n al ys){BP s g u tick:Int}{S:HS}{t e:Addr}{l1 l2 L e1 e2 XC:List (Int×Addr)}{c':Int}(el:W.ls=l1++(BP,t)::l2)(es:al=a++.LP s g y.n u tick S::b)(p1:Paired (JA K H W.ED) l1 a)(p3:Paired (JA K H W.ED) l2 b)(ey:ys=i1++y::i2)(ee:W.ED=e1++(BP,e)::e2)(W2:AN CW C CP H2 p { W with c:=c',ls:=l1++l2++L,ED:=e1++e2,IG:=XC })(fr:QZ p W y.I H H2)(en:y'.n=y.n)(eo:y'.io=y.io)(qf:Ee y'=Ee y)(at2:OM CI K H2 m y')(hc:W.c<=c')(hw:Wg D' m n W.share W.qs (GB al))(hD:∀t,D t->D' t)(lw:Paired (JA K H2 (e1++e2)) L new)(nz:new.length<=5)(jH:GB new=[])(xI:∀z∈new,Kn (ys.map (·.n)) z)(xS:∀k u,k≠y.n->Cg new k u=[])(nan:∀k u,B4 new k u=[])(xD:∀s g ts,LL.lt s g ts∈new->0<=g/\g<m/\∃F,MV W.qs (GB al) F/\(∀t,F t->D' t)/\∀t,t∈ts↔(F t/\t.1=g))(xw:NK m W.qs (GB al) (a++b++new) y'.n y'.fi y'.se)(zE:∀e∈XC,e∈W.IG\/(e.1=y.n/\y'.se.length=m))(zA:XC.length<=n+1)(se:y.se.length=m->y'.se.length=m) : WI CW C CP CI K H2 p { W with c:=c',ls:=l1++l2++L,ED:=e1++e2,IG:=XC } D' m (n+1) (a++b++new) (i1++y'::i2)/\jt p W ys H H2:=by
 have hy:y∈ys:=by rw[ey];exact ZC _ (ZL ..)
 have kt:BU H H2:=QZ.DS x.wa (x.at_ y hy).at_ fr;have ew:GB (a++b++new)=GB al:=by rw[es,Co,Co,jH,Co,AH];rfl
 have em:∀{α:Type} (f:Qy->α),f y'=f y->(i1++y'::i2).map f=ys.map f:=λf ef=>by rw[ey,ZF,AK,ZF,AK,ef]
 have tQ:=em (·.n) en;have cX:=x.wa.po.nd;rw[el,ZF,AK] at cX;obtain⟨_,xG,xF⟩:=AO.mp cX;have xR:∀z∈l1,z.1≠BP:=λz hz=>xF z.1 (AI.mpr ⟨z,hz,rfl⟩) BP (ZL ..);have cY:∀z∈l2,z.1≠BP:=λz hz q=>(AV.mp xG).1 (AI.mpr ⟨z,hz,q⟩);have mo:∀{L:List (Int×Addr)} {c:List LL},(∀z∈L,z.1≠BP)->Paired (JA K H W.ED) L c->Paired (JA K H2 (e1++e2)) L c:=λXU pp=>Nm (λz hz r hr=>(hr.keep kt).more λe' r9=>by rw[ee] at r9;rcases ZI r9 with h|h;(.exact ZB _ h);.rcases ZM h with h|h;(.exact absurd (Prod.mk.inj h).1 (XU z hz));.exact ZC _ h) pp;have mid:∀z∈i1++y'::i2,z=y'\/(z∈ys/\(z∈i1\/z∈i2)):=λz hz=>by rcases ZI hz with h|h;(.exact .inr ⟨by rw[ey];exact ZB _ h,.inl h⟩);.rcases ZM h with h|h;(.exact .inl h);.exact .inr ⟨by rw[ey];exact ZC _ (ZD _ h),.inr h⟩
 have gO:∀z∈a++b++new,z∈al\/z∈new:=λz hz=>by rcases ZI hz with h|h;(.refine .inl ?_;rw[es];rcases ZI h with h|h;(.exact ZB _ h);.exact ZC _ (ZD _ h));.exact .inr h
 have bQ:(e1++e2).Sublist W.ED:=by rw[ee];exact List.Sublist.append_left (List.sublist_cons_self _ _) _
 have a1:=x.md;have a2:=x.ez;have a4:=x.iz;have a5:=bQ.length_le;have eqf:(i1++y'::i2).flatMap Ee=ys.flatMap Ee:=by rw[ey,CD,CA,CD,CA,qf]
 refine⟨⟨W2,by rw[ew];exact hw.up,by show Fe W.qs<=_;lia,x.ob,x.m1,x.m5,Cv (Cv (mo xR p1) (mo cY p3)) lw,x.en.sublist (bQ.map _),λe he=>Int.le_trans (x.ec e (bQ.subset he)) hc,by show(e1++e2).length<=n+1;lia,zA,?_,?_,?_,?_,by rw[eqf];exact x.nd,λz hz=>?_,λz hz=>?_,λz hz=>?_,λz hz=>?_,λe he=>?_,λs g ts hz=>?_⟩,?_⟩;.rw[ew];(have e2:al.length=a.length+(b.length+1):=by rw[es];simp);have:=x.lz;simp only[ZE];lia
 ·(have:(i1++y'::i2).length=ys.length:=by rw[ey];simp);lia
 .show W.JX=_;rw[x.iq];exact(em (λy=>(y.n,y.io)) (by rw[en,eo])).symm
 ·(have:(i1++y'::i2).length=ys.length:=by rw[ey];simp);rw[tQ,x.cp,this]
 .rcases mid z hz with rfl|⟨h,_⟩;(.rw[qf];exact x.off y hy);.exact x.off z h
 .rcases mid z hz with rfl|⟨h,h2⟩;(.exact at2);.refine(x.at_ z h).keep (λb o hb eb=>?_) kt;have nb:=Jc2 ey x.nd z h2 b hb;exact fr b o eb (x.off z h b hb) (λq=>nb (ET.mpr (.inr (.inl q)))) (λq=>nb (ET.mpr (.inr (.inr (.inl q))))) (λq=>nb (ET.mpr (.inr (.inr (.inr q)))))
 .rcases mid z hz with rfl|⟨h,h2⟩;(.rw[ew];exact xw);.have ne:=Se ey x.jM z h2;refine(x.iv z h).bg (λv=>?_) (λv=>?_) (by rw[ew];exact JJ.refl _ _);(.rw[Br,xS _ _ ne,AH,es,Br,Br,E5];rfl);.rw[Bo,nan,AH,es,Bo,Bo,Dp];show _=_++((if y.n=z.n/\u=v then some (s,tick,S) else none).toList++_);rw[AB λq=>ne q.1.symm];rfl
 .rw[tQ];rcases gO z hz with h|h;(.exact x.kn z h);.exact xI z h
 .rcases zE e he with h|⟨h1,h2⟩;(.obtain⟨z,hz,q1,q2⟩:=x.ff e h;rw[ey] at hz;rcases ZI hz with hz|hz;(.exact⟨z,ZB _ hz,q1,q2⟩);.rcases ZM hz with rfl|hz;(.exact⟨y',ZC _ (ZL ..),by rw[en];exact q1,se q2⟩);.exact⟨z,ZC _ (ZD _ hz),q1,q2⟩);.exact⟨y',ZC _ (ZL ..),by rw[en];exact h1.symm,h2⟩
 .rw[ew];rcases gO _ hz with h|h;(.obtain⟨g0,g1,F,sF,fD,ht⟩:=x.lt s g ts h;exact⟨g0,g1,F,sF,λt ft=>hD t (fD t ft),ht⟩);.exact xD s g ts h
 .intro b o eb h1 h2;have hq:b∉Ee y:=λq=>h2 (D_.mpr ⟨y,hy,q⟩);exact fr b o eb h1 (λq=>hq (ET.mpr (.inr (.inl q)))) (λq=>hq (ET.mpr (.inr (.inr (.inl q))))) (λq=>hq (ET.mpr (.inr (.inr (.inr q)))))
end
def WV(qs:List (Addr×BS))(h:Nat):Int:=(qs[h]?.map λq=>q.2.AY).getD 0
theorem N6:∀{qs:List (Addr×BS)},(∀q∈qs,0<=q.2.AY)->((((List.range qs.length).map λh=>(WV qs h).toNat).sum:Nat):Int)=Fe qs
 | [],_=>by simp[Fe]
 | q::qs,nn=>by have ih:=N6 (qs:=qs) λz hz=>nn z (ZD _ hz);rw[BJ,List.range_succ_eq_map];simp only[AK,AR,DH];(have e1:((λh=>(WV (q::qs) h).toNat) ∘ Nat.succ)=λh=>(WV qs h).toNat:=by funext h;simp[WV]);rw[e1];(have e2:WV (q::qs) 0=q.2.AY:=by simp[WV]);have:=nn q (ZL ..);rw[e2];show _=q.2.AY+Fe qs;lia
def j_(m:Nat)(mx:Nat->Nat):List T2:=(List.range m).flatMap λk:Nat=>(List.range (mx k)).map λj:Nat=>(((k:Int),(j:Int)):T2)
theorem Jdq(m:Nat)(mx:Nat->Nat):(j_ m mx).length=((List.range m).map mx).sum:=by simp_all [j_]
theorem Oo{α:Type}{f:HS->List α}{c:Nat}:∀{L:List HS},(∀S∈L,(f S).length<=c)->(L.flatMap f).length<=L.length*c
 | [],_=>by simp
 | S::L,h=>by have ih:=Oo (f:=f) (c:=c) (L:=L) λz hz=>h z (ZD _ hz);have:=h S (ZL ..);rw[CA,ZE,BJ,Nat.succ_mul];lia
theorem Yj:∀{ks:List Nat},ks.Nodup->(∀k∈ks,fj (k:Int) (S k))->((rowsOf (ks.map S)).map (·.1)).Nodup
 | [],_,_=>by simp[rowsOf]
 | k::ks,nd,h=>by obtain⟨n1,n2⟩:=AV.mp nd;have ih:=Yj (S:=S) n2 λz hz=>h z (ZD _ hz);have so:=h k (ZL ..);(have e:rowsOf ((k::ks).map S)=(S k).2.1++rowsOf (ks.map S):=by unfold rowsOf;rw[AK,CA]);rw[e,ZF];refine AO.mpr ⟨so.nd,ih,λu hu v hv z=>?_⟩;obtain⟨r,hr,e1⟩:=ZN hu;obtain⟨r2,NB,e2⟩:=ZN hv;obtain⟨S2,hS,UU⟩:=KC.mp NB;obtain⟨k2,rp,e3⟩:=ZN hS;have c1:=(so.oz r hr).1;subst e3;have c2:=((h k2 (ZD _ rp)).oz r2 UU).1;(have:k=k2:=by rw[e1] at c1;rw[e2] at c2;rw[z] at c1;lia);rw[this] at n1;exact n1 rp
theorem Je7{ks:List Nat}{S:Nat->HS}{mx:Nat->Nat}{m:Nat}(nd:ks.Nodup)(kz:ks.length<=5)(km:∀k∈ks,k<m)(so:∀k∈ks,fj (k:Int) (S k))(nw:∀k∈ks,∀w∈(S k).2.1,w.1.2<mx k)(sm:((List.range m).map mx).sum<=60):K61F.RC (ks.map S):=by
 have UQ:=Yj nd so;refine⟨UQ,?_,?_,λr hr=>?_,?_⟩;·(have:=Ip (U:=j_ m mx) UQ λt ht=>by obtain⟨r,hr,e⟩:=ZN ht;obtain⟨S2,hS,NB⟩:=KC.mp hr;obtain⟨k,hk,e2⟩:=ZN hS;subst e2;obtain⟨c1,c2,_⟩:=(so k hk).oz r NB;have c3:=nw k hk r NB;rw[e] at c1 c2 c3;refine D_.mpr ⟨k,BQ.mpr (km k hk),AI.mpr ⟨t.2.toNat,BQ.mpr (by lia),?_⟩⟩;exact Prod.ext c1.symm (by show((t.2.toNat:Nat):Int)=t.2;lia));rw[Jdq,ZA] at this;lia
 ·(have:=Oo (f:=λS=>S.1) (c:=60) (L:=ks.map S) λz hz=>by obtain⟨k,hk,e2⟩:=ZN hz;subst e2;exact(so k hk).hz);rw[ZA] at this;have:ks.length*60<=5*60:=FC 60 kz;lia
 .obtain⟨S2,hS,NB⟩:=KC.mp hr;obtain⟨k,hk,e2⟩:=ZN hS;subst e2;exact((so k hk).oz r NB).2.2
 ·(have:=Oo (f:=λS=>S.2.2) (c:=60) (L:=ks.map S) λz hz=>by obtain⟨k,hk,e2⟩:=ZN hz;subst e2;exact(so k hk).rz);rw[ZA] at this;have:ks.length*60<=5*60:=FC 60 kz;lia
theorem Tn{α:Type}{l:List α}{k:α->Int}{f:α->V}{n:Int}:B9 (l.map λr=>((Sum.inl (k r):Key),f r)) (Sum.inl n)=(l.find? λr=>decide (k r=n)).map f:=by
 unfold B9;rw[List.find?_map,Option.map_map];congr 1;congr 1;funext r;show decide ((Sum.inl (k r):Key)=Sum.inl n)=decide (k r=n);by_cases e:k r=n;.rw[e];simp
 .rw[AG e,AG λz=>e (Sum.inl.inj z)]
theorem Y2{α:Type}{l:List α}{k:α->Int}{f:α->V}{r:α}(h:k r∉l.map k):putK (l.map λr=>((Sum.inl (k r):Key),f r)) (Sum.inl (k r)) (f r)=(l++[r]).map λr=>((Sum.inl (k r):Key),f r):=by
 have e:B9 (l.map λr=>((Sum.inl (k r):Key),f r)) (Sum.inl (k r))=none:=by rw[Tn];(have:l.find? (λz=>decide (k z=k r))=none:=BA.mpr λz hz=>by have:k z≠k r:=λe=>h (by rw[<-e];exact BD hz);simpa using this);rw[this];rfl
 rw[Fz _ e,ZF];rfl
theorem Jc1{se:List (Int×Int)}{h:Int}(m:h∈se.map (·.1)):∃r∈se,r.1=h/\se.find? (λr=>decide (r.1=h))=some r:=by cases e:se.find? λr=>decide (r.1=h) with | none =>obtain⟨r0,PR,e0⟩:=ZN m;have:=BA.mp e r0 PR;simp[e0] at this | some r=>exact⟨r,AX e,by simpa using DK e,rfl⟩
theorem vT:∀{ss:List (Key×V)} {fi:List (Int×Int×HS)},Paired (λ(kv:Key×V)(r:Int×Int×HS)=>∃a,kv=(Sum.inl r.1,V.ref a)/\PV K H a r.2.2) ss fi->∀{h:Int} {r:Int×Int×HS},fi.find? (λr=>decide (r.1=h))=some r->∃a,B9 ss (Sum.inl h)=some (.ref a)/\PV K H a r.2.2
 | _,_,.nil,h,r,e=>by simp at e
 | kv::ss,r0::fi,.cons ⟨a,ea,st⟩ pp,h,r,e=>by subst ea;unfold B9;rw[BR] at e ⊢;by_cases c:r0.1=h;(.rw[AJ c] at e;have e:r0=r:=ZO e;rw[show decide ((Sum.inl r0.1:Key)=Sum.inl h)=true by rw[c];simp];exact⟨a,rfl,by rw[<-e];exact st⟩);.rw[AG c] at e;rw[AG (show ¬(Sum.inl r0.1:Key)=Sum.inl h from λz=>c (Sum.inl.inj z))];exact vT pp e
theorem Xv:∀{ss:List (Key×V)} {fi:List (Int×Int×HS)},Paired (λ(kv:Key×V)(r:Int×Int×HS)=>∃a,kv=(Sum.inl r.1,V.ref a)/\PV K H a r.2.2) ss fi->ss.map (·.1)=fi.map λr=>(Sum.inl r.1:Key)
 | _,_,.nil=>rfl
 | kv::ss,r0::fi,.cons ⟨a,ea,st⟩ pp=>by rw[AK,AK,Xv pp,ea]
theorem Jgf(pp:Paired (λ(kv:Key×V) (r:Int×Int×HS)=>∃a,kv=(Sum.inl r.1,V.ref a)/\PV K H a r.2.2) ss fi)(h:s∉fi.map (·.1))(v:V):putK ss (Sum.inl s) v=ss++[(Sum.inl s,v)]:=by refine Fz _ ?_;unfold B9;rw[BA.mpr λkv ya=>?_];rfl;have:kv.1∈ss.map (·.1):=BD ya;rw[Xv pp] at this;obtain⟨r,hr,e⟩:=ZN this;have ne:¬kv.1=Sum.inl s:=λz=>h (by rw[z] at e;rw[<-Sum.inl.inj e];exact BD hr);simpa using ne
theorem Ms{m:Nat}{fi:List (Int×Int×HS)}(pm:(fi.map (·.1)).Perm (rg m)){h:Nat}(hh:h<m):∃r∈fi,r.1=(h:Int)/\fi.find? (λr=>decide (r.1=(h:Int)))=some r/\Hz fi h=r.2.1/\L3 fi h=r.2.2:=by have m1:(h:Int)∈fi.map (·.1):=pm.mem_iff.mpr (MZ.mpr ⟨by lia,by lia⟩);obtain⟨r0,PR,e0⟩:=ZN m1;cases e:fi.find? λr=>decide (r.1=(h:Int)) with | none =>have:=BA.mp e r0 PR;simp[e0] at this | some r =>refine⟨r,AX e,by simpa using DK e,rfl,?_,?_⟩;(.unfold Hz;rw[e];rfl);.unfold L3;rw[e];rfl
def Vf(m:Nat)(g:Int)(ts:List T2):List LL:=(List.range m).map λi:Nat=>.lt g (i:Int) (ts.filter λt=>decide (t.1=(i:Int)))
theorem P3:Cg (Vf m g ts) n u=[]:=E_.mpr λz hz=>by obtain⟨i,_,e⟩:=ZN hz;rw[<-e];rfl
theorem P5:B4 (Vf m g ts) n u=[]:=E_.mpr λz hz=>by obtain⟨i,_,e⟩:=ZN hz;rw[<-e];rfl
theorem Jew:GB (Vf m g ts)=[]:=E_.mpr λz hz=>by obtain⟨i,_,e⟩:=ZN hz;rw[<-e];rfl
theorem Jbs{l:List Int}{m:Nat}(pm:l.Perm (rg m)):(l.map (·.toNat)).Perm (List.range m):=by
 have:=pm.map (·.toNat);have e:(rg m).map (·.toNat)=List.range m:=by unfold rg;rw[AR];(have:((λx:Int=>x.toNat) ∘ λk:Nat=>(k:Int))=id:=by funext k;simp);rw[this,List.map_id]
 rw[e] at this;exact this
section
theorem Jao(x:WI CW C CP CI K H p W D m n al ys)(hn:n<60){BP:Int}{l1 l2:List (Int×Addr)}{t:Addr}{s g n' u tick:Int}{S:HS}(el:W.ls=l1++(BP,t)::l2)(es:al=a++LL.LP s g n' u tick S::b)(p1:Paired (JA K H W.ED) l1 a)(p2:JA K H W.ED (BP,t) (.LP s g n' u tick S))(p3:Paired (JA K H W.ED) l2 b)(k:KT CW C CP CI p K W m n ys H Q):TC CW C CP CI NH Cn DO MI NW K p H Q E (.deliver BP):=by
 have z3:=x.OL hn;have z5:=x.fz;have c_:W.qs.length=m:=x.wg.wl.len;have m5:=x.m5;have hz:LL.LP s g n' u tick S∈al:=by rw[es];exact ZC _ (ZL ..)
 obtain⟨k1,ku⟩:=x.kn _ hz;obtain⟨y,hy,fK⟩:=ZN k1;have fK:y.n=n':=fK;subst fK;obtain⟨i1,i2,ey⟩:=K_ hy;obtain⟨pA,e,xs,me,he,st⟩:=p2;obtain⟨e1,e2,ee⟩:=K_ me;have pA:MY H t BP "answer" s g y.n u:=pA;have iv:=x.iv y hy;have PU:=x.at_ y hy;have lf:y.fi.length<=m:=by have:=iv.t1.length_eq;rw[ZE,ZE,ZA,ZA,Il] at this;lia
 have lse:y.se.length<=m:=by rcases iv.t2 with⟨_,_,_,e⟩|⟨_,pm⟩;(.rw[e];exact BF _);.have:=pm.length_eq;rw[ZE,ZE,ZA,ZA,Il] at this;lia
 have lfs:y.I.fs.length=y.fi.length:=by rw[PU.fs,ZA]
 have lcs:y.I.cs.length=y.se.length:=by rw[PU.cs,ZA]
 have lss:y.I.ss.length=y.fi.length:=Paired.length PU.ss;have SE:(l1++l2).length<=400:=by rw[el,ZE,BJ] at z3;rw[ZE];lia
 obtain⟨a0,et,_⟩:=id pA;refine⟨p,BP,W,l1,l2,t,BP,s,g,"answer",_,rfl,x.wa,el,et,λH1 W1 FU=>?_⟩;have MO:=F_.DS x.wa FU;have VO:=x.TJ FU hy;have vi:B9 (kvsOf W.JX) (.inl y.n)=some (.ref y.io):=by (have e1:W.JX=(i1.map λy=>(y.n,y.io))++(y.n,y.io)::i2.map λy=>(y.n,y.io):=by rw[x.iq,ey,ZF,AK]);(have nd:(W.JX.map (·.1)).Nodup:=by rw[x.iq,AR];exact x.jM);rw[e1] at nd ⊢;exact(Y8 nd).1
 refine .inr (.inr (.inl ⟨rfl,?_⟩));refine⟨p,t,_,BP,s,g,y.n,u,e1,e2,e,xs,tick,y.io,y.I,rfl,W1,pA.keep MO,ee,x.en,MO.BC _ _ he,vi,VO.at_,λb hb=>x.off y hy b (ET.mpr hb),by lia,by lia,by lia,by show W.qs.length<=12;lia,SE,?_⟩;have jc:∀{H2:Hp},QZ p W y.I H1 H2->QZ p W y.I H H2:=λfr b o eb hb n1 n2 n3=>fr b o (FU b o eb hb) hb n1 n2 n3;rcases ku with rfl|rfl;· obtain⟨lt,sn,xu,xr⟩:=iv.first (D:=D) (N:=n) (sh:=W.share) es;(have ef:putK y.I.fs (.inl s) (.int tick)=(y.fi++[(s,tick,S)]).map λr=>((Sum.inl r.1:Key),V.int r.2.1):=by rw[PU.fs];exact Y2 (k:=λr:Int×Int×HS=>r.1) (f:=λr=>V.int r.2.1) (r:=(s,tick,S)) sn);(have rA:((putK y.I.fs (.inl s) (.int tick)).length:Int)=(y.fi.length:Int)+1:=by rw[ef,ZA,ZE];rfl);(have fb:∀{H2:Hp},QZ p W y.I H H2->K61F.EW CI H2 y.io { y.I with ss:=putK y.I.ss (.inl s) (.ref xs),fs:=putK y.I.fs (.inl s) (.int tick) }->OM CI K H2 m { y with I:={ y.I with ss:=putK y.I.ss (.inl s) (.ref xs),fs:=putK y.I.fs (.inl s) (.int tick) },fi:=y.fi++[(s,tick,S)] }:=λfr at2=>by have kt:=QZ.DS x.wa PU.at_ fr;refine⟨at2,PU.many,ef,PU.cs,?_⟩;show Paired _ (putK y.I.ss (.inl s) (.ref xs)) _;rw[Jgf PU.ss sn];exact Cv (As (λ_ _ h9=>by obtain⟨a,e,s⟩:=h9;exact⟨a,e,s.keep kt⟩) PU.ss) (.cons ⟨xs,rfl,st.keep kt⟩ .nil));refine .inl ⟨rfl,λne v H2 W2 at2 JV _=>?_,λeq v L H2 W2 aA at2 JV _=>?_⟩;(.have ne':y.fi.length+1≠m:=λz=>ne (by rw[rA,PU.many];lia);have fr:=jc JV;(have bK:AN CW C CP H2 p { W with c:=W.c,ls:=l1++l2++[],ED:=e1++e2,IG:=W.IG }:=by rw[AH];exact W2);obtain⟨wi,ae⟩:=x.answer (new:=[]) (D':=D) (y':={ y with I:={ y.I with ss:=putK y.I.ss (.inl s) (.ref xs),fs:=putK y.I.fs (.inl s) (.int tick) },fi:=y.fi++[(s,tick,S)] }) el es p1 p3 ey ee bK fr rfl rfl rfl (fb fr at2) (A' _) x.wg (λ_ h=>h) .nil (BF _) rfl (λz hz=>by cases hz) (λ_ _ _=>rfl) (λ_ _=>rfl) (λ_ _ _ hz=>by cases hz) (by rw[AH];exact xu ne') (λe he=>.inl he) (by lia) (λh=>h);exact k _ _ D _ _ H2 wi ae rfl);·(have QS:y.fi.length+1=m:=by rw[rA,PU.many] at eq;lia);have fr:=jc JV;(have aA:KU H2 W.c g y.n 2 L m:=by rw[<-c_];exact aA);have bK:AN CW C CP H2 p { W with c:=W.c+(W.qs.length:Nat),ls:=l1++l2++L,ED:=e1++e2,IG:=W.IG }:=W2;refine(λ(A:_/\_)=>k (.ref v) { W with c:=W.c+(W.qs.length:Nat),ls:=l1++l2++L,ED:=e1++e2,IG:=W.IG } D _ _ H2 A.1 A.2 rfl) (x.answer (new:=Dy m g y.n 2) (D':=D) (y':={ y with I:={ y.I with ss:=putK y.I.ss (.inl s) (.ref xs),fs:=putK y.I.fs (.inl s) (.int tick) },fi:=y.fi++[(s,tick,S)] }) el es p1 p3 ey ee bK fr rfl rfl rfl (fb fr at2) (by lia) x.wg (λ_ h=>h) (C5 (f:=λi:Nat=>LL.ask g (i:Int) y.n 2) (R:=JA K H2 (e1++e2)) aA.MQ) (by unfold Dy;rw[ZA,BV];exact m5) Zg (λz hz=>?_) (λk u ne=>by rw[Ge,AB λz=>ne z.1.symm]) (λ_ _=>Hx) (λs g ts hz=>?_) (xr QS x.wg g) (λe he=>.inl he) (by lia) (λh=>h));(.obtain⟨j,_,ez⟩:=ZN hz;rw[<-ez];exact⟨AI.mpr ⟨y,hy,rfl⟩,.inr rfl⟩);.obtain⟨j,_,ez⟩:=ZN hz;cases ez
 · obtain⟨fl,lt,sn,jR⟩:=iv.second es;have pf:=(iv.whole fl).2.2;(have ec:putK y.I.cs (.inl s) (.int tick)=(y.se++[(s,tick)]).map λr=>((Sum.inl r.1:Key),V.int r.2):=by rw[PU.cs];exact Y2 (k:=λr:Int×Int=>r.1) (f:=λr=>V.int r.2) (r:=(s,tick)) sn);(have xj:((putK y.I.cs (.inl s) (.int tick)).length:Int)=(y.se.length:Int)+1:=by rw[ec,ZA,ZE];rfl);(have JGg:(y.se++[(s,tick)]).length=y.se.length+1:=by rw[ZE];rfl);(have fb:∀{H2:Hp},QZ p W y.I H H2->K61F.EW CI H2 y.io { y.I with cs:=putK y.I.cs (.inl s) (.int tick) }->OM CI K H2 m { y with I:={ y.I with cs:=putK y.I.cs (.inl s) (.int tick) },se:=y.se++[(s,tick)] }:=λfr at2=>by have kt:=QZ.DS x.wa PU.at_ fr;exact⟨at2,PU.many,PU.fs,ec,As (λ_ _ h9=>by obtain⟨a,e,s⟩:=h9;exact⟨a,e,s.keep kt⟩) PU.ss⟩);refine .inr ⟨by decide,λne v H2 W2 at2 JV _=>?_,λeq=>?_⟩;(.have fr:=jc JV;(have bK:AN CW C CP H2 p { W with c:=W.c,ls:=l1++l2++[],ED:=e1++e2,IG:=W.IG }:=by rw[AH];exact W2);obtain⟨wi,ae⟩:=x.answer (new:=[]) (D':=D) (y':={ y with I:={ y.I with cs:=putK y.I.cs (.inl s) (.int tick) },se:=y.se++[(s,tick)] }) el es p1 p3 ey ee bK fr rfl rfl rfl (fb fr at2) (A' _) x.wg (λ_ h=>h) .nil (BF _) rfl (λz hz=>by cases hz) (λ_ _ _=>rfl) (λ_ _=>rfl) (λ_ _ _ hz=>by cases hz) (by rw[AH];exact jR) (λe he=>.inl he) (by lia) (λh=>by lia);exact k _ _ D _ _ H2 wi ae rfl);·(have QS:(y.se++[(s,tick)]).length=m:=by rw[xj,PU.many] at eq;lia);(have ps:((y.se++[(s,tick)]).map (·.1)).Perm (rg m):=by rcases jR.t2 with⟨h,_⟩|⟨_,pm⟩;(.lia);.have l:=pm.length_eq;rw[ZE,ZE,ZA,ZA,Il] at l;have q1:Cg (a++b) y.n 2=[]:=BW.mp (by lia);have q2:B4 (a++b) y.n 2=[]:=BW.mp (by lia);rw[q1,q2] at pm;exact pm);(have fZ:∀h:Nat,∃ah:Addr,h<m->B9 y.I.ss (.inl (h:Int))=some (.ref ah)/\PV K H1 ah (L3 y.fi h):=λh=>by by_cases hh:h<m;(.obtain⟨r,_,_,ef,_,es2⟩:=Ms pf hh;obtain⟨ah,va,sa⟩:=vT VO.ss ef;exact⟨ah,λ_=>⟨va,by rw[es2];exact sa⟩⟩);.exact⟨e,λz=>absurd z hh⟩);let cf:Nat->Int:=λh=>(((y.se++[(s,tick)]).find? λr=>decide (r.1=(h:Int))).map (·.2)).getD 0;(have r_:∀h:Nat,h<m->∃r∈y.se++[(s,tick)],r.1=(h:Int)/\(y.se++[(s,tick)]).find? (λr=>decide (r.1=(h:Int)))=some r/\r.2=cf h:=λh hh=>by obtain⟨r,hr,er,ef⟩:=Jc1 (se:=y.se++[(s,tick)]) (h:=(h:Int)) (ps.mem_iff.mpr (MZ.mpr ⟨by lia,by lia⟩));exact⟨r,hr,er,ef,by show r.2=((((y.se++[(s,tick)]).find? λr=>decide (r.1=(h:Int))).map (·.2)).getD 0);rw[ef];rfl⟩);(have sF:=jR.done fl (c:=cf) λh hh=>by obtain⟨r,hr,er,_,ev⟩:=r_ h hh;exact⟨r,hr,er,ev⟩);(have eL:K61F.FE (K61F.JN m (Hz y.fi) cf (λh=>Classical.choose (fZ h)) (L3 y.fi))=Lb m (λh=>decide (Hz y.fi h=cf h)) (L3 y.fi):=by show List.map _ (List.map _ _)=_;rw[AR];rfl);(have pN:K61F.RC (K61F.FE (K61F.JN m (Hz y.fi) cf (λh=>Classical.choose (fZ h)) (L3 y.fi))):=by rw[eL];have US:∀k∈(List.range m).filter (λh=>decide (Hz y.fi h=cf h)),k<m:=λk hk=>BQ.mp (AD.mp hk).1;(have nn:∀q∈W.qs,0<=q.2.AY:=λq hq=>by obtain⟨j,hj⟩:=OT.mp hq;exact(x.wg.BP (q:=q.1) (G:=q.2) hj).1.m0);refine Je7 (mx:=λk=>(WV W.qs k).toNat) (m:=m) (List.nodup_range.filter _) ?_ US (λk hk=>?_) (λk hk w hw=>?_) ?_;(.have:=AS (λh=>decide (Hz y.fi h=cf h)) (List.range m);rw[BV] at this;lia);(.obtain⟨r,hr,er,_,_,e4⟩:=Ms pf (US k hk);have:=(iv.f1 r hr).so;rw[er,<-e4] at this;exact this);(.obtain⟨r,hr,er,_,_,e4⟩:=Ms pf (US k hk);obtain⟨⟨q,G⟩,hi⟩:=Au (xs:=W.qs) (j:=k) (by have:=US k hk;lia);rw[e4] at hw;have h1:=(iv.f1 r hr).nw k q G hi er w hw;(have h2:WV W.qs k=G.AY:=by unfold WV;rw[hi];rfl);have h3:=(x.wg.BP hi).1.m0;show w.1.2<(((WV W.qs k).toNat:Nat):Int);rw[h2];lia);.have h1:=N6 nn;have h2:=x.md;rw[c_] at h1;lia);refine⟨m,Hz y.fi,cf,λh=>Classical.choose (fZ h),L3 y.fi,by lia,⟨⟨(y.fi.map (·.1)).map (·.toNat),Jbs pf,?_⟩,λk hk=>?_,λk hk=>?_,λk hk=>((Classical.choose_spec (fZ k)) hk).1⟩,λk hk=>((Classical.choose_spec (fZ k)) hk).2,pN,by show W.IG.length<=400;lia,λe he z=>?_,λv xf as ts L H2 fo W2 aA U' th at2 JV _=>?_⟩;(.show y.I.fs.map (·.1)=_;rw[PU.fs,AR,AR,AR];refine BY λr hr=>?_;have:=MZ.mp (pf.mem_iff.mp (AI.mpr ⟨r,hr,rfl⟩));show(Sum.inl r.1:Key)=Sum.inl ((r.1.toNat:Nat):Int);rw[BH this.1]);(.show B9 y.I.fs _=_;obtain⟨r,_,_,ef,e3,_⟩:=Ms pf hk;rw[PU.fs,Tn (k:=λr:Int×Int×HS=>r.1) (f:=λr=>V.int r.2.1),ef,e3];rfl);(.show B9 (putK y.I.cs (.inl s) (.int tick)) _=_;obtain⟨r,_,_,ef,e3⟩:=r_ k hk;rw[ec,Tn (k:=λr:Int×Int=>r.1) (f:=λr=>V.int r.2),ef,<-e3];rfl);(.obtain⟨y0,jS,q1,q2⟩:=x.ff e he;(have:y0=y:=by rw[ey] at jS;rcases ZI jS with h|h;(.exact absurd (by rw[q1,z]) (Se ey x.jM y0 (.inl h)));.rcases ZM h with h|h;(.exact h);.exact absurd (by rw[q1,z]) (Se ey x.jM y0 (.inr h)));rw[this] at q2;lia);.have fr:=jc JV;rw[eL] at fo;(have aA:dQ H2 W.c g ts L m:=by rw[<-c_];exact aA);have bK:AN CW C CP H2 p { W with c:=W.c+(W.qs.length:Nat),ls:=l1++l2++L,ED:=e1++e2,IG:=W.IG++[(y.n,xf)] }:=W2;refine(λ(A:_/\_)=>k (.ref v) { W with c:=W.c+(W.qs.length:Nat),ls:=l1++l2++L,ED:=e1++e2,IG:=W.IG++[(y.n,xf)] } _ _ _ H2 A.1 A.2 rfl) (x.answer (new:=Vf m g ts) (D':=λt=>D t\/GS m (λh=>decide (Hz y.fi h=cf h)) (L3 y.fi) t) (y':={ y with I:={ y.I with cs:=putK y.I.cs (.inl s) (.int tick) },se:=y.se++[(s,tick)] }) el es p1 p3 ey ee bK fr rfl rfl rfl (fb fr at2) (by lia) (x.wg.more sF) (λ_ h=>.inl h) (C5 (f:=λi:Nat=>LL.lt g (i:Int) (ts.filter λt=>decide (t.1=(i:Int)))) (R:=JA K H2 (e1++e2)) aA.MQ) (by unfold Vf;rw[ZA,BV];exact m5) Jew (λz hz=>?_) (λ_ _ _=>P3) (λ_ _=>P5) (λs0 g0 ts0 hz=>?_) (jR.bg (λu=>by rw[Br,P3,AH]) (λu=>by rw[Bo,P5,AH]) (JJ.refl _ _)) (λe he=>?_) ?_ (λh=>by lia));(.obtain⟨j,_,ez⟩:=ZN hz;rw[<-ez];trivial);(.obtain⟨j,hj,ez⟩:=ZN hz;injection ez with q1 q2 q3;have hj:=BQ.mp hj;refine⟨by lia,by lia,_,sF,λt h=>.inr h,λt=>?_⟩;rw[<-q3,<-q2,AD,fo.mem];constructor;(.rintro⟨h1,h2⟩;exact⟨h1,BL h2⟩);.rintro⟨h1,h2⟩;exact⟨h1,AJ h2⟩);(.rcases ZI he with he|he;(.exact .inl he);.rw[ZK he];exact .inr ⟨rfl,QS⟩);.rw[ZE];show W.IG.length+1<=n+1;lia
end
def Val(W:FZ)(m:Nat)(H:Hp):Dd->Prop
 | .make h=>∃q G,IH W h q G
 | .three w h a b=>∃q G ta tb,IH W h q G/\H a=some (.BC (tv ta))/\H b=some (.BC (tv tb))/\ta∈G.hand/\ta.1=G.BP/\((w="hold"/\tb∈G.hand)\/((w="drop"\/w="take")/\tb∈Ce G.holds ta))
 | .free h b=>∃q G tb,IH W h q G/\H b=some (.BC (tv tb))/\tb∈G.hand
 | .send h g b=>∃q G tb,IH W h q G/\0<=g/\g<m/\H b=some (.BC (tv tb))/\tb∈G.hand
 | .clean h=>∃q G,IH W h q G
 | .ask h=>∃q G,IH W h q G
 | .deliver n=>∃l1 l2 t,W.ls=l1++(n,t)::l2
section
theorem Jhc(x:WI CW C CP CI K H p W D m n al ys)(hn:n<60)(v:Val W m H dd)(k:KT CW C CP CI p K W m n ys H Q)(kE:E (.ref NW) none H):TC CW C CP CI NH Cn DO MI NW K p H Q E dd:=by cases dd with | make h=>obtain⟨q,G,i⟩:=v;exact Jfb x hn i k | three w h a b =>obtain⟨q,G,ta,tb,i,ea,eb,ha,hh,v⟩:=v;rcases v with⟨rfl,hb⟩|⟨rfl|rfl,hb⟩;(.exact Jfc x hn i ea eb ha hb hh k);(.exact Jfe x hn i ea eb ha hb hh k);.exact Je9 x hn i ea eb ha hb hh k | free h b=>obtain⟨q,G,tb,i,eb,hb⟩:=v;exact Jfd x hn i eb hb k | send h g b=>obtain⟨q,G,tb,i,g0,g1,eb,hb⟩:=v;exact Jfa x hn i g0 g1 eb hb k kE | clean h=>obtain⟨q,G,i⟩:=v;exact Jc7 x hn i k | ask h=>obtain⟨q,G,i⟩:=v;exact Jhb x hn i k | deliver BP =>obtain⟨l1,l2,t,el⟩:=v;have lw:=x.lw;rw[el] at lw;obtain⟨a,z,b,es,p1,p2,p3⟩:=Uc lw;cases z with | w l=>exact Jan x hn el es p1 p2 p3 k | ask s g n' u=>exact Jc8 x hn el es p1 p2 p3 k | LP s g n' u tk S=>exact Jao x hn el es p1 p2 p3 k | lt s g ts=>exact Jha x hn el es p1 p2 p3 k
theorem Jaz(W:FZ)(n:Str)(h:(["make","hold","drop","take","free","send","clean","ask","deliver"]:List Str).contains n=true):(Ed W).lookup n=none:=by simp only[KZ,List.contains_nil,Bool.or_false,Bool.or_eq_true,KY] at h;rcases h with h|h|h|h|h|h|h|h|h<;>(rw[h];exact C4 W ZV)
theorem WI.vq(x:WI CW C CP CI K H p W D m n al ys):WI CW C CP CI K H p W D m (n+1) al ys:=by have a1:=x.md;have a2:=x.ez;have a3:=x.fz;have a4:=x.iz;have a5:=x.lz;exact{ x with wg:=x.wg.up,md:=by lia,ez:=by lia,fz:=by lia,iz:=by lia,lz:=by lia }
end
section
theorem WB:Ao ["_law_cell_here","_law_free","_law_number"] ["_law_cell_here","_law_free"] (Aj X9):={}
def vQ:Sp:=λvs H Q _=>∃(c:Int)(b:Bool),vs=[.int c,.bl b]/\∀v:Int,Q (.int v) H
theorem Jek(F:EK K "_law_spun" "_law_spun" X9 f fd):CV P w K mg base 1 f fd ["_law_cell_here","_law_free"] vQ:=by refine F.IQ WB λvs H Q E h=>?_;obtain⟨c,b,rfl,k⟩:=h;refine⟨rfl,λDP A outer s hr=>?_⟩;refine⟨_,Ad (Bf (Eu (pv 1)) (Ae (Ar (pv 0))) A4) (Ad (Aw (i:=2) WB.nd rfl (Or.inl rfl) (Be C1 (Be Fo (Be C1 (pv 0) Ah) Ah) Ah)) (Ad (Aw (i:=2) WB.nd rfl (Or.inl rfl) (Be C1 (Be Fo (Be C1 (Be Fo (pv 2) (Be Fc (pv 2) Ah)) Ah) Ah) Ah)) (Ae (Ar (Be Fc (pv 2) (Be Fo (Be C1 (pv 0) Ah) Ah)))))),?_⟩;refine⟨_,rfl,_,rfl,?_⟩;cases b with | true=>exact Ck ⟨_,rfl,k _⟩ | false =>refine Cd ?_;refine⟨_,rfl,_,_,rfl,rfl,(show(0:Int)<2147483647 by decide),_,_,rfl,rfl,.inr ⟨by decide,by decide⟩,_,_,rfl,rfl,(show(0:Int)<2147483647 by decide),?_⟩;have n0:=DA (c % 2147483647*48271) (show(2147483647:Int)≠0 by decide);have n1:=CM (c % 2147483647*48271) (show(0:Int)<2147483647 by decide);generalize c % 2147483647*48271 % 2147483647=z at n0 n1;refine⟨_,rfl,_,rfl,_,_,rfl,rfl,_,_,rfl,rfl,.inl ⟨by lia,by lia⟩,_,_,rfl,rfl,(show(0:Int)<2147483629 by decide),_,_,rfl,rfl,.inr ⟨by decide,by decide⟩,_,_,rfl,rfl,(show(0:Int)<2147483587 by decide),?_⟩;exact⟨_,rfl,_,rfl,_,_,rfl,rfl,(show(0:Int)<1000003 by decide),_,_,rfl,rfl,.inr ⟨by decide,by decide⟩,_,_,rfl,rfl,k _⟩
theorem Jds:PyData.eqv (OX t) (OX u)=decide (t=u):=by obtain⟨a,b⟩:=t;obtain⟨c,d⟩:=u;unfold OX;simp only[PyData.eqv,PyData.eqvAll,Prod.mk.injEq];by_cases h1:a=c<;>by_cases h2:b=d<;>simp[h1,h2,PyData.eqv]
theorem YU:Ao ["_law_things","_law_a","_law_thing","_law_out","_law_holds"] ["_law_things","_law_a"] (Aj Jw):={}
def Pp:Sp:=λvs H Q _=>∃(y2 a:Addr)(bs:List V)(os:List (T2×Int×List T2))(ta:T2),vs=[.ref y2,.ref a]/\H y2=some (.BC bs)/\Paired (NP H) bs os/\H a=some (.BC (tv ta))/\ta∈os.map (·.1) /\
 ∀(hd:Addr)(cs:List Addr)(o:Int)(hl:List T2),(ta,o,hl)∈os->H hd=some (.BC (cs.map V.ref))->BB H cs hl->Q (.ref hd) H
theorem Wx(F:EK K "_law_holding" "_law_holding" Jw f fd):CV P w K mg base 1 f fd ["_law_things","_law_a"] Pp:=by
 refine F.ok YU (λvs H Q E h=>?_) (λDP A outer s H vs Q E hr h=>?_);.obtain⟨y2,a,bs,os,ta,rfl,_⟩:=h;rfl
 .obtain⟨y2,a,bs,os,ta,rfl,e2,rows,ea,mem,k⟩:=h;refine⟨_,Ad (Dg PassesOwn.never rfl (Gk (pv 0)) (Kz rfl (Cc (Bl (i:=2) YU.nd rfl (Or.inl rfl)) (Cc (Bl (i:=3) YU.nd rfl (Or.inl rfl)) (Cc (Bl (i:=4) YU.nd rfl (Or.inl rfl)) Ho)))) (Ae (Bf (A3 (R8 (Xh hr)) (pv 2) (pv 1) (A6 _)) (Ae (Ar (pv 4))) A4))) (Ae (Ar (Ca Af))),?_⟩;refine⟨_,rfl,y2,rfl,⟨_,CL.of e2⟩,?_⟩;refine Hv (K:=K) (a:=y2) (xs:=bs) (λj σ H2=>H2=H/\(∃u1 u2 u3,σ=[some (.ref y2),some (.ref a),u1,u2,u3])/\ta∉(os.take j).map (·.1)) ⟨rfl,⟨_,_,_,rfl⟩,by simp⟩ (λj σ H2 _ h=>by rw[h.1];exact CL.of e2) ?_ (λσ H2 h=>?_);(.rintro j v σ H2 hj ⟨rfl,⟨u1,u2,u3,rfl⟩,no⟩;obtain⟨r,HW⟩:=Au (xs:=os) (j:=j) (by rw[<-Paired.length rows];exact(ZJ hj).1);obtain⟨a',t,hd,cs,rfl,e3,e4,e5,e6⟩:=Ax rows j v r hj HW;refine⟨a',_,rfl,CL.of e3,rfl,_,_,rfl,_,_,rfl,_,_,rfl,rfl,?_⟩;refine⟨_,rfl,_,rfl,OX r.1,OX ta,.one (Mx e4),.one (Mx ea),Qx r.1,Qx ta,_,rfl,?_⟩;rw[Jds];refine Tj (λc=>?_) (λc=>?_);(.have c:r.1=ta:=BL c;exact⟨_,rfl,k hd cs r.2.1 r.2.2 (by rw[<-c];exact ZP HW) e5 e6⟩);·(have c:¬r.1=ta:=by simpa using c);refine⟨rfl,⟨_,_,_,rfl⟩,?_⟩;rw[DE,HW,ZF,OE];rintro(z|z);(.exact no z);·(have:ta=r.1:=by simpa using z);exact c this.symm);.exfalso;obtain⟨_,_,no⟩:=h;rw[Paired.length rows,BM] at no;exact no mem
example:Ao ["_law_world","_law_many","_law_cell_here","_law_asks","_law_free","_law_kind","_law_h","_law_hand","_law_things","_law_records","_law_letters","_law_b","_law_near","_law_a","_law_holds"] ["_law_world","_law_many","_law_cell_here","_law_asks","_law_free"] (Aj Ui):={}
end
def Z9(n:Int)(kind:Str)(s g:Int)(th:T2)(x:Int):PyData:=.tuple [.int n,.str kind,.int s,.int g,.tuple [OX th,.int x]]
def Xo(n:Int)(kind:Str)(s g k u:Int):PyData:=.tuple [.int n,.str kind,.int s,.int g,.tuple [.int k,.int u]]
def cj(n s g:Int)(ts:List T2):PyData:=.tuple [.int n,.str "let",.int s,.int g,.tuple (ts.map OX)]
theorem Jex{K:W.Frag}{H:Hp}{t:Addr}{n:Int}{kind:Str}{s g:Int}{tb:T2}{x:Int}(h:II H t n kind s g tb x):IW K H (.ref t) (Z9 n kind s g tb x):=by obtain⟨a,b,e1,e2,e3⟩:=h;exact .tupP (CL.of e1) (.cons (.int _) (.cons (.str _) (.cons (.int _) (.cons (.int _) (.cons (.tupP (CL.of e2) (.cons (Mx e3) (.cons (.int _) .nil))) .nil)))))
theorem Zh{K:W.Frag}{H:Hp}{t:Addr}{n:Int}{kind:Str}{s g k u:Int}(h:MY H t n kind s g k u):IW K H (.ref t) (Xo n kind s g k u):=by obtain⟨a,e1,e2⟩:=h;exact .tupP (CL.of e1) (.cons (.int _) (.cons (.str _) (.cons (.int _) (.cons (.int _) (.cons (.tupP (CL.of e2) (.cons (.int _) (.cons (.int _) .nil))) .nil)))))
theorem Jgx{K:W.Frag}{H:Hp}{t:Addr}{n s g:Int}{ts:List T2}(h:QC H t n s g ts):IW K H (.ref t) (cj n s g ts):=by obtain⟨a,as,e1,e2,th⟩:=h;exact .tupP (CL.of e1) (.cons (.int _) (.cons (.str _) (.cons (.int _) (.cons (.int _) (.cons (.tupP (CL.of e2) (Mb th)) .nil)))))
theorem Jey{n:Int}{kind:Str}{s g:Int}{th:T2}{x:Int}(hk:kind="hold"\/kind="more"\/kind="back"\/kind="pass"):(Z9 n kind s g th x).canLay0=true/\(Z9 n kind s g th x).depth<=20:=by
 have t1:(OX th).canLay0=true:=(Qx th).1;refine⟨?_,?_⟩;.rcases hk with rfl|rfl|rfl|rfl;all_goals unfold Z9;simp only[PyData.canLay0,PyData.canLayAll0,t1,Bool.and_true,Bool.true_and];decide +kernel
 .unfold Z9;simp[PyData.depth,PyData.depthAll,OX]
theorem Zi{n:Int}{kind:Str}{s g k u:Int}(hk:kind="ask"\/kind="answer"):(Xo n kind s g k u).canLay0=true/\(Xo n kind s g k u).depth<=20:=by
 refine⟨?_,?_⟩;.rcases hk with rfl|rfl;all_goals unfold Xo;simp only[PyData.canLay0,PyData.canLayAll0,Bool.and_true,Bool.true_and];decide +kernel
 .unfold Xo;simp[PyData.depth,PyData.depthAll]
theorem vU(ts:List T2):∀d∈ts.map OX,d.canLay0=true/\d.depth<=20:=λd hd=>by obtain⟨t,_,rfl⟩:=ZN hd;exact⟨(Ig t).1,BE (Ig t).2 (by decide)⟩
theorem Jdr(ts:List T2):∀d∈ts.map OX,d.canLay0=true/\d.depth<=5:=λd hd=>by obtain⟨t,_,rfl⟩:=ZN hd;exact⟨(Ig t).1,by unfold OX;simp[PyData.depth,PyData.depthAll]⟩
theorem Jgy{n s g:Int}{ts:List T2}:(cj n s g ts).canLay0=true/\(cj n s g ts).depth<=20:=by
 obtain⟨h1,h2⟩:=ud (Jdr ts);refine⟨?_,?_⟩;.unfold cj;simp only[PyData.canLay0,PyData.canLayAll0,h1,Bool.and_true,Bool.true_and];decide +kernel
 .unfold cj;simp only[PyData.depth,PyData.depthAll];lia
theorem IJ.kd{m:Nat}{l:LT}(h:IJ m l):l.kind="hold"\/l.kind="more"\/l.kind="back"\/l.kind="pass":=by
 rcases h.2.2.2 with⟨h,_⟩|⟨h,_⟩|⟨h,_⟩|⟨h,_⟩;.exact .inl h
 .exact .inr (.inl h)
 .exact .inr (.inr (.inl h))
 .exact .inr (.inr (.inr h))
def qz(n:Int):LL->PyData
 | .w l=>Z9 n l.kind l.s l.g l.th l.x
 | .ask s g k u=>Xo n "ask" s g k u
 | .LP s g k u _ _=>Xo n "answer" s g k u
 | .lt s g ts=>cj n s g ts
def Vg:List Int->List LL->List PyData
 | n::ns,l::ls=>qz n l::Vg ns ls
 | _,_=>[]
theorem Jg0{K:W.Frag}{H:Hp}{ED:List (Int×Addr)}{y:Int×Addr}{z:LL}(h:JA K H ED y z):IW K H (.ref y.2) (qz y.1 z):=by cases z with | w l=>exact Jex h | ask s g k u=>exact Zh h | LP s g k u t S=>exact Zh h.1 | lt s g ts=>exact Jgx h
theorem Oa{K:W.Frag}{H:Hp}{ED:List (Int×Addr)}:∀{ys:List (Int×Addr)} {ls:List LL},Paired (JA K H ED) ys ls->Paired (IW K H) (ys.map λy=>V.ref y.2) (Vg (ys.map (·.1)) ls)
 | _,_,.nil=>.nil
 | _,_,.cons h t=>.cons (Jg0 h) (Oa t)
theorem Ob{m:Nat}:∀{ns:List Int} {ls:List LL},(∀l∈GB ls,IJ m l)->∀d∈Vg ns ls,d.canLay0=true/\d.depth<=20
 | [],_,_,d,h=>by cases h
 | _::_,[],_,d,h=>by cases h
 | n::ns,l::ls,k,d,h=>by rcases ZM h with rfl|h;(.cases l with | w l=>exact Jey (k l (ZL ..)).kd | ask s g k u=>exact Zi (.inl rfl) | LP s g k u t S=>exact Zi (.inr rfl) | lt s g ts=>exact Jgy);.refine Ob (λz hz=>k z ?_) d h;cases l with | w l=>exact ZD _ hz | ask s g k u=>exact hz | LP s g k u t S=>exact hz | lt s g ts=>exact hz
theorem Z7{R:Int×Addr->LL->Prop}{ys:List (Int×Addr)}{ls:List LL}(p:Paired R ys ls)(ne:ys≠[]):(Vg (ys.map (·.1)) ls).isEmpty=false:=by cases p with | nil=>exact absurd rfl ne | cons _ _=>rfl
theorem Z8{ls:List LL}:(Vg (([]:List (Int×Addr)).map (·.1)) ls).isEmpty=true:=by cases ls<;>rfl
theorem JA.BC{K:W.Frag}{H:Hp}{ED:List (Int×Addr)}{y:Int×Addr}{z:LL}(h:JA K H ED y z):∃xs,H y.2=some (.BC (.int y.1::xs)):=by cases z with | w l=>obtain⟨a,b,e,_⟩:=h;exact⟨_,e⟩ | ask s g k u=>obtain⟨a,e,_⟩:=h;exact⟨_,e⟩ | LP s g k u t S=>obtain⟨⟨a,e,_⟩,_⟩:=h;exact⟨_,e⟩ | lt s g ts=>obtain⟨a,as,e,_⟩:=h;exact⟨_,e⟩
section
theorem LY:Ao ["_law_world","_law_many","_law_cell_here","_law_asks","_law_free","_law_kind","_law_h","_law_hand","_law_things","_law_records","_law_letters","_law_b","_law_near","_law_a","_law_holds"] ["_law_world","_law_many","_law_cell_here","_law_asks","_law_free"] (Aj Ui):={}
def Wh(CW C CP CI:Addr)(K:W.Frag):Sp:=λvs H Q _=>∃(p:Addr)(W:FZ)(D:T2->Prop)(m n:Nat)(al:List LL)(ys:List Qy)(c:Int)(fr:Bool),vs=[.ref p,.int (m:Int),.int c,.bl true,.bl fr]/\WI CW C CP CI K H p W D m n al ys/\n<60 /\
 ∀(x:Addr)(H':Hp)(dd:Dd),Bi H H'->H' x=some (.BC (mj dd))->Val W m H' dd->Q (.ref x) H'
def uk(K:W.Frag):TT:=Lr (RR cV (RR (f' K) (B6 0) (tC (.int 0))) (B6 1))
theorem vS:∀{zs:List (Addr×T2)},(∀z∈zs,H z.1=some (.BC (tv z.2)))->Paired (IW K H) (zs.map λz=>V.ref z.1) (zs.map λz=>OX z.2)
 | [],_=>.nil
 | z::zs,h=>.cons (Mx (h z (ZL ..))) (vS λy hy=>h y (ZD _ hy))
theorem Jhq(zs:List (Addr×T2)):∀d∈zs.map (λz=>OX z.2),d.canLay0=true/\d.depth<=20:=λd hd=>by obtain⟨t,_,rfl⟩:=ZN hd;exact⟨(Ig t.2).1,BE (Ig t.2).2 (by decide)⟩
theorem rH(h:l≠[]):(l.map f).isEmpty=false:=by cases l with | nil=>exact absurd rfl h | cons a b=>rfl
theorem Jip(a0 a1 a2 a3 a4 v kd h c2 y1 y2 y3:V):(((((((L2.start ["_law_world","_law_many","_law_cell_here","_law_asks","_law_free","_law_kind","_law_h","_law_hand","_law_things","_law_records","_law_letters","_law_b","_law_near","_law_a","_law_holds"] [a0,a1,a2,a3,a4]).set 2 (some v)).set 5 (some kd)).set 6 (some h)).set 2 (some c2)).set 7 (some y1)).set 8 (some y2)).set 9 (some y3)=[some a0,some a1,some c2,some a3,some a4,some kd,some h,some y1,some y2,some y3,none,none,none,none,none]:=rfl
set_option maxHeartbeats 20000000 in
theorem Jes(F:EK K "_law_deed" "_law_deed" Ui f fd)(T:Txt K mg C Cn DO MI NW)(TW:Ek K mg CW NH NI)(MP:QU K mg "_law_spun" X9 ["_law_cell_here","_law_free"] fP dP)(MH:QU K mg "_law_holding" Jw ["_law_things","_law_a"] fH dH)(MS:CO K CW "state" "World.state" Hg ["self","h"] fS dS)(gB:EU P w K mg base 3 fS dS ["self","h"] (Ep CW C CP NH K))(ML:CO K CW "letters" "World.letters" Fy ["self"] fL dL)(GL:CV P w K mg base 2 fL dL ["self"] (Gg CW C CP)) :
 CV P w K mg base 4 f fd ["_law_world","_law_many","_law_cell_here","_law_asks","_law_free"] (Wh CW C CP CI K):=by
 have GP:CV P w K mg base 1 fP dP ["_law_cell_here","_law_free"] vQ:=Jek MP.fn
 have GH:CV P w K mg base 1 fH dH ["_law_things","_law_a"] Pp:=Wx MH.fn
 have GS:CV P w K mg base 3 fS dS ["self","h"] (λvs H Q _=>Ep CW C CP NH K vs H Q E0):=FX.DZ.no gB
 refine F.IQ LY λvs H Q E h=>?_
 obtain⟨p,W,D,m,n,ls,ys,c,fr,rfl,S,hn,k⟩:=h
 refine⟨rfl,λDP A outer s hr=>?_⟩
 have GO:CU 1 _:=hr.mono (by decide)
 have NB:CU 2 _:=hr.mono (by decide)
 have UU:CU 3 _:=hr.mono (by decide)
 refine⟨_,Ad (Aw (i:=2) LY.nd rfl (Or.inl rfl) (Cs GP GO (by rfl) MP.mg MP.fn.kp MP.bd .nil Bb (Aa (pv 2) (Aa (pv 4) Af))))
  (Ad (Aw (i:=5) LY.nd rfl (Or.inl rfl) (Be C1 (pv 2) Ah))
  (Ad (Aw (i:=6) LY.nd rfl (Or.inr rfl) (Be C1 (Be Fh (pv 2) Ah) (pv 1)))
  (Ad (Aw (i:=2) LY.nd rfl (Or.inl rfl) (Be Fh (Be Fh (pv 2) Ah) (pv 1)))
  (Ad (Jgj (Ap (pl:=_) (pv 0) TW.cl MS.mt GS UU MS.bd .nil Bb (Aa (pv 6) Af)) (Kz rfl (Cc (Bl (i:=7) LY.nd rfl (Or.inl rfl)) (Cc (Bl (i:=8) LY.nd rfl (Or.inl rfl)) (Cc (Bl (i:=9) LY.nd rfl (Or.inl rfl)) Ho)))))
  (Ad (Aw (i:=10) LY.nd rfl (Or.inl rfl) (C9 (pl:=_) (pv 0) TW.cl ML.mt GL NB ML.bd .nil Bb))
  (Ad (Bf (bM (Wq (A3 Px (pv 5) Ah (A6 _)) (Yl (A3 (Jgq (Xh hr)) (pv 10) (Fa Af) (A6 _))))) (Ae (Ar (Ca (Aa Bk (Aa (Az Av (Az D9 (pv 10) (Be C1 (pv 2) (Bg Bq (by rfl) T.len B' (Aa (pv 10) Af)))) Ah) Af))))) A4)
  (Ad (Bf (bM (Wq (A3 Cy (pv 5) Ah (A6 _)) (Wq (Eu (pv 3)) (Yl (A3 Cy (Be C1 (pv 2) Ah) Ah (A6 _)))))) (Ae (Ar (Ca (Aa Bk (Aa (pv 6) Af))))) A4)
  (Ad (Bf (A3 Px (pv 5) Ah (A6 _)) (Ae (Ar (Ca (Aa Bk (Aa (pv 6) Af))))) A4)
  (Ad (Bf (bM (Ps (A3 Nn (pv 5) Ah (A6 _)) (Ni (A3 (R8 (Xh hr)) (pv 7) (Ca Af) (A6 _))))) (Ae (Ar (Ca (Aa Bk (Aa (pv 6) Af))))) A4)
  (Ad (Aw (i:=11) LY.nd rfl (Or.inl rfl) (Az Av (pv 7) (Be C1 (pv 2) (Bg Bq (by rfl) T.len B' (Aa (pv 7) Af)))))
  (Ad (Aw (i:=2) LY.nd rfl (Or.inl rfl) (Be Fh (pv 2) (Bg Bq (by rfl) T.len B' (Aa (pv 7) Af))))
  (Ad (Hn (i:=12) (tt:=uk K) (te:=B6 0) (caps:=[("_law_h",6)]) LY.nd rfl rfl rfl rfl (Gk (pv 7)) rfl ZV rfl ZV rfl ⟨rfl,trivial⟩ (λy h=>LZ ⟨_,rfl⟩ h) ⟨⟨rfl,rfl,rfl,rfl⟩,trivial⟩ ZV (λ_ _ _ _ _=>D3 (A3 Cy (Az Av (pv 0) Ah) (pv 1) (A6 _))) (λ_ _ _ _ _=>pv 0))
  (Ad (Bf (A3 Nn (pv 5) Ah (A6 _)) (Ae (Ar (Ca (Aa Bk (Aa (pv 6) (Aa (Be C1 (pv 2) (pv 1)) (Aa (pv 11) Af))))))) A4)
  (Ad (Bf (bM (Ps (A3 Px (pv 5) Ah (A6 _)) (Ni (A3 (R8 (Xh hr)) (pv 12) (Fa Af) (A6 _))))) (Ae (Ar (Ca (Aa Bk (Aa (pv 6) (Aa (pv 11) Af)))))) A4)
  (Ad (Aw (i:=13) LY.nd rfl (Or.inl rfl) (Az D9 (pv 12) (Be C1 (pv 2) (Bg Bq (by rfl) T.len B' (Aa (pv 12) Af)))))
  (Ad (Aw (i:=14) LY.nd rfl (Or.inl rfl) (Cs GH GO (by rfl) MH.mg MH.fn.kp MH.bd .nil Bb (Aa (pv 8) (Aa (pv 13) Af))))
  (Ad (Bf (bM (Ps (A3 Nn (pv 5) Ah (A6 _)) (Ni (A3 (R8 (Xh hr)) (pv 14) (Ca Af) (A6 _))))) (Ae (Ar (Ca (Aa Bk (Aa (pv 6) (Aa (pv 13) (Aa (pv 11) Af))))))) A4)
  (Ae (Ar (Ca (Aa (Az D9 (Fa (Aa Bk (Aa Bk Af))) (Be R7 (pv 5) Ah)) (Aa (pv 6) (Aa (pv 13) (Aa (Az Av (pv 14) (Be C1 (Be Fh (pv 2) (Bg Bq (by rfl) T.len B' (Aa (pv 12) Af))) (Bg Bq (by rfl) T.len B' (Aa (pv 14) Af)))) Af)))))))))))))))))))))))),?_⟩
 have VU:(0:Int)<(m:Int):=by have:=S.m1;lia
 have cg:=S.wg.wl.cg
 refine⟨_,rfl,_,rfl,c,fr,rfl,λv=>?_⟩
 refine⟨_,rfl,_,_,rfl,rfl,(show(0:Int)<17 by decide),?_⟩
 refine⟨_,rfl,_,_,rfl,rfl,⟨by decide,by decide⟩,_,rfl,_,_,rfl,rfl,VU,?_⟩
 refine⟨_,rfl,_,_,rfl,rfl,⟨by decide,by decide⟩,_,rfl,_,_,rfl,rfl,⟨VU,by lia⟩,?_⟩
 have k0:=DA v (show(17:Int)≠0 by decide)
 have k1:=CM v (show(0:Int)<17 by decide)
 have h0:=DA (v / 17) (show(m:Int)≠0 by lia)
 have h1:=CM (v / 17) VU
 generalize v / 17 % (m:Int)=h at h0 h1
 generalize v / 17 / (m:Int)=c2
 generalize v % 17=kd at k0 k1
 obtain⟨⟨q,G⟩,hq⟩:=Au (xs:=W.qs) (j:=h.toNat) (by rw[S.wg.wl.len];lia)
 have i:IH W h q G:=⟨h0,hq⟩
 obtain⟨sd,nu⟩:=S.wg.wl.sd _ q G hq
 have hN:((h.toNat:Nat):Int)=h:=BH h0
 rw[hN] at nu
 have gd:=S.wg.wl.good (by lia) hq
 obtain⟨hs,os,rs,IZ⟩:=gd.told
 obtain⟨dx,hp⟩:=S.wa.ob
 refine⟨_,rfl,p,dx,_,rfl,hp,C4 W ZV,_,rfl,p,h,W,rfl,S.wa,.inr ⟨q,G,i,q,G,hs,os,rs,rfl,i.at S.wa,gd.h2,gd.o2,gd.r2,IZ.pm,IZ.pw,IZ.RS,IZ.pr,IZ.wr,λx H1 s1 st=>?_⟩⟩
 obtain⟨y1,y2,y3,as,bs,ds,ex,e1,t1,e2,r2,⟨ob,e3,pl⟩,r3⟩:=st
 refine⟨x,_,rfl,CL.of ex,rfl,_,_,rfl,_,_,rfl,_,_,rfl,rfl,?_⟩
 obtain⟨EJ,FY⟩:=(S.wa.same s1).ob
 refine⟨_,rfl,p,EJ,_,rfl,FY,C4 W ZV,p,W,rfl,S.wa.same s1,λl H2 hl el s2=>?_⟩
 have cT:=Am s1 s2
 have S2:=S.same cT
 have e1:=s2 _ _ e1
 have t1:=BB.keep (HN s2) t1
 have e2:=s2 _ _ e2
 have r2:Paired (NP H2) bs os:=As (λ_ _ r=>r.keep (HN s2)) r2
 have rB:as.length=hs.length:=Paired.length t1
 have lhs:=IZ.pm.length_eq
 have zhd:=gd.h2
 clear ex e3 pl r3 s1 s2 hp FY
 rw[Jip]
 by_cases mv:10<kd
 .by_cases cd:11<kd/\W.ls≠[]
  .refine⟨_,rfl,_,_,rfl,rfl,_,rfl,?_⟩
   rw[AJ cd.1]
   refine Ck ⟨_,rfl,BF _,λr HW=>⟨_,_,.BI (EC.of (Ai HW _ _ el)) (Oa (D6 S2.lw (HN (Ai HW)))),.BI (EC.of Ac) .nil,J6 (Ob S.wg.wl.ok),Wy,_,rfl,?_⟩⟩
   rw[Ou,Z7 S2.lw cd.2]
   refine Ck ?_
   have s3:=Ai (o:=.BI []) HW
   generalize upd H2 r (.BI [])=H3 at s3
   have aK:=s3 _ _ el
   have UJ:(0:Int)<(((W.ls.map λx=>V.ref x.2).length:Nat):Int):=by
    rw[ZA]
    have:=JW.mpr cd.2
    lia
   have j0:=DA c2 (show(((W.ls.map λx=>V.ref x.2).length:Nat):Int)≠0 by lia)
   have j1:=CM c2 UJ
   obtain⟨⟨BP,t⟩,hy⟩:=Au (xs:=W.ls) (j:=(c2 % (((W.ls.map λx=>V.ref x.2).length:Nat):Int)).toNat) (by rw[ZA] at j0 j1 ⊢;lia)
   have cz:PD (W.ls.map λx=>V.ref x.2) (c2 % (((W.ls.map λx=>V.ref x.2).length:Nat):Int))=some (.ref t):=Ej j0 (by rw[ZH,hy];rfl)
   obtain⟨lt,JL⟩:=Au (xs:=ls) (j:=(c2 % (((W.ls.map λx=>V.ref x.2).length:Nat):Int)).toNat) (by rw[<-Paired.length S.lw];exact(ZJ hy).1)
   obtain⟨a1,et⟩:=JA.BC (Ax S2.lw _ _ _ hy JL)
   have et:H2 t=some (.BC (V.int BP::a1)):=et
   obtain⟨l1,l2,z_⟩:=K_ (ZP hy)
   refine⟨_,rfl,_,rfl,_,rfl,l,_,rfl,.inl (EC.of aK),_,_,rfl,rfl,UJ,l,_,_,_,rfl,rfl,EC.of aK,cz,t,_,0,_,rfl,rfl,CL.of (s3 _ _ et),Ej (by decide) rfl,(by show 2<=sizeLine;decide),λx hx=>?_⟩
   exact k x _ (.deliver BP) (Am cT (Am s3 (Ai hx))) Ac ⟨l1,l2,t,z_⟩
  .have cl:∀{H3:Hp},Bi H2 H3->∀x,H3 x=none->Q (.ref x) (upd H3 x (.BC [.str "clean",.int h])):=λ{H3} s3 x hx=>k x _ (.clean h) (Am cT (Am s3 (Ai hx))) Ac ⟨q,G,i⟩
   have rf:Bi H2 H2:=λb o e=>e
   by_cases mn:11<kd
   .have e0:W.ls=[]:=Classical.byContradiction λz=>cd ⟨mn,z⟩
    refine⟨_,rfl,_,_,rfl,rfl,_,rfl,?_⟩
    rw[AJ mn]
    refine Ck ⟨_,rfl,BF _,λr HW=>⟨_,_,.BI (EC.of (Ai HW _ _ el)) (Oa (D6 S2.lw (HN (Ai HW)))),.BI (EC.of Ac) .nil,J6 (Ob S.wg.wl.ok),Wy,_,rfl,?_⟩⟩
    rw[Ou,e0,Z8]
    refine Cd ?_
    refine⟨_,rfl,rfl,_,rfl,?_⟩
    rw[AG (show ¬V.int kd=V.int 11 from λz=>by have:=V.int.inj z;lia)]
    refine Cd (Cd ?_)
    refine⟨_,rfl,_,_,rfl,rfl,_,rfl,?_⟩
    rw[AJ mv]
    exact Ck ⟨_,rfl,(by show 2<=sizeLine;decide),λx hx=>cl (Ai HW) x hx⟩
   .have mX:kd=11:=by lia
    refine⟨_,rfl,_,_,rfl,rfl,_,rfl,?_⟩
    rw[AG mn]
    refine Cd (Cd ?_)
    refine⟨_,rfl,rfl,_,rfl,?_⟩
    rw[AJ (show V.int kd=V.int 11 by rw[mX])]
    refine Ck ⟨_,rfl,_,rfl,Ck ⟨_,rfl,_,_,rfl,rfl,(show(0:Int)<2 by decide),rfl,_,rfl,?_⟩⟩
    refine Tj (λcc=>?_) (λcc=>?_)
    .exact⟨_,rfl,(by show 2<=sizeLine;decide),λx hx=>k x _ (.ask h) (Am cT (Ai hx)) Ac ⟨q,G,i⟩⟩
    .refine⟨_,rfl,_,_,rfl,rfl,_,rfl,?_⟩
     rw[AJ mv]
     exact Ck ⟨_,rfl,(by show 2<=sizeLine;decide),λx hx=>cl rf x hx⟩
 .have xU:¬11<kd:=by lia
  refine⟨_,rfl,_,_,rfl,rfl,_,rfl,?_⟩
  rw[AG xU]
  refine Cd (Cd ?_)
  refine⟨_,rfl,rfl,_,rfl,?_⟩
  rw[AG (show ¬V.int kd=V.int 11 from λz=>by have:=V.int.inj z;lia)]
  refine Cd (Cd ?_)
  refine⟨_,rfl,_,_,rfl,rfl,_,rfl,?_⟩
  rw[AG mv]
  refine Cd ?_
  have mk:∀{H3:Hp},Bi H2 H3->∀x,H3 x=none->Q (.ref x) (upd H3 x (.BC [.str "make",.int h])):=λ{H3} s3 x hx=>k x _ (.make h) (Am cT (Am s3 (Ai hx))) Ac ⟨q,G,i⟩
  have rf:Bi H2 H2:=λb o e=>e
  by_cases uO:kd<2
  .refine⟨_,rfl,_,_,rfl,rfl,_,rfl,?_⟩
   rw[AJ uO]
   exact Ck (Ck ⟨_,rfl,(by show 2<=sizeLine;decide),λx hx=>mk rf x hx⟩)
  .refine⟨_,rfl,_,_,rfl,rfl,_,rfl,?_⟩
   rw[AG uO]
   refine Cd ⟨_,rfl,BF _,λr HW=>⟨_,_,.one (.tupP (CL.of (Ai HW _ _ e1)) (Mb (BB.keep (HN (Ai HW)) t1))),.one (.tupP (CL.of Ac) .nil),Hq (vU hs),Hq (λ_ h=>by cases h),_,rfl,?_⟩⟩
   have s3:=Ai (o:=.BC []) HW
   generalize upd H2 r (.BC [])=H3 at s3
   rw[Vt]
   by_cases e0:hs=[]
   .rw[e0]
    exact Ck ⟨_,rfl,(by show 2<=sizeLine;decide),λx hx=>mk s3 x hx⟩
   .have ne:(hs.map OX).isEmpty=false:=by cases hs with
     | nil=>exact absurd rfl e0
     | cons a b=>rfl
    rw[ne]
    refine Cd ?_
    have e1:=s3 _ _ e1
    have t1:=BB.keep (HN s3) t1
    have e2:=s3 _ _ e2
    have r2:Paired (NP H3) bs os:=As (λ_ _ r=>r.keep (HN s3)) r2
    have wK:=Am cT s3
    clear S2 HW el hl
    have VX:=JW.mpr e0
    have lmap:(as.map V.ref).length=as.length:=ZA ..
    have UJ:(0:Int)<(((as.map V.ref).length:Nat):Int):=by rw[lmap];lia
    have j0:=DA c2 (show(((as.map V.ref).length:Nat):Int)≠0 by lia)
    have j1:=CM c2 UJ
    obtain⟨b,hb⟩:=Au (xs:=as) (j:=(c2 % (((as.map V.ref).length:Nat):Int)).toNat) (by rw[lmap] at j0 j1 ⊢;lia)
    obtain⟨tb,lI⟩:=Au (xs:=hs) (j:=(c2 % (((as.map V.ref).length:Nat):Int)).toNat) (by rw[<-rB];exact(ZJ hb).1)
    have eb:H3 b=some (.BC (tv tb)):=Ax t1 _ _ _ hb lI
    have lx:tb∈G.hand:=IZ.pm.mem_iff.mp (ZP lI)
    have cz:PD (as.map V.ref) (c2 % (((as.map V.ref).length:Nat):Int))=some (.ref b):=Ej j0 (by rw[ZH,hb];rfl)
    refine⟨_,rfl,_,rfl,_,rfl,y1,_,rfl,.inr (CL.of e1),_,_,rfl,rfl,UJ,y1,_,_,_,rfl,rfl,CL.of e1,cz,?_⟩
    refine⟨_,rfl,_,rfl,y1,_,rfl,.inr (CL.of e1),_,_,rfl,rfl,⟨UJ,by rw[lmap];lia⟩,?_⟩
    clear j0 j1 cz hb lI
    generalize c2 / (((as.map V.ref).length:Nat):Int)=c3
    refine⟨_,rfl,y1,rfl,⟨_,CL.of e1⟩,λnr lU=>?_⟩
    have s4:=Ai (o:=.BI []) lU
    refine V0 (K:=K) (a:=y1) (xs:=as.map V.ref) (tt:=uk K) (te:=B6 0) (caps:=[("_law_h",6)])
     (λj ys Hc=>Bi H3 Hc/\Hc nr=some (.BI ys)/\∃zs:List (Addr×T2),ys=zs.map (λz=>V.ref z.1)/\zs.length<=j/\∀z∈zs,H3 z.1=some (.BC (tv z.2))/\z.2∈hs/\z.2.1=h)
     ⟨s4,Ac,[],rfl,ZG _,λz hz=>by cases hz⟩ (λj ys Hc _ hc=>⟨CL.of (hc.1 _ _ e1),hc.2.1⟩) ?_ ?_
    .rintro j x' ys Hc N hj ⟨sc,en,zs,rfl,zl,al⟩ bC
     rw[ZH] at hj
     cases jZ:as[j]? with
     | none=>rw[jZ] at hj;cases hj
     | some aj =>
       rw[jZ] at hj
       cases hj
       have eY:=(ZJ jZ).1
       obtain⟨tj,rQ⟩:=Au (xs:=hs) (j:=j) (by rw[<-rB];exact eY)
       have ej:H3 aj=some (.BC (tv tj)):=Ax t1 _ _ _ jZ rQ
       refine⟨_,rfl,aj,_,_,_,rfl,rfl,CL.of (sc _ _ ej),rfl,_,rfl,rfl,_,rfl,?_⟩
       refine Tj (λcc=>?_) (λcc=>?_)
       .have cc:V.int tj.1=V.int h:=BL cc
        have cc:=V.int.inj cc
        refine⟨_,rfl,en,A7 (by rw[ZA];lia),bC _ _ ⟨λb o e=>?_,Ac,zs++[(aj,tj)],by rw[ZF];rfl,by rw[ZE,DG];lia,λz hz=>?_⟩⟩
        .rw[Ab (Ak e lU)];exact sc b o e
        .rcases ZI hz with hz|hz
         .exact al z hz
         .rw[ZK hz];exact⟨ej,ZP rQ,cc⟩
       .exact bC _ _ ⟨sc,en,zs,rfl,by lia,al⟩
    .rintro ys H4 ⟨cS,en,zs,rfl,zl,al⟩
     have kN:=Am wK cS
     have eb:=cS _ _ eb
     have e2:=cS _ _ e2
     have r2:Paired (NP H4) bs os:=As (λ_ _ r=>r.keep (HN cS)) r2
     have al:∀z∈zs,H4 z.1=some (.BC (tv z.2))/\z.2∈hs/\z.2.1=h:=λz hz=>⟨cS _ _ (al z hz).1,(al z hz).2⟩
     have zl:zs.length<=64:=by rw[lmap] at zl;lia
     clear s4 cS t1 e1 lU
     have fr:∀{H5:Hp},Bi H4 H5->∀x,H5 x=none->Q (.ref x) (upd H5 x (.BC [.str "free",.int h,.ref b])):=λ{H5} s5 x hx=>k x _ (.free h b) (Am kN (Am s5 (Ai hx))) Ac ⟨q,G,tb,i,Ai hx _ _ (s5 _ _ eb),lx⟩
     by_cases c5:kd<5
     .refine⟨_,rfl,_,_,rfl,rfl,_,rfl,?_⟩
      rw[AJ c5]
      refine Ck ⟨_,rfl,_,rfl,_,rfl,_,_,rfl,rfl,VU,_,rfl,(by show 4<=sizeLine;decide),λx hx=>?_⟩
      exact k x _ (.send h (c3 % (m:Int)) b) (Am kN (Ai hx)) Ac ⟨q,G,tb,i,DA c3 (show(m:Int)≠0 by lia),CM c3 VU,Ai hx _ _ eb,lx⟩
     .refine⟨_,rfl,_,_,rfl,rfl,_,rfl,?_⟩
      rw[AG c5]
      refine Cd ?_
      by_cases c8:8<kd
      .refine⟨_,rfl,_,_,rfl,rfl,_,rfl,?_⟩
       rw[AJ c8]
       exact Ck (Ck ⟨_,rfl,_,rfl,(by show 3<=sizeLine;decide),λx hx=>fr (λb o e=>e) x hx⟩)
      .refine⟨_,rfl,_,_,rfl,rfl,_,rfl,?_⟩
       rw[AG c8]
       refine Cd ⟨_,rfl,BF _,λr' HW=>⟨_,_,.BI (EC.of (Ai HW _ _ en)) (vS λz hz=>Ai HW _ _ (al z hz).1),.BI (EC.of Ac) .nil,J6 (Jhq zs),Wy,_,rfl,?_⟩⟩
       have s5:=Ai (o:=.BI []) HW
       generalize upd H4 r' (.BI [])=H5 at s5
       rw[Ou]
       by_cases z0:zs=[]
       .rw[z0]
        exact Ck ⟨_,rfl,_,rfl,(by show 3<=sizeLine;decide),λx hx=>fr s5 x hx⟩
       .rw[rH z0]
        refine Cd ?_
        have qS:=Am kN s5
        have eb:=s5 _ _ eb
        have e2:=s5 _ _ e2
        have en:=s5 _ _ en
        have r2:Paired (NP H5) bs os:=As (λ_ _ r=>r.keep (HN s5)) r2
        have JGb:=JW.mpr z0
        have bN:(zs.map λz=>V.ref z.1).length=zs.length:=ZA ..
        have WD:(0:Int)<(((zs.map λz=>V.ref z.1).length:Nat):Int):=by rw[bN];lia
        have j0:=DA c3 (show(((zs.map λz=>V.ref z.1).length:Nat):Int)≠0 by lia)
        have j1:=CM c3 WD
        obtain⟨⟨a,ta⟩,ha⟩:=Au (xs:=zs) (j:=(c3 % (((zs.map λz=>V.ref z.1).length:Nat):Int)).toNat) (by rw[bN] at j0 j1 ⊢;lia)
        have cz:PD (zs.map λz=>V.ref z.1) (c3 % (((zs.map λz=>V.ref z.1).length:Nat):Int))=some (.ref a):=Ej j0 (by rw[ZH,ha];rfl)
        obtain⟨ea,yJ,near⟩:=al _ (ZP ha)
        have ea:H5 a=some (.BC (tv ta)):=s5 _ _ ea
        have l6:ta∈G.hand:=IZ.pm.mem_iff.mp yJ
        have near:ta.1=G.BP:=by rw[nu];exact near
        have mem:ta∈os.map (·.1):=IZ.RS.pm.mem_iff.mpr (sd.ok.hk ta l6 near)
        refine⟨_,rfl,_,rfl,_,rfl,nr,_,rfl,.inl (EC.of en),_,_,rfl,rfl,WD,nr,_,_,_,rfl,rfl,EC.of en,cz,?_⟩
        refine⟨_,rfl,_,rfl,y2,a,bs,os,ta,rfl,e2,r2,ea,mem,λhd cs o hl hm mP kF=>?_⟩
        have ri:∀{H6:Hp},Bi H5 H6->∀x,H6 x=none->Q (.ref x) (upd H6 x (.BC [.str "hold",.int h,.ref a,.ref b])):=λ{H6} s6 x hx=>k x _ (.three "hold" h a b) (Am qS (Am s6 (Ai hx))) Ac ⟨q,G,ta,tb,i,Ai hx _ _ (s6 _ _ ea),Ai hx _ _ (s6 _ _ eb),l6,near,.inl ⟨rfl,lx⟩⟩
        by_cases c7:kd<7
        .refine⟨_,rfl,_,_,rfl,rfl,_,rfl,?_⟩
         rw[AJ c7]
         exact Ck (Ck ⟨_,rfl,_,rfl,_,rfl,(by show 4<=sizeLine;decide),λx hx=>ri (λb o e=>e) x hx⟩)
        .refine⟨_,rfl,_,_,rfl,rfl,_,rfl,?_⟩
         rw[AG c7]
         refine Cd ⟨_,rfl,BF _,λr6 lO=>⟨_,_,.one (.tupP (CL.of (Ai lO _ _ mP)) (Mb (BB.keep (HN (Ai lO)) kF))),.one (.tupP (CL.of Ac) .nil),Hq (vU hl),Hq (λ_ h=>by cases h),_,rfl,?_⟩⟩
         have s6:=Ai (o:=.BC []) lO
         generalize upd H5 r6 (.BC [])=H6 at s6
         rw[Vt]
         by_cases l_:hl=[]
         .rw[l_]
          exact Ck ⟨_,rfl,_,rfl,_,rfl,(by show 4<=sizeLine;decide),λx hx=>ri s6 x hx⟩
         .rw[rH l_]
          refine Cd ?_
          obtain⟨_,a0,hl0,zG,z64,wZ,_⟩:=IZ.RS.at_ _ hm
          have lcs:cs.length=hl.length:=Paired.length kF
          have FV:=JW.mpr l_
          have iP:(cs.map V.ref).length=cs.length:=ZA ..
          have aU:(0:Int)<(((cs.map V.ref).length:Nat):Int):=by rw[iP];lia
          have i0:=DA (c3 / (((zs.map λz=>V.ref z.1).length:Nat):Int)) (show(((cs.map V.ref).length:Nat):Int)≠0 by lia)
          have i1:=CM (c3 / (((zs.map λz=>V.ref z.1).length:Nat):Int)) aU
          obtain⟨cb,lr⟩:=Au (xs:=cs) (j:=(c3 / (((zs.map λz=>V.ref z.1).length:Nat):Int) % (((cs.map V.ref).length:Nat):Int)).toNat) (by rw[iP] at i0 i1 ⊢;lia)
          obtain⟨tc,rR⟩:=Au (xs:=hl) (j:=(c3 / (((zs.map λz=>V.ref z.1).length:Nat):Int) % (((cs.map V.ref).length:Nat):Int)).toNat) (by rw[<-lcs];exact(ZJ lr).1)
          have ec:H5 cb=some (.BC (tv tc)):=Ax kF _ _ _ lr rR
          have pJ:PD (cs.map V.ref) (c3 / (((zs.map λz=>V.ref z.1).length:Nat):Int) % (((cs.map V.ref).length:Nat):Int))=some (.ref cb):=Ej i0 (by rw[ZH,lr];rfl)
          have x8:tc∈Ce G.holds ta:=by rw[Je5 zG];exact wZ.mem_iff.mp (ZP rR)
          refine⟨(by show 2<=sizeLine;decide),λwl eI=>?_⟩
          have s7:=Ai (o:=.BI [.str "drop",.str "take"]) eI
          have tM:(upd H6 wl (.BI [.str "drop",.str "take"])) wl=some (.BI [.str "drop",.str "take"]):=Ac
          generalize upd H6 wl (.BI [.str "drop",.str "take"])=H7 at s7 tM
          have cR:=Am s6 s7
          obtain⟨wd,yF,hw⟩:∃wd:Str,PD [V.str "drop",V.str "take"] (kd-7)=some (.str wd)/\(wd="drop"\/wd="take"):=by
           rcases(show kd=7\/kd=8 by lia) with e|e<;>rw[e]
           .exact⟨"drop",Ej (by decide) rfl,.inl rfl⟩
           .exact⟨"take",Ej (by decide) rfl,.inr rfl⟩
          refine⟨_,rfl,_,_,rfl,rfl,wl,_,_,_,rfl,rfl,EC.of tM,yF,?_⟩
          refine⟨_,rfl,?_⟩
          refine⟨_,rfl,?_⟩
          refine⟨_,rfl,?_⟩
          refine⟨_,rfl,?_⟩
          refine⟨_,rfl,nr,_,rfl,.inl (EC.of (cR _ _ en)),?_⟩
          refine⟨_,_,rfl,rfl,⟨WD,by rw[bN];lia⟩,?_⟩
          refine⟨_,rfl,hd,_,rfl,.inr (CL.of (cR _ _ mP)),?_⟩
          refine⟨_,_,rfl,rfl,aU,?_⟩
          refine⟨hd,_,_,_,rfl,rfl,CL.of (cR _ _ mP),pJ,?_⟩
          refine⟨(by show 4<=sizeLine;decide),λx hx=>?_⟩
          exact k x _ (.three wd h a cb) (Am qS (Am cR (Ai hx))) Ac ⟨q,G,ta,tc,i,Ai hx _ _ (cR _ _ ea),Ai hx _ _ (cR _ _ ec),l6,near,.inr ⟨hw,x8⟩⟩
end
end K61
namespace FX
open PySem PySem.Spec PyProof.Rows L2
def Jjc(K:W.Frag)(D:Addr)(tb:(L2.St->XK)->TS)(ts:TS):TS:=λE σ H=>tb (λEV cls _ H'=>∃C,Jhp K D cls C/\ts E EV H') E σ H
section
theorem Jgi(UK:X.stack=X.env::X.outer)(aG:X.env.frame=some X.env.locals)(hex:X.ex=[])(hg:Gl X x)(cD:Tv X.K X.mg x D)(hb:∀(AA:List (Addr×Obj)) (E:Value->Shared->Prop) (ES:L2.St->XK),Tw (P9 X AA E) ES->N' (P9 X AA E) body (tb ES))(hs:∀ex,N' (eE X ex) (iR::aR) ts)(hd:(x==("__debug__":Str))=false:=by decide) : PS X (.Try body [.ExceptHandler (some (.Name x np)) none (iR::aR) VX] [] [] pos) (Jjc X.K D tb ts):=by
 intro AA s σ H E I h;refine wpAny_Try_except (DW (hb AA (λe s1=>wpAny (model X.prog X.w) X.A (noteFrame e X.env) (λ_ s2=>wpAny (model X.prog X.w) X.A (setFlight e none) (λ_ s3=>wpAny (model X.prog X.w) X.A (handleBy e X.env [.ExceptHandler (some (.Name x np)) none (iR::aR) VX]) (SP X AA E) X.xe s3) X.xe s2) X.xe s1) _ ?_ [] s σ H E (Jaf I) h) (λf s1 q=>?_) λe s1 q=>q);· intro RE EV H0 s0 e s' I0 ⟨ex,cls,H',he,xt,⟨C,⟨VY,bp⟩,hE⟩,ho,r8,u,ok⟩;subst he VY;have I1:Inv X AA EV H0 s0:=F8 I0;(have sN:∀b∈KI (X.env::X.outer),H' b=none:=λb hb=>by have:=I1.OA b (by rw[UK];exact hb);obtain⟨o,e1,_⟩:=(I1.stack.mem (by rw[UK];exact hb)).2;exact u.free b o e1 this (by simp));(have zC:∀b∈KI (X.env::X.outer),¬(s0.heap.get? b=none/\H' b=none):=λb hb z=>by obtain⟨o,e1,_⟩:=(I1.stack.mem (by rw[UK];exact hb)).2;rw[e1] at z;cases z.1);have I2:Inv X AA EV H' s':=I1.TM (ch:=[]) ho u ok r8 (λb hb=>by simp at hb);(have fl:s'.heap.FunFrames X.base (X.env::X.outer):=by have:=I2.stack;rwa [UK] at this);(have ye:X.A.frames=some (X.env::X.outer):=by rw[I1.ok.frames,UK]);(have none_:∀b,s'.heap.get? b=none->s0.heap.get? b=none/\H' b=none:=λb q=>by constructor;(.cases q2:s0.heap.get? b with | none=>rfl | some o =>obtain⟨o',e1⟩:=u.there b o q2 (by simp);rw[q] at e1;cases e1);.cases q2:H' b with | none=>rfl | some o =>obtain⟨ob,e1⟩:=Lc ok q2;rw[q] at e1;cases e1);(have back:∀{h':Heap} (t:Nat),JZ (KI (X.env::X.outer)) (λb=>s0.heap.get? b=none/\H' b=none) s'.heap h'->Inv X AA EV H' { s' with heap:=h',toks:=t }:=λ{h'} t as=>by refine I1.TM (s':={ s' with heap:=h',toks:=t }) (ch:=[]) ho ?_ (Qa ok as sN λb z=>z.2) r8 (λb hb=>by simp at hb);have u':Un (KI X.stack) [] H0 H' s0.heap s'.heap:=u;exact T3 u' as (λb o e1 z=>by rw[e1] at z;cases z.1) (λb o e1 m=>by rw[UK];exact m) sN);refine Jgz (base:=X.base) (L:=X.env.locals) ye fl aG xt none_ λh1 x1 I_=>?_;have J1:=back s'.toks I_;obtain⟨oe,vs,a0,T,oT,cO,b1,b2,b3,_⟩:=x1.2;refine wpAny_handleBy_cons (codeAny_handlers_test (Hu (X:=eE X ex) (Y0 J1) hg cD.mg ?_ hd)) (by intro q;cases q);refine Jf2 J1.LX cD.ex bp b1 b2 ?_;refine codeAny_handlers_suite (Jg1 (s:={ s' with heap:=h1 }) x1 zC λh2 x2 QY=>?_);have J2:=back s'.toks (I_.trans QY);refine DW (hs ex AA _ _ _ E (Y0 J2) hE) (λf s5 q=>?_) λ_ _ z=>z.elim;cases f with | next=>obtain⟨j7,H5,J5,q5⟩:=q;exact⟨_,H5,Mo J5 J2.ok,q5⟩ | brk=>obtain⟨j7,H5,J5,q5⟩:=q;exact⟨_,H5,Mo J5 J2.ok,q5⟩ | cont=>obtain⟨j7,H5,J5,q5⟩:=q;exact⟨_,H5,Mo J5 J2.ok,q5⟩ | ret v=>obtain⟨v5,j7,H5,J5,r5,q5⟩:=q;exact⟨v5,_,H5,Mo J5 J2.ok,r5,q5⟩
 .cases f with | next=>obtain⟨SS,H1,I1,q1⟩:=q;exact LJ ⟨SS,H1,F8 I1,q1⟩ | brk=>obtain⟨SS,H1,I1,q1⟩:=q;exact⟨SS,H1,F8 I1,q1⟩ | cont=>obtain⟨SS,H1,I1,q1⟩:=q;exact⟨SS,H1,F8 I1,q1⟩ | ret v=>obtain⟨v1,SS,H1,I1,r1,q1⟩:=q;exact⟨v1,SS,H1,F8 I1,r1,q1⟩
end
end FX
namespace K61
open PySem L2 FX
section
theorem gI:Ao ["_law_script","_law_cell_here"] ["_law_script"] (Aj Rv):={}
def Xy(K:W.Frag):Sp:=λvs H Q _=>∃(a:Addr)(ns:List Int),vs=[.ref a]/\EC K H a (ns.map V.int)/\ns.length<=63/\∀(v:Int)(H':Hp),Bi H H'->2<=v->Q (.int v) H'
theorem Jcb(F:EK K "_law_share" "_law_share" Rv f fd)(hl:mg "len"=none)(MC:QU K mg "_law_cell" Uj ["_law_script","_law_k"] fC dC):CV P w K mg base 2 f fd ["_law_script"] (Xy K):=by
 have GC:CV P w K mg base 1 fC dC ["_law_script","_law_k"] (Wi K):=Yr MC.fn hl;refine F.IQ gI λvs H Q E h=>?_;obtain⟨a,ns,rfl,hS,hlen,k⟩:=h;refine⟨rfl,λDP A outer s hr=>?_⟩;refine⟨_,Ad (Aw (i:=1) gI.nd rfl (Or.inl rfl) (Cs GC hr (by rfl) MC.mg MC.fn.kp MC.bd .nil Bb (Aa (pv 0) (Aa Ah Af)))) (Ae (Ar (Az D9 (Fa (Aa Ah (Aa Ah (Aa Ah (Aa (Be Fc Ah (Be C1 (Be Fh (pv 1) Ah) (Be Jgp Ah Ah))) Af))))) (Be C1 (pv 1) Ah)))),?_⟩;refine⟨_,rfl,a,ns,1,rfl,hS,hlen,by decide,by decide,λv=>?_⟩;refine⟨_,rfl,_,_,rfl,rfl,⟨by decide,by decide⟩,_,_,rfl,rfl,⟨by decide,by decide,by decide⟩,_,_,rfl,rfl,(show(0:Int)<10 ^ 59 by decide),_,_,rfl,rfl,(by show 4<=sizeLine;decide),λsl WY=>?_⟩;obtain⟨x,hx⟩:∃x,V.int x=V.int (2+v / 4 % (10:Int) ^ (59:Int).toNat):=⟨_,rfl⟩;have x2:2<=x:=by have:=V.int.inj hx;have e:=DA (v / 4) (show(10:Int) ^ (59:Int).toNat≠0 by decide);lia
 have s1:=Ai (o:=.BI [V.int 2,V.int 2,V.int 3,V.int (2+v / 4 % (10:Int) ^ (59:Int).toNat)]) WY;have esl:(upd H sl (.BI [V.int 2,V.int 2,V.int 3,V.int (2+v / 4 % (10:Int) ^ (59:Int).toNat)])) sl=some (.BI [V.int 2,V.int 2,V.int 3,V.int (2+v / 4 % (10:Int) ^ (59:Int).toNat)]):=Ac;obtain⟨sh,lK,kK⟩:∃sh:Int,PD [V.int 2,V.int 2,V.int 3,V.int (2+v / 4 % (10:Int) ^ (59:Int).toNat)] (v % 4)=some (.int sh)/\2<=sh:=by rw[<-hx];rcases(show v % 4=0\/v % 4=1\/v % 4=2\/v % 4=3 by lia) with e|e|e|e<;>rw[e];(.exact⟨2,Ej (by decide) rfl,by decide⟩);(.exact⟨2,Ej (by decide) rfl,by decide⟩);(.exact⟨3,Ej (by decide) rfl,by decide⟩);.exact⟨x,Ej (by decide) rfl,x2⟩
 exact⟨_,rfl,_,_,rfl,rfl,(show(0:Int)<4 by decide),sl,_,_,V.int sh,rfl,rfl,EC.of esl,lK,k sh _ s1 kK⟩
theorem bR:Ao ["_law_world","_law_deed_here","_law_thin"] ["_law_world","_law_deed_here"] (Aj jy):={}
def nZ(CW C CP CI:Addr)(K:W.Frag):Sp:=λvs H Q _=>∃(p x:Addr)(W:FZ)(D:T2->Prop)(m n:Nat)(al:List LL)(ys:List Qy)(dd:Dd),vs=[.ref p,.ref x]/\H x=some (.BC (mj dd))/\WI CW C CP CI K H p W D m n al ys/\n<60/\Val W m H dd /\
 ∀(v:V)(H':Hp)(W':FZ)(D':T2->Prop)(al':List LL)(aW:List Qy),WI CW C CP CI K H' p W' D' m (n+1) al' aW->jt p W ys H H'->W'.hs=W.hs->Q v H'
theorem Jgt(F:EK K "_law_try" "_law_try" jy f fd)(T:Txt K mg C Cn DO MI NW)(sub:W.mroIn K NW (.ref NW)=some true)(MD:QU K mg "_law_do" jD ["_law_world","_law_deed_here"] fD dD)(GD:EU P w K mg base 7 fD dD ["_law_world","_law_deed_here"] (nJ CW C CP CI NH Cn DO MI NW K)) : CV P w K mg base 8 f fd ["_law_world","_law_deed_here"] (nZ CW C CP CI K):=by
 refine F.IQ bR λvs H Q E h=>?_;obtain⟨p,x,W,D,m,n,al,ys,dd,rfl,ex,S,hn,va,k⟩:=h;refine⟨rfl,λDP A outer s hr=>?_⟩;have yP:CU 7 _:=hr;refine⟨_,Ad (Aw (i:=2) bR.nd rfl (Or.inl rfl) Fg) (Ad (Jgi rfl rfl rfl rfl T.uN (λAA E ES yp=>Ae (A5 (Jbx GD yP (by rfl) MD.mg MD.fn.kp MD.bd yp (Aa (pv 0) (Aa (pv 1) Af))))) (λex=>Ae (Aw (i:=2) bR.nd rfl (Or.inl rfl) Fg))) (Ae (Ar (pv 2)))),?_⟩;obtain⟨dx,hp⟩:=S.wa.ob;refine⟨_,rfl,_,rfl,p,x,dx,_,dd,rfl,ex,hp,Jaz W,?_⟩;refine Jhc S hn va (λv W' D' al' aW H' wi ae mO=>?_) ?_;.exact⟨_,rfl,k _ H' W' D' al' aW wi ae mO⟩
 .exact⟨NW,⟨rfl,sub⟩,_,rfl,k _ H W D al ys S.vq (λb o e _ _=>e) rfl⟩
end
section
theorem Jjn:Ao ["_law_letter"] ["_law_letter"] (Aj Jo):={}
def Po:Sp:=λvs H Q _=>∃(t:Addr)(BP s g x:Int)(kind:Str)(th:T2),vs=[.ref t]/\II H t BP kind s g th x/\Q (.int (JS th ⟨kind,s,g,th,x⟩)) H
theorem Wv(F:EK K "_law_weight" "_law_weight" Jo f fd):CV P w K mg base 1 f fd ["_law_letter"] Po:=by
 refine F.ok Jjn (λvs H Q E h=>?_) (λDP A outer s H vs Q E hr h=>?_);.obtain⟨t,BP,s,g,x,kind,th,rfl,_⟩:=h;rfl
 .obtain⟨t,BP,s,g,x,kind,th,rfl,⟨a,b,e1,e2,e3⟩,k⟩:=h;refine⟨_,Ad (Bf (A3 Cy (Az Av (pv 0) Ah) Bk (A6 _)) (Ae (Ar Ah)) A4) (Ae (Ar (Az Av (Az Av (pv 0) Ah) Ah))),?_⟩;refine⟨_,rfl,t,_,_,_,rfl,rfl,CL.of e1,rfl,rfl,_,rfl,?_⟩;have k:Q (.int (if th=th then(if kind="pass" then 1 else x) else 0)) H:=k;rw[AE rfl] at k;by_cases c:kind="pass";(.rw[AJ (show V.str kind=V.str "pass" by rw[c])];rw[AE c] at k;exact Ck k);.rw[AG (show ¬V.str kind=V.str "pass" from λz=>c (V.str.inj z))];rw[AB c] at k;exact Cd ⟨_,rfl,t,_,_,_,rfl,rfl,CL.of e1,rfl,a,_,_,_,rfl,rfl,CL.of e2,rfl,k⟩
theorem SA:Ao ["_law_world","_law_many","_law_sums_here","_law_h","_law_thing","_law_weight_here","_law_letter"] ["_law_world","_law_many"] (Aj X8):={}
def Wc(CW C CP CI:Addr)(K:W.Frag):Sp:=λvs H Q _=>∃(p:Addr)(W:FZ)(D:T2->Prop)(m n:Nat)(al:List LL)(ys:List Qy),vs=[.ref p,.int (m:Int)]/\WI CW C CP CI K H p W D m n al ys/\n<=60 /\
 ∀(r:Addr)(l:List (T2×Int))(H':Hp),Bi H H'->H' r=some (Cf l)->(∀t,Ex l t=((List.range m).map λh=>O_ t W.qs h).sum+B0 t (GB al))->Q (.ref r) H'
theorem in4:eF (.str kind) [V.str "hold",V.str "pass",V.str "more",V.str "back"]=decide (kind="hold"\/kind="more"\/kind="back"\/kind="pass"):=by
 unfold eF;simp only[JK,List.any_nil,Bool.or_false];have e:∀c:Str,YB (.str c) (.str kind)=decide (kind=c):=λc=>by show decide (c=kind)=_;by_cases h:c=kind;(.rw[AJ h,AJ h.symm]);.rw[AG h,AG λz=>h z.symm]
 rw[e,e,e,e];by_cases h1:kind="hold" <;> by_cases h2:kind="pass" <;> by_cases h3:kind="more" <;> by_cases h4:kind="back" <;> simp[h1,h2,h3,h4]
end
section
theorem jv{b:Bool}{p q:Prop}(h:b=false)(k:q):if b=true then p else q:=by rw[h];exact k
theorem Jkf{b:Bool}{p q:Prop}(h:b=true)(k:p):if b=true then p else q:=by rw[h];exact k
theorem uv(l:List (T2×Int))(x:T2×Int):(l++[x]).foldl addW []=addW (l.foldl addW []) x:=by rw[LU];rfl
theorem Jcy(t:T2)(l:List (T2×Int)):Ex (l.foldl addW []) t=Ey t l:=by rw[Ld];have:Ex [] t=0:=rfl;rw[this];lia
theorem Ja6(t:T2)(l:List (T2×Int))(l1:LT):Ey t (l++[(l1.th,JS l1.th l1)])=Ey t l+JS t l1:=by simp_all [Ey,JS,T2,LT]
theorem Jej{f fS fL fW:Addr}{fd dS dL dW:FuncData}(F:EK K "_law_sums" "_law_sums" X8 f fd)(T:Txt K mg C Cn DO MI NW)(TW:Ek K mg CW NH NI)(MW:QU K mg "_law_weight" Jo ["_law_letter"] fW dW)(MS:CO K CW "state" "World.state" Hg ["self","h"] fS dS)(gB:EU P w K mg base 3 fS dS ["self","h"] (Ep CW C CP NH K))(ML:CO K CW "letters" "World.letters" Fy ["self"] fL dL)(GL:CV P w K mg base 2 fL dL ["self"] (Gg CW C CP)) : CV P w K mg base 4 f fd ["_law_world","_law_many"] (Wc CW C CP CI K):=by
 have GW:CV P w K mg base 1 fW dW ["_law_letter"] Po:=Wv MW.fn;have GS:CV P w K mg base 3 fS dS ["self","h"] (λvs H Q _=>Ep CW C CP NH K vs H Q E0):=FX.DZ.no gB;refine F.IQ SA λvs H Q E h=>?_;obtain⟨p,W,D,m,n,al,ys,rfl,S,hn,k⟩:=h;refine⟨rfl,λDP A outer s hr=>?_⟩;have hu:=B3 hr;have GO:CU 1 _:=hr.mono (by decide);have NB:CU 2 _:=hr.mono (by decide);have UU:CU 3 _:=hr.mono (by decide);refine⟨_,Ad (Aw (i:=2) SA.nd rfl (Or.inl rfl) Dv) (Ad (Dg PassesOwn.never rfl (F2 rfl T.range (Aa (pv 1) Af)) (Bl (i:=3) SA.nd rfl (Or.inl rfl)) (Ae (Dg PassesOwn.never rfl (Gk (Az Av (Ap (pl:=_) (pv 0) TW.cl MS.mt GS UU MS.bd .nil Bb (Aa (pv 3) Af)) Ah)) (Kz rfl (Cc (Bl (i:=4) SA.nd rfl (Or.inl rfl)) (Cc (Bl (i:=5) SA.nd rfl (Or.inl rfl)) Ho))) (Ad (Bf (A3 Nn (pv 5) Ah (A6 _)) (Ae (Ar vO)) A4) (Ae (Bz hu (pv 2) (pv 4) (Be Fc (F3 hu (pv 2) (pv 4) Ah ⟨rfl,rfl,rfl,rfl⟩) (pv 5)) rfl)))))) (Ad (Dg PassesOwn.never rfl (Dl (C9 (pl:=_) (pv 0) TW.cl ML.mt GL NB ML.bd .nil Bb)) (Bl (i:=6) SA.nd rfl (Or.inl rfl)) (Ae (Bf (A3 Zz (Az Av (pv 6) Ah) (Ca (Aa Bk (Aa Bk (Aa Bk (Aa Bk Af))))) rfl) (Ad (Aw (i:=5) SA.nd rfl (Or.inl rfl) (Cs GW GO (by rfl) MW.mg MW.fn.kp MW.bd .nil Bb (Aa (pv 6) Af))) (Ad (Bf (A3 Nn (pv 5) Ah (A6 _)) (Ae (Ar vO)) A4) (Ae (Bz hu (pv 2) (Az Av (Az Av (pv 6) Ah) Ah) (Be Fc (F3 hu (pv 2) (Az Av (Az Av (pv 6) Ah) Ah) Ah ⟨rfl,rfl,rfl,rfl⟩) (pv 5)) rfl)))) A4))) (Ae (Ar (pv 2))))),?_⟩;have m5:=S.m5;have oH:W.qs.length=m:=S.wg.wl.len;intro r PR;have s1:=Ai (o:=.dT []) PR;have e1:(upd H r (.dT [])) r=some (Cf []):=Ac;generalize upd H r (.dT [])=H1 at s1 e1;refine⟨_,rfl,(m:Int),rfl,by lia,by lia,?_⟩;refine Lf (lo:=0) (n:=m) (λi σ H'=>∃(u3 u4 u5:Option V)(B:List (T2×Int)),σ=[some (.ref p),some (.int (m:Int)),some (.ref r),u3,u4,u5,none]/\Bi H H'/\H' r=some (Cf (B.foldl addW []))/\B.length<=64*i/\∀t,Ey t B=((List.range i).map λh=>O_ t W.qs h).sum) ⟨_,_,_,[],rfl,s1,e1,BF _,λt=>by simp[Ey]⟩ ?_ ?_;.rintro i σ H2 hi ⟨u3,u4,u5,B,rfl,s2,er,zB,hB⟩;rw[show(0:Int)+(i:Int)=(i:Int) by lia];have S2:=S.same s2;obtain⟨⟨q,G⟩,hq⟩:=Au (xs:=W.qs) (j:=i) (by lia);have iw:IH W (i:Int) q G:=⟨by lia,by rw[DF];exact hq⟩;obtain⟨sd,nu⟩:=S.wg.BP hq;have gd:=S.wg.wl.good hn hq;obtain⟨hs,os,rs,IZ⟩:=gd.told;obtain⟨dx,hp⟩:=S2.wa.ob;refine⟨_,rfl,p,dx,_,rfl,hp,C4 W ZV,_,rfl,p,(i:Int),W,rfl,S2.wa,.inr ⟨q,G,iw,q,G,hs,os,rs,rfl,iw.at S2.wa,gd.h2,gd.o2,gd.r2,IZ.pm,IZ.pw,IZ.RS,IZ.pr,IZ.wr,λx H3 s3 st=>?_⟩⟩;obtain⟨y1,y2,y3,as,bs,ds,f0,f1,t1,f2,t2,f3,t3⟩:=(nA st:PV K H3 x (hs,os,rs));have t3:Paired (WA K H3) ds rs:=t3;refine⟨x,_,2,V.ref y3,rfl,rfl,f0,rfl,y3,rfl,⟨_,f3⟩,?_⟩;have YA:=s3 _ _ er;have ao:=Am s2 s3;(have xX:rs.length<64:=by rw[IZ.pr.length_eq];exact gd.r2);refine Hv (K:=K) (a:=y3) (xs:=ds) (λj σ H'=>∃(w4 w5:Option V),σ=[some (.ref p),some (.int (m:Int)),some (.ref r),some (.int (i:Int)),w4,w5,none]/\H' r=some (Cf ((B++rs.take j).foldl addW []))/\BU H3 H'/\Bi H H') ⟨_,_,rfl,by rw[HC,AH];exact YA,BU.refl _,ao⟩ (λj σ H' _ h9=>by obtain⟨_,_,_,_,k3,_⟩:=h9;exact k3.sq f3) ?_ ?_;(.rintro j v σ H4 hj ⟨w4,w5,rfl,NC,UT,s4⟩;obtain⟨x,ex⟩:=Au (xs:=rs) (j:=j) (by rw[<-Paired.length t3];exact(ZJ hj).1);obtain⟨a,t,rfl,g1,g2⟩:=(Ax t3 j v x hj ex).keep UT;have W_:=(ZJ ex).1;have nn:0<=x.2:=sd.nn x (IZ.pr.mem_iff.mp (ZP ex));refine⟨a,_,rfl,g1,rfl,_,_,rfl,_,_,rfl,rfl,?_⟩;refine⟨_,rfl,_,_,rfl,rfl,_,rfl,?_⟩;rw[AG (show ¬x.2<0 by lia)];refine Cd ?_;refine⟨_,rfl,r,rfl,.inr ⟨_,.inl NC⟩,_,rfl,_,DJ.t (k:=tk x.1) NC g2,_,rfl,_,x.2,K61F.KD _ _,rfl,_,rfl,_,rfl,r,_,rfl,FF.t (k:=tk x.1) NC g2 (by rw[ZA];have:=K61F.KP (B++rs.take j) [];rw[ZE,B_] at this;simp only[BN] at this;exact K61F.FL (by lia)),?_⟩;rw[Df];(have aB:∀u:HO,BU H4 (upd H4 r u):=λu=>OI λo' e=>by rw[NC] at e;cases e;exact⟨λ_ z=>(by cases z),λ_ _ z=>(by cases z)⟩);refine⟨_,_,rfl,?_,UT.trans (aB _),λb ob e=>by rw[Ab (Ak e PR)];exact s4 _ _ e⟩;(have e8:B++rs.take (j+1)=(B++rs.take j)++[x]:=by rw[DE,ex,<-AW];rfl);rw[e8,uv];exact Ac);.rintro σ H4 ⟨w4,w5,rfl,NC,UT,s4⟩;rw[Paired.length t3,BM] at NC;refine⟨_,_,_,B++rs,rfl,s4,NC,by rw[ZE];lia,λt=>?_⟩;have UQ:(rs.map (·.1)).Nodup:=(IZ.pr.map _).nodup_iff.mpr sd.ok.rn;rw[T6,hB,DT,ZF,OD,My UQ,Kh IZ.pr sd.ok.rn];simp only[AK,E',DH,List.sum_nil];(have:O_ t W.qs i=Ag G.AM t:=by unfold O_;rw[hq];rfl);rw[this];lia
 .rintro σ H2 ⟨u3,u4,u5,B,rfl,s2,er,zB,hB⟩;have S2:=S.same s2;obtain⟨dx,hp⟩:=S2.wa.ob;refine⟨_,rfl,p,dx,_,rfl,hp,C4 W ZV,p,W,rfl,S2.wa,λl H3 hl el s3=>?_⟩;have YA:=s3 _ _ er;have ao:=Am s2 s3;have S3:=S2.same s3;(have rl:r≠l:=λz=>by rw[<-z,er] at hl;cases hl);have xk:=S.len;have zal:=S.lz;refine⟨l,rfl,⟨_,EC.of el⟩,?_⟩;refine Hf (K:=K) (a:=l) (xs:=W.ls.map λx=>V.ref x.2) (λj σ H'=>∃(w5 w6:Option V)(Bj:List (T2×Int)),σ=[some (.ref p),some (.int (m:Int)),some (.ref r),u3,u4,w5,w6]/\H' r=some (Cf (Bj.foldl addW []))/\H' l=some (.BI (W.ls.map λx=>V.ref x.2))/\BU H3 H'/\Bi H H'/\Bj.length<=320+j/\∀t,Ey t Bj=((List.range m).map λh=>O_ t W.qs h).sum+B0 t (GB (al.take j))) ⟨_,_,B,rfl,YA,el,BU.refl _,ao,by lia,λt=>by rw[hB];simp[GB,B0]⟩ (λj σ H' _ h9=>by obtain⟨_,_,_,_,_,e,_⟩:=h9;exact EC.of e) ?_ ?_;(.rintro j v σ H4 hj ⟨w5,w6,Bj,rfl,NC,VM,UT,s4,zj,jX⟩;(have yc:j<W.ls.length:=by have:=(ZJ hj).1;rw[ZA] at this;exact this);obtain⟨⟨BP,t⟩,hy⟩:=Au (xs:=W.ls) (j:=j) yc;rw[ZH,hy] at hj;have hj:V.ref t=v:=ZO hj;subst hj;obtain⟨z,hz⟩:=Au (xs:=al) (j:=j) (by lia);have lo:=(Ax S3.lw j _ z hy hz).keep UT;(have HV:al.take (j+1)=al.take j++[z]:=by rw[DE,hz];rfl);have done:∀{H5:Hp},Bi H4 H5->GB [z]=[]->H5 r=some (Cf (Bj.foldl addW []))/\H5 l=some (.BI (W.ls.map λx=>V.ref x.2))/\BU H3 H5/\Bi H H5/\Bj.length<=320+(j+1)/\∀t,Ey t Bj=((List.range m).map λh=>O_ t W.qs h).sum+B0 t (GB (al.take (j+1))):=λ{H5} s5 ez=>⟨s5 _ _ NC,s5 _ _ VM,UT.trans (HN s5),Am s4 s5,by lia,λt=>by rw[jX,HV,Co,ez,AH]⟩;have s5:∀tp,H4 tp=none->Bi H4 (upd H4 tp (.BC [.str "hold",.str "pass",.str "more",.str "back"])):=λtp XR=>Ai XR;cases z with | ask s g n' u =>obtain⟨a,e1,_⟩:=lo;refine⟨_,rfl,t,_,_,_,rfl,rfl,CL.of e1,rfl,(by show 4<=sizeLine;decide),λtp XR=>⟨tp,_,rfl,.inr (CL.of Ac),rfl,rfl,_,rfl,?_⟩⟩;exact jv ZV ⟨w5,_,Bj,rfl,done (s5 tp XR) rfl⟩ | LP s g n' u tick St =>obtain⟨⟨a,e1,_⟩,_⟩:=lo;refine⟨_,rfl,t,_,_,_,rfl,rfl,CL.of e1,rfl,(by show 4<=sizeLine;decide),λtp XR=>⟨tp,_,rfl,.inr (CL.of Ac),rfl,rfl,_,rfl,?_⟩⟩;exact jv ZV ⟨w5,_,Bj,rfl,done (s5 tp XR) rfl⟩ | lt s g ts =>obtain⟨a,as,e1,_⟩:=lo;refine⟨_,rfl,t,_,_,_,rfl,rfl,CL.of e1,rfl,(by show 4<=sizeLine;decide),λtp XR=>⟨tp,_,rfl,.inr (CL.of Ac),rfl,rfl,_,rfl,?_⟩⟩;exact jv ZV ⟨w5,_,Bj,rfl,done (s5 tp XR) rfl⟩ | w l1 =>have mem:l1∈GB al:=IC.mpr ⟨_,ZP hz,rfl⟩;have jO:=S.wg.wl.ok l1 mem;have lo:II H4 t BP l1.kind l1.s l1.g l1.th l1.x:=lo;obtain⟨a,b,e1,e2,e3⟩:=id lo;refine⟨_,rfl,t,_,_,_,rfl,rfl,CL.of e1,rfl,(by show 4<=sizeLine;decide),λtp XR=>⟨tp,_,rfl,.inr (CL.of Ac),rfl,rfl,_,rfl,?_⟩⟩;have s5:=s5 tp XR;generalize upd H4 tp (.BC [.str "hold",.str "pass",.str "more",.str "back"])=H5 at s5;refine Jkf (show eF (.str l1.kind) [V.str "hold",V.str "pass",V.str "more",V.str "back"]=true by rw[in4,AJ (IJ.kd jO)]) ?_;have xY:=lo.keep (HN s5);have jg:=s5 _ _ NC;have g2:=s5 _ _ e3;refine⟨_,rfl,t,BP,l1.s,l1.g,l1.x,l1.kind,l1.th,rfl,xY,?_⟩;have w1:=IJ.w jO;have ew:JS l1.th ⟨l1.kind,l1.s,l1.g,l1.th,l1.x⟩=JS l1.th l1:=rfl;rw[ew];refine⟨_,rfl,_,_,rfl,rfl,_,rfl,?_⟩;rw[AG (show ¬JS l1.th l1<1 by lia)];refine Cd ?_;refine⟨_,rfl,r,rfl,.inr ⟨_,.inl jg⟩,_,rfl,t,_,_,_,rfl,rfl,CL.of (s5 _ _ e1),rfl,a,_,_,_,rfl,rfl,CL.of (s5 _ _ e2),rfl,_,DJ.t (k:=tk l1.th) jg g2,_,rfl,_,JS l1.th l1,K61F.KD _ _,rfl,_,rfl,_,rfl,t,_,_,_,rfl,rfl,CL.of (s5 _ _ e1),rfl,a,_,_,_,rfl,rfl,CL.of (s5 _ _ e2),rfl,r,_,rfl,FF.t (k:=tk l1.th) jg g2 (by rw[ZA];have:=K61F.KP Bj [];simp only[BN] at this;exact K61F.FL (by lia)),?_⟩;rw[Df];(have WW:∀u:HO,BU H5 (upd H5 r u):=λu=>OI λo' e=>by rw[jg] at e;cases e;exact⟨λ_ z=>(by cases z),λ_ _ z=>(by cases z)⟩);refine⟨_,_,Bj++[(l1.th,JS l1.th l1)],rfl,by rw[uv];exact Ac,by rw[Ab (Ne.symm rl)];exact s5 _ _ VM,(UT.trans (HN s5)).trans (WW _),λb ob e=>by rw[Ab (Ak e PR)];exact s5 _ _ (s4 _ _ e),by rw[ZE];show Bj.length+1<=_;lia,λt=>?_⟩;rw[Ja6,jX,HV,Co];have:GB [LL.w l1]=[l1]:=rfl;rw[this,E6];lia);.rintro σ H4 ⟨w5,w6,Bj,rfl,NC,VM,UT,s4,zj,jX⟩;refine⟨_,rfl,k r _ H4 s4 NC λt=>?_⟩;rw[Jcy,jX,ZA,xk.1,BM]
end
section
variable {CW C CP CI p:Addr}{K:W.Frag}{H1:Hp}{W:FZ}{m:Nat}
theorem Kw:∀{l:List (Addr×BS)},(∀z∈l,z.2.AM=[]/\z.2.AF=[])->Ft t l=0/\L4 l=0
 | [],_=>⟨rfl,rfl⟩
 | z::l,h=>by obtain⟨h1,h2⟩:=Kw (t:=t) λy hy=>h y (ZD _ hy);obtain⟨h3,h4⟩:=h z (ZL ..);refine⟨?_,?_⟩;(.show LD t z.2+Ft t l=0;unfold LD;rw[h1,h3,h4];rfl);.show z.2.AM.length+L4 l=0;rw[h2,h3];rfl
theorem nX{n mm tk:Int}{h o l r:Addr}{t:T2}(ht:PH ⟨n,mm,tk,h,o,l,r,[],[],[],[]⟩ t):False:=by
 rcases ht with ht|⟨q,hq,_⟩;.cases ht
 .cases hq
theorem Jbg{i:Nat}{h o l r:Addr}(hi:i<m):Sd m ⟨(i:Int),0,0,h,o,l,r,[],[],[],[]⟩ 0 :=⟨⟨CN,ZG _,CN,ZG _,rfl,CN,ZG _,λq hq=>(by cases hq),λq hq=>(by cases hq),λq hq=>(by cases hq),λq hq=>(by cases hq),λq hq=>(by cases hq)⟩,λq hq=>(by cases hq),λt ht=>(nX ht).elim,λt ht=>(nX ht).elim,λt ht=>(by cases ht),by show(0:Int)<=(i:Int);lia,by show(i:Int)<(m:Int);lia,A' _,A' _⟩
theorem N7:∀{l:List (Addr×BS)},(∀z∈l,z.2.AY=0)->Fe l=0
 | [],_=>rfl
 | z::l,h=>by have ih:=N7 (l:=l) λy hy=>h y (ZD _ hy);have:=h z (ZL ..);show z.2.AY+Fe l=0;lia
theorem WI.start(S:AN CW C CP H1 p W)(e2:W.c=0)(e3:W.ls=[])(e4:W.JX=[])(e5:W.IG=[])(e6:W.ED=[])(e7:W.qs.length=m)(e8:∀i q G,W.qs[i]?=some (q,G)->nU G i)(m1:1<=m)(m5:m<=5)(sh:2<=W.share):WI CW C CP CI K H1 p W (λ_=>False) m 0 [] []:=by
 have ee:∀(i:Nat) q G,W.qs[i]?=some (q,G)->∃h o l r,G=⟨(i:Int),0,0,h,o,l,r,[],[],[],[]⟩:=λi q G hi=>by obtain⟨h,o,l,r,e⟩:=e8 i q G hi;exact⟨h,o,l,r,e⟩
 have em:∀z∈W.qs,z.2.AM=[]/\z.2.AF=[]/\z.2.AY=0:=λz hz=>by obtain⟨i,hi⟩:=OT.mp hz;obtain⟨_,_,_,_,e⟩:=ee i z.1 z.2 hi;rw[e];exact⟨rfl,rfl,rfl⟩
 refine⟨S,⟨⟨e7,by lia,λi q G hi=>?_,λl hl=>(by cases hl),λt _=>?_,?_,sh⟩,⟨λ_ _ _ _ _ _ z=>z,λ_ _ _ z=>z,λ_ _ _ _ _ _ _ _ z=>z,λ_ _ _ _ _ z=>z.elim⟩,λj q G hj t ht _=>?_⟩,?_,λj q G hj t ht=>?_,m1,m5,by rw[e3];exact .nil,by rw[e6];exact CN,λe he=>?_,by rw[e6];exact ZG _,by rw[e5];exact ZG _,ZG _,ZG _,e4,rfl,CN,λy hy=>(by cases hy),λy hy=>(by cases hy),λy hy=>(by cases hy),λz hz=>(by cases hz),λe he=>?_,λs g ts hz=>(by cases hz)⟩;·(have hl:i<m:=by rw[<-e7];exact(ZJ hi).1);obtain⟨_,_,_,_,e⟩:=ee i q G hi;rw[e];exact⟨Jbg hl,rfl⟩
 .rw[(Kw (t:=t) λz hz=>⟨(em z hz).1,(em z hz).2.1⟩).1];rfl
 .rw[(Kw (t:=(0,0)) λz hz=>⟨(em z hz).1,(em z hz).2.1⟩).2];exact ZG _
 .obtain⟨_,_,_,_,e⟩:=ee j q G hj;rw[e] at ht;exact(nX ht).elim
 .rw[N7 λz hz=>(em z hz).2.2];exact A' _
 .obtain⟨_,_,_,_,e⟩:=ee j q G hj;rw[e] at ht;cases ht
 .rw[e6] at he;cases he
 .rw[e5] at he;cases he
end
section
theorem WI.out{p:Addr}{H:Hp}{W:FZ}{D:T2->Prop}{m n:Nat}{al:List LL}{ys:List Qy}(x:WI CW C CP CI K H p W D m n al ys){h:Nat}{q:Addr}{G:BS}(hq:W.qs[h]?=some (q,G)){t:T2}(ht:t∈G.AF.map (·.1)):Ag G.AF t=((List.range m).map λh=>O_ t W.qs h).sum+B0 t (GB al):=by
 have lm:=x.wg.wl.len;obtain⟨s,nu⟩:=x.wg.BP hq;have t1:t.1=(h:Int):=by rw[(s.ok.new t ht).1,nu]
 have hm:h<m:=by rw[<-lm];exact(ZJ hq).1
 have sm:=x.wg.wl.sum t (.inr ⟨h,q,G,hq,ht⟩);have sO:((List.range m).map λk=>PQ t W.qs k).sum=PQ t W.qs h:=Q1 hm λk nk=>by by_cases hk:k<m;(.obtain⟨⟨q',G'⟩,QS⟩:=Au (xs:=W.qs) (j:=k) (by lia);(have:PQ t W.qs k=Ag G'.AF t:=by unfold PQ;rw[QS];rfl);rw[this];exact x.wg.wl.bf (r:=(q',G')) QS (by rw[t1];lia));.unfold PQ;rw[CC (by lia)];rfl
 have oh:PQ t W.qs h=Ag G.AF t:=by unfold PQ;rw[hq];rfl
 rw[Ih,lm,sO,oh] at sm;lia
theorem UH:Ao ["_law_world","_law_many","_law_sums_here","_law_h","_law_thing","_law_out","_law_holds"] ["_law_world","_law_many"] (Aj Rw):={}
def Rb(CW C CP CI:Addr)(K:W.Frag):Sp:=λvs H Q _=>∃(p:Addr)(W:FZ)(D:T2->Prop)(m n:Nat)(al:List LL)(ys:List Qy),vs=[.ref p,.int (m:Int)]/\WI CW C CP CI K H p W D m n al ys/\n<=60/\∀H',Bi H H'->Q (.bl true) H'
theorem Jcc{f fS fU:Addr}{fd dS dU:FuncData}(F:EK K "_law_right" "_law_right" Rw f fd)(T:Txt K mg C Cn DO MI NW)(TW:Ek K mg CW NH NI)(hI:mg "int"=none)(hB:mg "bool"=none)(MU:QU K mg "_law_sums" X8 ["_law_world","_law_many"] fU dU)(GU:CV P w K mg base 4 fU dU ["_law_world","_law_many"] (Wc CW C CP CI K))(MS:CO K CW "state" "World.state" Hg ["self","h"] fS dS)(gB:EU P w K mg base 3 fS dS ["self","h"] (Ep CW C CP NH K)) : CV P w K mg base 5 f fd ["_law_world","_law_many"] (Rb CW C CP CI K):=by
 have GS:CV P w K mg base 3 fS dS ["self","h"] (λvs H Q _=>Ep CW C CP NH K vs H Q E0):=FX.DZ.no gB;refine F.IQ UH λvs H Q E h=>?_;obtain⟨p,W,D,m,n,al,ys,rfl,S,hn,k⟩:=h;refine⟨rfl,λDP A outer s hr=>?_⟩;have hu:=B3 hr;have UU:CU 3 _:=hr.mono (by decide);refine⟨_,Ad (Aw (i:=2) UH.nd rfl (Or.inl rfl) (Cs GU hr (by rfl) MU.mg MU.fn.kp MU.bd .nil Bb (Aa (pv 0) (Aa (pv 1) Af)))) (Ad (Bf (Dq (Jgm (pv 2))) (Ae (Ar Fg)) A4) (Ad (Dg PassesOwn.never rfl (F2 rfl T.range (Aa (pv 1) Af)) (Bl (i:=3) UH.nd rfl (Or.inl rfl)) (Ae (Dg PassesOwn.never rfl (Gk (Az Av (Ap (pl:=_) (pv 0) TW.cl MS.mt GS UU MS.bd .nil Bb (Aa (pv 3) Af)) Ah)) (Kz rfl (Cc (Bl (i:=4) UH.nd rfl (Or.inl rfl)) (Cc (Bl (i:=5) UH.nd rfl (Or.inl rfl)) (Cc (Bl (i:=6) UH.nd rfl (Or.inl rfl)) Ho)))) (Ae (Bf (bM (Ps (Wr (Eu (Bg V2 (by rfl) T.rG PyProof.Rows.boot_isinstance (Aa (pv 5) (Aa (Yo (v:=.ty "int") (by rfl) hI PyProof.Rows.boot_int rfl) Af))))) (Ps (Eu (Bg V2 (by rfl) T.rG PyProof.Rows.boot_isinstance (Aa (pv 5) (Aa (Yo (v:=.ty "bool") (by rfl) hB PyProof.Rows.boot_bool rfl) Af)))) (Ni (A3 nY (pv 5) (F3 hu (pv 2) (pv 4) Ah ⟨rfl,rfl,rfl,rfl⟩) (A6 _)))))) (Ae (Ar Fg)) A4))))) (Ae (Ar Fg)))),?_⟩;have m5:=S.m5;have oH:W.qs.length=m:=S.wg.wl.len;refine⟨_,rfl,_,rfl,p,W,D,m,n,al,ys,rfl,S,hn,λr l H1 s1 er hl=>?_⟩;refine⟨_,rfl,_,rfl,Cd ?_⟩;refine⟨_,rfl,(m:Int),rfl,by lia,by lia,?_⟩;refine Lf (lo:=0) (n:=m) (λi σ H'=>∃(u3 u4 u5 u6:Option V),σ=[some (.ref p),some (.int (m:Int)),some (.ref r),u3,u4,u5,u6]/\Bi H1 H') ⟨_,_,_,_,rfl,λ_ _ e=>e⟩ ?_ ?_;.rintro i σ H2 hi ⟨u3,u4,u5,u6,rfl,s2⟩;rw[show(0:Int)+(i:Int)=(i:Int) by lia];have S2:=(S.same s1).same s2;obtain⟨⟨q,G⟩,hq⟩:=Au (xs:=W.qs) (j:=i) (by lia);have iw:IH W (i:Int) q G:=⟨by lia,by rw[DF];exact hq⟩;have gd:=S.wg.wl.good hn hq;obtain⟨hs,os,rs,IZ⟩:=gd.told;obtain⟨dx,hp⟩:=S2.wa.ob;refine⟨_,rfl,p,dx,_,rfl,hp,C4 W ZV,_,rfl,p,(i:Int),W,rfl,S2.wa,.inr ⟨q,G,iw,q,G,hs,os,rs,rfl,iw.at S2.wa,gd.h2,gd.o2,gd.r2,IZ.pm,IZ.pw,IZ.RS,IZ.pr,IZ.wr,λx H3 s3 st=>?_⟩⟩;obtain⟨y1,y2,y3,as,bs,ds,f0,f1,t1,f2,t2,f3,t3⟩:=(nA st:PV K H3 x (hs,os,rs));have t2:Paired (V' K H3) bs os:=t2;refine⟨x,_,1,V.ref y2,rfl,rfl,f0,rfl,y2,rfl,⟨_,f2⟩,?_⟩;refine Hv (K:=K) (a:=y2) (xs:=bs) (λj σ H'=>∃(w4 w5 w6:Option V),σ=[some (.ref p),some (.int (m:Int)),some (.ref r),some (.int (i:Int)),w4,w5,w6]/\H'=H3) ⟨_,_,_,rfl,rfl⟩ (λj σ H' _ h9=>by obtain⟨_,_,_,_,e⟩:=h9;exact by rw[e];exact f2) ?_ ?_;(.rintro j v σ H4 hj ⟨w4,w5,w6,rfl,rfl⟩;obtain⟨z,ez⟩:=Au (xs:=os) (j:=j) (by rw[<-Paired.length t2];exact(ZJ hj).1);obtain⟨a,t,hd,cs,rfl,g1,g2,_⟩:=Ax t2 j v z hj ez;have mz:=ZP ez;have tS:=(IZ.aQ (S.wg.BP hq).1.ok).gK z mz;refine⟨a,_,rfl,g1,rfl,_,_,rfl,_,_,rfl,_,_,rfl,rfl,?_⟩;refine⟨_,rfl,_,"int",_,true,rfl,LG.int _,Jcs,_,rfl,?_⟩;refine Cd ?_;refine⟨_,rfl,_,"bool",_,false,rfl,LG.int _,Tc,_,rfl,?_⟩;refine Cd ?_;have YA:=s3 _ _ (s2 _ _ er);refine⟨_,rfl,_,rfl,r,rfl,.inr ⟨_,.inl YA⟩,_,rfl,_,DJ.t (k:=tk z.1) YA g2,?_⟩;(have e9:z.2.1=Ex l z.1:=by rw[hl];exact tS.2.trans (S.out hq tS.1));rw[K61F.KD,<-e9];refine⟨rfl,_,rfl,?_⟩;exact jv (by simp) ⟨_,_,_,rfl,rfl⟩);.rintro σ H4 ⟨w4,w5,w6,rfl,rfl⟩;exact⟨_,_,_,_,rfl,Am s2 s3⟩
 .rintro σ H2 ⟨u3,u4,u5,u6,rfl,s2⟩;exact k H2 (Am s1 s2)
end
theorem Jdd(ns:List Int)(lo hi:Option Int):∃cs:List Int,Kq (ns.map V.int) lo hi=cs.map V.int:=by unfold Kq;exact⟨_,by rw[<-List.map_drop,<-List.map_take]⟩
theorem Jis(xs:List V):(Kq xs (some 2) (some 62)).length<=60:=by unfold Kq;rw[B_,show HT.QO xs.length xs.length (some 62)=min 62 xs.length from HT.TR _ _ 62,show HT.QO xs.length 0 (some 2)=min 2 xs.length from HT.TR _ _ 2];lia
section
theorem dk:Ao ["_law_script","_law_many","_law_free","_law_world","_law_cell_here"] ["_law_script"] (Aj Zu):={}
def X2(K:W.Frag):Sp:=λvs H Q _=>∃(a:Addr)(ns:List Int),vs=[.ref a]/\YL K H a (ns.map V.int)/\ns.length<=63/\∀H',Q (.bl true) H'
theorem Jgu(F:EK K "law" "law" Zu f fd)(T:Txt K mg C Cn DO MI NW)(TW:Ek K mg CW NH NI)(MmW:Mk K CW fW)(bW:Binds K dW ["self","many","share"] [])(GW:CV P w K mg base 3 fW dW ["self","many","share"] (Xw CW C CP))(MC:QU K mg "_law_cell" Uj ["_law_script","_law_k"] fC dC)(MS:QU K mg "_law_share" Rv ["_law_script"] fS dS)(MT:QU K mg "_law_try" jy ["_law_world","_law_deed_here"] fT dT)(GT:CV P w K mg base 8 fT dT ["_law_world","_law_deed_here"] (nZ CW C CP CI K))(MD:QU K mg "_law_deed" Ui ["_law_world","_law_many","_law_cell_here","_law_asks","_law_free"] fD dD)(GD:CV P w K mg base 4 fD dD ["_law_world","_law_many","_law_cell_here","_law_asks","_law_free"] (Wh CW C CP CI K))(MR:QU K mg "_law_right" Rw ["_law_world","_law_many"] fR dR)(GR:CV P w K mg base 5 fR dR ["_law_world","_law_many"] (Rb CW C CP CI K)) : CV P w K mg base 9 f fd ["_law_script"] (X2 K):=by
 have GC:CV P w K mg base 1 fC dC ["_law_script","_law_k"] (Wi K):=Yr MC.fn T.len;have GS:CV P w K mg base 2 fS dS ["_law_script"] (Xy K):=Jcb MS.fn T.len MC;refine F.IQ dk λvs H Q E h=>?_;obtain⟨a,ns,rfl,hS,hlen,k⟩:=h;refine⟨rfl,λDP A outer s hr=>?_⟩;have GO:CU 1 _:=hr.mono (by decide);have NB:CU 2 _:=hr.mono (by decide);have rV:CU 4 _:=hr.mono (by decide);have VF:CU 5 _:=hr.mono (by decide);refine⟨_,Ad (Aw (i:=1) dk.nd rfl (Or.inl rfl) (Be Fc Ah (Be C1 (Cs GC GO (by rfl) MC.mg MC.fn.kp MC.bd .nil Bb (Aa (pv 0) (Aa Ah Af))) Ah))) (Ad (Aw (i:=2) dk.nd rfl (Or.inl rfl) (Jz Cy (Be C1 (Be Fh (Cs GC GO (by rfl) MC.mg MC.fn.kp MC.bd .nil Bb (Aa (pv 0) (Aa Ah Af))) Ah) Ah) Ah (A6 _))) (Ad (Aw (i:=3) dk.nd rfl (Or.inl rfl) (R6 MmW GW rV (by rfl) TW.a7 bW .nil Bb (Aa (pv 1) (Aa (Cs GS NB (by rfl) MS.mg MS.fn.kp MS.bd .nil Bb (Aa (pv 0) Af)) Af)))) (Ad (Dg PassesOwn.never rfl (Dl (Jbt Jdx (pv 0) (Yn Ah) (Yn Ah))) (Bl (i:=4) dk.nd rfl (Or.inl rfl)) (Ad (Bf (Wr (Eu (Cs GR VF (by rfl) MR.mg MR.fn.kp MR.bd .nil Bb (Aa (pv 3) (Aa (pv 1) Af))))) (Ae (Ar Fg)) A4) (Ae (A5 (Cs GT hr (by rfl) MT.mg MT.fn.kp MT.bd .nil Bb (Aa (pv 3) (Aa (Cs GD rV (by rfl) MD.mg MD.fn.kp MD.bd .nil Bb (Aa (pv 3) (Aa (pv 1) (Aa (pv 4) (Aa Fg (Aa (pv 2) Af)))))) Af))))))) (Ae (Ar (Cs GR VF (by rfl) MR.mg MR.fn.kp MR.bd .nil Bb (Aa (pv 3) (Aa (pv 1) Af)))))))),?_⟩;refine⟨_,rfl,a,ns,0,rfl,hS.sq,hlen,by decide,by decide,λv0=>⟨_,_,rfl,rfl,(show(0:Int)<5 by decide),_,_,rfl,rfl,?_⟩⟩;have lV:=DA v0 (show(5:Int)≠0 by decide);have hm1:=CM v0 (show(0:Int)<5 by decide);refine⟨_,rfl,a,ns,0,rfl,hS.sq,hlen,by decide,by decide,λv1=>⟨_,_,rfl,rfl,⟨by decide,by decide⟩,_,_,rfl,rfl,(show(0:Int)<2 by decide),rfl,?_⟩⟩;generalize decide (V.int (v1 / 30 % 2)=V.int 1)=fr;obtain⟨m,em,m1,m5⟩:∃m:Nat,V.int (1+v0 % 5)=V.int (m:Int)/\1<=m/\m<=5:=⟨(1+v0 % 5).toNat,by rw[BH (by lia)],by lia,by lia⟩;rw[em];refine⟨_,rfl,_,rfl,a,ns,rfl,hS.sq,hlen,λsh H1 s1 kK=>?_⟩;have ja:=hS.keep (HN s1);intro p dx np Z' kY;refine⟨p,dx,(m:Int),sh,rfl,Ac,by lia,by lia,λW H2 S1 e1 e2 e3 e4 e5 e6 e7 e8 jQ=>⟨rfl,?_⟩⟩;have qU:Bi H1 (upd (upd H1 dx (.own p)) p (.ins CW dx [])):=λb o e=>by rw[Ab (Ak e np),Ab (Ak e Z')];exact e
 have s2:Bi H1 H2:=λb o e=>jQ b o (qU b o e) (Ak e np);have yn:=ja.keep (HN s2);clear qU jQ np Z' kY;rw[DF] at e7;have W0:WI CW C CP CI K H2 p W (λ_=>False) m 0 [] []:=WI.start S1 e2 e3 e4 e5 e6 e7 e8 m1 m5 (by rw[e1];exact kK);refine⟨_,rfl,2,rfl,62,rfl,a,_,rfl,yn.sq,λcl aH=>⟨cl,rfl,⟨_,EC.of Ac⟩,?_⟩⟩;have s5:=Ai (o:=.BI (Kq (ns.map V.int) (some 2) (some 62))) aH;have tf:(upd H2 cl (.BI (Kq (ns.map V.int) (some 2) (some 62)))) cl=some (.BI (Kq (ns.map V.int) (some 2) (some 62))):=Ac;generalize upd H2 cl (.BI (Kq (ns.map V.int) (some 2) (some 62)))=H5 at s5 tf;have q3:cl≠W.hs:=λz=>by rw[z] at aH;rw[W0.wa.hs] at aH;cases aH
 have p5:=Jis (ns.map V.int);obtain⟨cs,ecs⟩:=Jdd ns (some 2) (some 62);refine Hf (K:=K) (a:=cl) (xs:=Kq (ns.map V.int) (some 2) (some 62)) (λj σ Hc=>∃(W':FZ)(D':T2->Prop)(al':List LL)(aW:List Qy)(u4:Option V),σ=[some (.ref a),some (.int (m:Int)),some (.bl fr),some (.ref p),u4]/\WI CW C CP CI K Hc p W' D' m j al' aW/\W'.hs=W.hs/\Hc cl=some (.BI (Kq (ns.map V.int) (some 2) (some 62)))) ⟨W,_,[],[],none,rfl,W0.same s5,rfl,tf⟩ (λj σ Hc _ h9=>by obtain⟨_,_,_,_,_,_,_,_,h⟩:=h9;exact EC.of h) ?_ ?_;.rintro j x σ Hc hj ⟨W1,D1,fg,df,u4,rfl,Sj,ew,ec⟩;have gR:j<60:=BO (ZJ hj).1 p5;(obtain⟨c,rfl⟩:∃c,x=V.int c:=by rw[ecs,ZH] at hj;cases hc:cs[j]? with | none=>rw[hc] at hj;cases hj | some c=>rw[hc] at hj;exact⟨c,(ZO hj).symm⟩);refine⟨_,rfl,_,rfl,p,W1,D1,m,j,fg,df,rfl,Sj,by lia,λHa sa=>?_⟩;refine⟨_,rfl,Cd ?_⟩;have Sa:=Sj.same sa;refine⟨_,rfl,_,rfl,_,rfl,_,rfl,_,rfl,p,W1,D1,m,j,fg,df,c,fr,rfl,Sa,gR,λx1 Hb dd sb ex va=>?_⟩;have Sb:=Sa.same sb;refine⟨p,x1,W1,D1,m,j,fg,df,dd,rfl,ex,Sb,gR,va,λv Hd W2 D2 m6 vn wi ae mO=>?_⟩;have mW:=sb _ _ (sa _ _ ec);refine⟨W2,D2,m6,vn,_,rfl,wi,by rw[mO,ew],ae cl _ mW (Sb.wa.QE mW (by rw[ew];exact q3)) λz=>?_⟩;obtain⟨y,hy,hb⟩:=D_.mp z;obtain⟨o,e,_,nl,_⟩:=(Sb.at_ y hy).has hb;rw[mW] at e;cases e;exact nl _ rfl
 .rintro σ Hc ⟨W1,D1,fg,df,u4,rfl,Sj,ew,ec⟩;exact⟨_,rfl,_,rfl,p,W1,D1,m,_,fg,df,rfl,Sj,p5,λHa sa=>k Ha⟩
end
end K61
namespace K61
open PySem L2 FX
structure MeI(K:W.Frag)(C:Addr)(x q:Str)(st:Stmt)(f:Addr)(fd:FuncData):Prop where
 a:W.findIn K (.ref C) x=some (some (.ref f))
 i:W.isFn K (.ref f)=true
 fn:EK K x q st f fd
structure GI(K:W.Frag)(x:Str)(st:Stmt)(f:Addr)(fd:FuncData):Prop where
 a:W.nsIn K mainGlobals x=some (some (.ref f))
 fn:EK K x x st f fd
structure RA(K:W.Frag)(x:Str)(st:Stmt)(ps:List Str)(f:Addr)(fd:FuncData):Prop extends GI K x st f fd where
 b:Binds K fd ps []
theorem RA.S_{K:W.Frag}{mg:Str->Option Value}{hp:Heap}{x:Str}{st:Stmt}{f:Addr}{fd:FuncData}{ps:List Str}(m:RA K x st ps f fd)(X:K.In hp)(G:hp.Ns mainGlobals mg):QU K mg x st ps f fd:=⟨m.fn,m.b,KN X G m.a⟩
structure CI(K:W.Frag)(C:Addr):Prop where
 pg:W.plainGet K C Str.empty=true
 hd:W.hasDictIn K C=true
 po:W.plainOver K C=true
 sa:W.findIn K (.ref C) "__setattr__"=some (some (.builtin "object.__setattr__"))
 mm:W.makesIn K C=true
 kc:W.keepIn K (.ref C)=true
def Bd(x q:Str)(st:Stmt)(ps:List Str):Prop:=∀(kV doc pm:Value)(an:Option Addr)(DP ct:Value)(us:List Value),us.length=ps.length->bindArgs (W.fnOf x q (Mt st) (Gq st) (Aj st) .none kV doc pm an DP ct) ⟨us,[]⟩=pure (ps.zip us)
theorem MeI.mth{K:W.Frag}{C:Addr}{x q:Str}{st:Stmt}{f:Addr}{fd:FuncData}{ps:List Str}(m:MeI K C x q st f fd)(h:Bd x q st ps:=by intro _ _ _ _ _ _ us hl;rcases us with _|⟨_,_|⟨_,_|⟨_,_|⟨_,_|⟨_,_|⟨_,_|⟨_,_⟩⟩⟩⟩⟩⟩⟩<;>first|(cases hl;done)|rfl):CO K C x q st ps f fd:=⟨m.fn,m.fn.binds h,⟨m.a,m.i,m.fn.kp⟩⟩
theorem GI.gdi{K:W.Frag}{x:Str}{st:Stmt}{f:Addr}{fd:FuncData}{ps:List Str}(m:GI K x st f fd)(h:Bd x x st ps:=by intro _ _ _ _ _ _ us hl;rcases us with _|⟨_,_|⟨_,_|⟨_,_|⟨_,_|⟨_,_|⟨_,_|⟨_,_⟩⟩⟩⟩⟩⟩⟩<;>first|(cases hl;done)|rfl):RA K x st ps f fd:=⟨m,m.fn.binds h⟩
theorem all_mk{l:W.OpenLaw}{w:World}{K:W.Frag}{h:Heap}{mg:Str->Option Value}{fa C CW CP CQ NH XH XN XM NL XW fI sj sS fM s_ si tJ tK zk zT tH sX zK zZ zM zR zV zu za zp sy tE sW zQ zS sV zW zX zU zI pQ gu g9 g8 gr gx zJ gq gw g7 pP pR pO zY zP zq zL zi tG tF zN sv zg ze su sr sk g_ hJ hG gy hU gz sT zO sU zH sY sZ fW:Addr}{dI dPI dWI dM uG uB uL uM dGi dPs uK t9 dTo dNe dSp dQH dPR dAR dLo dGb uF uH t8 dQN dQG tw dPP dPL dPT dWM pX iB iJ iH iA iD dWH h_ iC iG pW pY pV dP1 dR1 dC1 dSu dHg uJ uI dSh dII dIF dIS uE uD uC iK iM iL iE iO iF ti dRc tq dWt t_ uA dW:FuncData}(X:K.In h)(G:h.Ns mainGlobals mg)(VH:mg "law"=some (.ref fa))(aC:W.nsIn K mainGlobals "House"=some (some (.ref C)))(aCW:W.nsIn K mainGlobals "World"=some (some (.ref CW)))(aCP:W.nsIn K mainGlobals "Post"=some (some (.ref CP)))(aCQ:W.nsIn K mainGlobals "Inquiry"=some (some (.ref CQ)))(aNH:W.nsIn K mainGlobals "NoHouse"=some (some (.ref NH)))(aXH:W.nsIn K mainGlobals "NotHeld"=some (some (.ref XH)))(aXN:W.nsIn K mainGlobals "NotNear"=some (some (.ref XN)))(aXM:W.nsIn K mainGlobals "Missing"=some (some (.ref XM)))(aNL:W.nsIn K mainGlobals "NoLetter"=some (some (.ref NL)))(aXW:W.nsIn K mainGlobals "NoWeight"=some (some (.ref XW)))(xNH:W.excIn K NH [.type "ValueError",.type "Exception",.type "BaseException",.type "object"] "ValueError.__new__"=true)(xXH:W.excIn K XH [.type "ValueError",.type "Exception",.type "BaseException",.type "object"] "ValueError.__new__"=true)(xXN:W.excIn K XN [.type "ValueError",.type "Exception",.type "BaseException",.type "object"] "ValueError.__new__"=true)(xXM:W.excIn K XM [.type "ValueError",.type "Exception",.type "BaseException",.type "object"] "ValueError.__new__"=true)(xNL:W.excIn K NL [.type "ValueError",.type "Exception",.type "BaseException",.type "object"] "ValueError.__new__"=true)(xXW:W.excIn K XW [.type "ValueError",.type "Exception",.type "BaseException",.type "object"] "ValueError.__new__"=true)(sXW:W.mroIn K XW (.ref XW)=some true)(hI:MeI K C "__init__" "House.__init__" Yd fI dI)(hPI:MeI K CP "__init__" "Post.__init__" Ry sj dPI)(hWI:MeI K CW "__init__" "World.__init__" Wo sS dWI)(mM:CO K C "make" "House.make" Yb ["self"] fM dM)(mFr:CO K C "free" "House.free" Yf ["self","b"] s_ uG)(mPa:CO K C "part" "House.part" Ya ["self","b","share"] si uB)(mCa:CO K C "came" "House.came" Yh ["self","b","weight"] tJ uL)(mAd:CO K C "added" "House.added" R3 ["self","b","weight"] tK uM)(mGi:CO K C "given" "House.given" R0 ["self","b","weight"] zk dGi)(mPs:CO K C "passed" "House.passed" Mg ["self","b","share","mine"] zT dPs)(mCl:CO K C "clean" "House.clean" R1 ["self"] tH uK)(mSt:CO K C "state" "House.state" Ng ["self"] sX t9)(mTo:CO K C "told" "House.told" X5 ["self","thing"] zK dTo)(mNe:CO K C "is_near" "House.is_near" Ie ["self","thing"] zZ dNe)(mSp:CO K C "is_spent" "House.is_spent" Ru ["self","thing"] zM dSp)(mQH:CO K C "need_in_hand" "House.need_in_hand" Gi ["self","thing"] zR dQH)(mPR:CO K C "part_record" "House.part_record" Rx ["self","b"] zV dPR)(mAR:CO K C "add_to_record" "House.add_to_record" Uk ["self","b","weight"] zu dAR)(mLo:CO K C "lose" "House.lose" Pr ["self","things"] za dLo)(mGb:CO K C "give_back" "House.give_back" Uh ["self"] zp dGb)(mHo:CO K C "hold" "House.hold" Ye ["self","a","b"] sy uF)(mDr:CO K C "drop" "House.drop" Yg ["self","a","b"] tE uH)(mTa:CO K C "take" "House.take" X7 ["self","a","b"] sW t8)(mQN:CO K C "need_near" "House.need_near" Ik ["self","thing"] zQ dQN)(mQG:CO K C "need_holding" "House.need_holding" Jt ["self","a","b"] zS dQG)(mTi:CO K C "tick" "House.tick" X6 ["self"] sV tw)(mPP:CO K CP "put" "Post.put" Js ["self","kind","sender","goal","about"] zW dPP)(mPL:CO K CP "letters" "Post.letters" Hl ["self"] zX dPL)(mPT:CO K CP "taken" "Post.taken" Mh ["self","n"] zU dPT)(mWM:CO K CW "make" "World.make" Rp ["self","h"] zI dWM)(mWFr:CO K CW "free" "World.free" Rr ["self","h","b"] pQ pX)(mWSe:CO K CW "send" "World.send" Rn ["self","h","g","b"] gu iB)(mWCl:CO K CW "clean" "World.clean" Mf ["self","h"] g9 iJ)(mWDe:CO K CW "deliver" "World.deliver" Hi ["self","n"] g8 iH)(mWSt:CO K CW "state" "World.state" Hg ["self","h"] gr iA)(mWLe:CO K CW "letters" "World.letters" Fy ["self"] gx iD)(mWH:CO K CW "house" "World.house" D0 ["self","h"] zJ dWH)(mWWe:CO K CW "weight_came" "World.weight_came" Jp ["self","letter"] gq h_)(mWPa:CO K CW "pass_came" "World.pass_came" Ro ["self","letter"] gw iC)(mWGb:CO K CW "give_back" "World.give_back" Nf ["self","h","records"] g7 iG)(mWHo:CO K CW "hold" "World.hold" Rq ["self","h","a","b"] pP pW)(mWDr:CO K CW "drop" "World.drop" Rt ["self","h","a","b"] pR pY)(mWTa:CO K CW "take" "World.take" Rm ["self","h","a","b"] pO pV)(mP1:RA K "parted" Jr ["weight"] zY dP1)(mR1:RA K "reached" E9 ["starts","holds"] zP dR1)(mC1:RA K "_law_cell" Uj ["_law_script","_law_k"] zq dC1)(mSu:RA K "_law_spun" X9 ["_law_cell_here","_law_free"] zL dSu)(mHg:RA K "_law_holding" Jw ["_law_things","_law_a"] zi dHg)(mDe:RA K "_law_deed" Ui ["_law_world","_law_many","_law_cell_here","_law_asks","_law_free"] tG uJ)(mDo:RA K "_law_do" jD ["_law_world","_law_deed_here"] tF uI)(mSh:RA K "_law_share" Rv ["_law_script"] zN dSh)(hII:MeI K CQ "__init__" "Inquiry.__init__" Rz sv dII)(mIF:CO K CQ "first" "Inquiry.first" Mj ["self","h","tick","state"] zg dIF)(mIS:CO K CQ "second" "Inquiry.second" Ju ["self","h","tick"] ze dIS)(mIL:CO K CQ "still" "Inquiry.still" Mi ["self"] su uE)(mIR:CO K CQ "result" "Inquiry.result" Jv ["self"] sr uD)(mLH:CO K C "let" "House.let" Yc ["self","things"] sk uC)(mWAs:CO K CW "ask" "World.ask" X4 ["self","h"] g_ iK)(mWAc:CO K CW "ask_came" "World.ask_came" Hj ["self","letter"] hJ iM)(mWAn:CO K CW "answer_came" "World.answer_came" Ez ["self","letter"] hG iL)(mWLc:CO K CW "let_came" "World.let_came" Hh ["self","letter"] gy iE)(mWAa:CO K CW "ask_all" "World.ask_all" G0 ["self","beginner","n","turn"] hU iO)(mWLa:CO K CW "let_all" "World.let_all" Jq ["self","beginner","n"] gz iF)(mUn:RA K "unreached" Gh ["states"] sT ti)(mRc:RA K "recorded" Hk ["states"] zO dRc)(mTr:RA K "_law_try" jy ["_law_world","_law_deed_here"] sU tq)(mWt:RA K "_law_weight" Jo ["_law_letter"] zH dWt)(mSm:RA K "_law_sums" X8 ["_law_world","_law_many"] sY t_)(mRi:RA K "_law_right" Rw ["_law_world","_law_many"] sZ uA)(hW:GI K "law" Zu fW dW)(cC:CI K C)(nC0:W.findIn K (.ref C) "number"=some none)(nC1:W.findIn K (.ref C) "made"=some none)(nC2:W.findIn K (.ref C) "ticks"=some none)(nC3:W.findIn K (.ref C) "hand"=some none)(nC4:W.findIn K (.ref C) "outs"=some none)(nC5:W.findIn K (.ref C) "holds"=some none)(nC6:W.findIn K (.ref C) "records"=some none)(cCW:CI K CW)(nCW0:W.findIn K (.ref CW) "share"=some none)(nCW1:W.findIn K (.ref CW) "houses"=some none)(nCW2:W.findIn K (.ref CW) "post"=some none)(nCW3:W.findIn K (.ref CW) "inquiries"=some none)(nCW4:W.findIn K (.ref CW) "finds"=some none)(nCW5:W.findIn K (.ref CW) "enclosed"=some none)(cCP:CI K CP)(nCP0:W.findIn K (.ref CP) "latest"=some none)(nCP1:W.findIn K (.ref CP) "waiting"=some none)(cCQ:CI K CQ)(nCQ0:W.findIn K (.ref CQ) "many"=some none)(nCQ1:W.findIn K (.ref CQ) "states"=some none)(nCQ2:W.findIn K (.ref CQ) "first_ticks"=some none)(nCQ3:W.findIn K (.ref CQ) "second_ticks"=some none)(z0:W.nsIn K mainGlobals "len"=some none)(z1:W.nsIn K mainGlobals "range"=some none)(z2:W.nsIn K mainGlobals "tuple"=some none)(z3:W.nsIn K mainGlobals "sorted"=some none)(z4:W.nsIn K mainGlobals "isinstance"=some none)(z5:W.nsIn K mainGlobals "list"=some none)(z6:W.nsIn K mainGlobals "dict"=some none)(z7:W.nsIn K mainGlobals "max"=some none)(z8:W.nsIn K mainGlobals "int"=some none)(z9:W.nsIn K mainGlobals "bool"=some none) : ∃fd:FuncData,(∀(s:Shared)(v:Value),BindsTo s fd ⟨[v],[]⟩ [("_law_script",v)])/\∀base:Heap,K.In base->base.Ns mainGlobals mg->DZ l.prog w K mg base VS 9 fa fd ["_law_script"] (X2 K):=by have e:=VH.symm.trans (KN X G hW.a);cases e;have y0:=FO X G z0;have y1:=FO X G z1;have y2:=FO X G z2;have y3:=FO X G z3;have y4:=FO X G z4;have y5:=FO X G z5;have y6:=FO X G z6;have y7:=FO X G z7;have y8:=FO X G z8;have y9:=FO X G z9;have gC:=KN X G aC;obtain⟨we,yh,wW,wJ,xV,xo⟩:=cC;have yy:=KN X G aCW;obtain⟨oO,pF,oK,n_,oj,ox⟩:=cCW;have y_:=KN X G aCP;obtain⟨oQ,pH,oN,oB,oq,o3⟩:=cCP;have yz:=KN X G aCQ;obtain⟨oP,pG,oM,oA,om,oy⟩:=cCQ;have yx:=KN X G aNH;have yv:=KN X G aXH;have yt:=KN X G aXN;have yu:=KN X G aXM;have yw:=KN X G aNL;have yr:=KN X G aXW;obtain⟨aI,iI,FI⟩:=hI;have bI:=(MeI.mth (ps:=["self","number"]) ⟨aI,iI,FI⟩).bd;have m_:Mk K C fI:=⟨xV,aI,iI,xo⟩;obtain⟨uS,rK,vf⟩:=hPI;have bPI:=(MeI.mth (ps:=["self"]) ⟨uS,rK,vf⟩).bd;have pj:Mk K CP sj:=⟨oq,uS,rK,o3⟩;obtain⟨uR,rJ,ve⟩:=hWI;have bWI:=(MeI.mth (ps:=["self","many","share"]) ⟨uR,rJ,ve⟩).bd;have ph:Mk K CW sS:=⟨oj,uR,rJ,ox⟩;replace mP1:=mP1.S_ X G;replace mR1:=mR1.S_ X G;replace mC1:=mC1.S_ X G;replace mSu:=mSu.S_ X G;replace mHg:=mHg.S_ X G;replace mDe:=mDe.S_ X G;replace mDo:=mDo.S_ X G;replace mSh:=mSh.S_ X G;obtain⟨uT,rL,vg⟩:=hII;have bII:=(MeI.mth (ps:=["self","many"]) ⟨uT,rL,vg⟩).bd;have pk:Mk K CQ sv:=⟨om,uT,rL,oy⟩;replace mUn:=mUn.S_ X G;replace mRc:=mRc.S_ X G;replace mTr:=mTr.S_ X G;replace mWt:=mWt.S_ X G;replace mSm:=mSm.S_ X G;replace mRi:=mRi.S_ X G;have FW:=hW.fn;have TW:Ek K mg CW NH NH:=⟨⟨oO,pF,oK,n_⟩,nCW0,nCW1,nCW2,nCW3,nCW4,nCW5,yy,⟨yx,xNH⟩⟩;have TP:Kt K mg CP NL:=⟨⟨oQ,pH,oN,oB⟩,nCP0,nCP1,y_,⟨yw,xNL⟩,y5⟩;have Tx:js mg:=⟨y6,y5,y7⟩;have TI:K61F.P' K mg CQ:=⟨⟨oP,pG,oM,oA⟩,nCQ0,nCQ1,nCQ2,nCQ3,yz⟩;have TF:K61F.iU mg:=⟨y2,y3⟩;have T:Txt K mg C XH XN XM XW:=⟨⟨we,yh,wW,wJ⟩,nC0,nC1,nC2,nC3,nC4,nC5,nC6,gC,⟨yv,xXH⟩,⟨yt,xXN⟩,⟨yu,xXM⟩,⟨yr,xXW⟩,y0,y1,y2,y3,y4⟩;have z:=FW;obtain⟨⟨oc,od,kV,doc,pm,an,DP,ct,ar,rfl,lk,cd⟩,kp⟩:=z;refine⟨W.fnOf "law" "law" (Mt Zu) (Gq Zu) (Aj Zu) .none kV doc pm an DP ct,λs v=>.of_eq rfl,λbase _ _=>?_⟩;generalize l.prog=P;have vZ:CV P w K mg base 2 sX t9 ["self"] (Jl C K):=Jb9 mSt.fn T mTo.fn mTo.bd mTo.mt;have cB:EU P w K mg base 3 gr iA ["self","h"] (Ep CW C CP NH K):=Z0 mWSt.fn T TW mWH mSt (FX.DZ.RO vZ);have GTi:CV P w K mg base 1 sV tw ["self"] (Wb C):=Yp mTi.fn T;have GCa:CV P w K mg base 2 tJ uL ["self","b","weight"] (Wj C):=Jet mCa.fn T mNe mAR;have GAd:CV P w K mg base 2 tK uM ["self","b","weight"] (Rk C):=Jci mAd.fn T mAR;have GWe:CV P w K mg base 3 gq h_ ["self","letter"] (Fv CW C CP):=Ws mWWe.fn T TW mCa GCa mAd GAd mGi;have pq:CV P w K mg base 2 gw iC ["self","letter"] (Jj CW C CP):=Jb2 mWPa.fn T TW TP mPs mPP;have GPt:EU P w K mg base 3 si uB ["self","b","share"] (Wd C XH XW):=Jel mPa.fn T mNe mQH mPR mP1;have GSd:EU P w K mg base 4 gu iB ["self","h","g","b"] (Md CW C CP XH XW):=Jb1 mWSe.fn T TW TP mWH mPa GPt mSp mPP;have vc:CV P w K mg base 2 gx iD ["self"] (Gg CW C CP):=Ux mWLe.fn TW TP mPL;have GFr:EU P w K mg base 2 s_ uG ["self","b"] (Rh C XH):=Jeq mFr.fn T mQH;have GHo:EU P w K mg base 3 sy uF ["self","a","b"] (Rg C XH XN):=Jep mHo.fn T mNe mQH mQN;have GDr:EU P w K mg base 4 tE uH ["self","a","b"] (Ri C XH XN XM):=Jer mDr.fn T mNe mQH mQN mQG;have GTa:EU P w K mg base 4 sW t8 ["self","a","b"] (Ra C XH XN XM):=Jei mTa.fn T mNe mQH mQN mQG;have GMk:EU P w K mg base 1 fM dM ["self"] (Rf C):=FX.DZ.RO (Jem mM.fn T);have GCh:CV P w K mg base 2 tH uK ["self"] (Rj C):=Jch mCl.fn T Tx mR1 mLo mGb;have vY:CV P w K mg base 2 g7 iG ["self","h","records"] (Me CW C CP):=Jb6 mWGb.fn TW TP mPP;have GWC:CV P w K mg base 3 g9 iJ ["self","h"] (Jk CW C CP):=Z1 mWCl.fn T TW mWH mCl GCh mWGb vY;have vd:CV P w K mg base 2 hU iO ["self","beginner","n","turn"] (Fw CW C CP K):=Ww mWAa.fn T TW TP mPP;have GAc:CV P w K mg base 3 hJ iM ["self","letter"] (E8 CW C CP K):=Uz mWAc.fn T TW TP mTi mSt vZ mPP;have GLh:CV P w K mg base 2 sk uC ["self","things"] (We C):=Jeo mLH.fn T Tx mLo mGb;have GLc:CV P w K mg base 3 gy iE ["self","letter"] (E7 CW C CP):=Uy mWLc.fn T TW mLH GLh mWGb vY;have GUn:CV P w K mg base 2 sT ti ["states"] (K61F.KG K):=K61F.QN mUn.fn TF mR1 mRc;have GIL:CV P w K mg base 1 su uE ["self"] (K61F.QH CQ):=K61F.WN mIL.fn TI T.sorted;have GIR:CV P w K mg base 3 sr uD ["self"] (K61F.OQ CQ K):=K61F.UP mIR.fn TI mIL GIL mUn GUn;have GLa:CV P w K mg base 4 gz iF ["self","beginner","n"] (Kx CW C CP CQ K):=Wu mWLa.fn T TW TP TI mIR GIR mPP;have GAn:CV P w K mg base 5 hG iL ["self","letter"] (M0 CW C CP CQ K):=Jeg mWAn.fn T TW TI mIF mIS mWAa vd mWLa GLa;have GAs:EU P w K mg base 3 g_ iK ["self","h"] (Q9 CW C CP CQ):=Jef mWAs.fn T TW TI mWH pk vg bII mWAa vd;have GDl:EU P w K mg base 6 g8 iH ["self","n"] (Q8 CW C CP CQ K):=Jee mWDe.fn TW TP mPT mWWe GWe mWPa pq mWAc GAc mWAn GAn mWLc GLc;have GDo:EU P w K mg base 7 tF uI ["_law_world","_law_deed_here"] (nJ CW C CP CQ NH XH XN XM XW K):=Jid mDo.fn TW ⟨mWM,mWHo,mWDr,mWTa,mWFr,mWSe,mWCl,mWAs,mWDe,(Jb3 mWM.fn T TW mWH mM GMk).mono (by decide),(Jb5 mWHo.fn T TW mWH mHo GHo).mono (by decide),Jb8 mWDr.fn T TW mWH mDr GDr,Jb0 mWTa.fn T TW mWH mTa GTa,(Jb7 mWFr.fn T TW mWH mFr GFr).mono (by decide),GSd.mono (by decide),(FX.DZ.RO GWC).mono (by decide),GAs.mono (by decide),GDl⟩;have GTr:CV P w K mg base 8 sU tq ["_law_world","_law_deed_here"] (nZ CW C CP CQ K):=Jgt mTr.fn T sXW mDo GDo;have GDe:CV P w K mg base 4 tG uJ ["_law_world","_law_many","_law_cell_here","_law_asks","_law_free"] (Wh CW C CP CQ K):=Jes mDe.fn T TW mSu mHg mWSt cB mWLe vc;have GSm:CV P w K mg base 4 sY t_ ["_law_world","_law_many"] (Wc CW C CP CQ K):=Jej mSm.fn T TW mWt mWSt cB mWLe vc;have GRi:CV P w K mg base 5 sZ uA ["_law_world","_law_many"] (Rb CW C CP CQ K):=Jcc mRi.fn T TW y8 y9 mSm GSm mWSt cB;exact Jgu FW T TW ph bWI (Jb4 ve T TW TP m_ FI bI pj vf bPI) mC1 mSh mTr GTr mDe GDe mRi GRi
theorem walk{l:W.OpenLaw}{q:Program}{loose:List Str}{XP:(Str->Option Value)->Heap->Prop}{YP:World->Heap->Prop}{d:DefRec}{K:Params->W.Frag}(hn:l.most=some 63)(eZ:d.params.defaults=[])(hY:∀(w:World) (h:Heap),YP w h->(K w.params).In h)(F:∀(w:World) (mg:Str->Option Value) (fa:Addr) (h:Heap),(K w.params).In h->h.Ns mainGlobals mg->mg d.name=some (.ref fa) -> ∃fd:FuncData,(∀(s:Shared) (u:Value),BindsTo s fd ⟨[u],[]⟩ [("_law_script",u)])/\∀base:Heap,(K w.params).In base->base.Ns mainGlobals mg->DZ l.prog w (K w.params) mg base VS 9 fa fd ["_law_script"] (X2 (K w.params))) : W.WalkO q loose XP YP l.row.toRowW d [] (λf vs=>PySem.call f vs) :=L2.YY (n:=63) (k:=9) (x:="_law_script") (CX:=λw=>VS) (sp:=λw=>X2 (K w.params)) hn (by decide) eZ ⟨rfl,by decide,by decide⟩ hY F (λ_ H a ns hl hO hS=>⟨a,ns,rfl,YL.of hO hS,hl,λ_=>rfl⟩) λ_ _ _ _ _ z=>z
end K61
open PySem PySem.W PyProof.Rows
set_option maxRecDepth 100000 in
set_option maxHeartbeats 0 in
theorem PySem.Challenge.cw_farhold_k61_whole_weights_add_up_holds : PySem.Challenge.rw_farhold_k61_whole_weights_add_up.Holds := by
 w_on;o_law;k_head;(case hw=>w_witness2)
 k_fill
 refine K61.walk (l:=PySem.Challenge.rw_farhold_k61_whole_weights_add_up) rfl rfl (fun w h Y=>W.kIn_of Y) ?F
 case F =>
  intro w mg fa h KX G hmg
  refine' K61.all_mk KX G hmg ?aC ?aCW ?aCP ?aCQ ?aNH ?aXH ?aXN ?aXM ?aNL ?aXW ?xNH ?xXH ?xXN ?xXM ?xNL ?xXW ?sXW ?hI ?hPI ?hWI ?mM ?mFr ?mPa ?mCa ?mAd ?mGi ?mPs ?mCl ?mSt ?mTo ?mNe ?mSp ?mQH ?mPR ?mAR ?mLo ?mGb ?mHo ?mDr ?mTa ?mQN ?mQG ?mTi ?mPP ?mPL ?mPT ?mWM ?mWFr ?mWSe ?mWCl ?mWDe ?mWSt ?mWLe ?mWH ?mWWe ?mWPa ?mWGb ?mWHo ?mWDr ?mWTa ?mP1 ?mR1 ?mC1 ?mSu ?mHg ?mDe ?mDo ?mSh ?hII ?mIF ?mIS ?mIL ?mIR ?mLH ?mWAs ?mWAc ?mWAn ?mWLc ?mWAa ?mWLa ?mUn ?mRc ?mTr ?mWt ?mSm ?mRi ?hW ?cC ?nC0 ?nC1 ?nC2 ?nC3 ?nC4 ?nC5 ?nC6 ?cCW ?nCW0 ?nCW1 ?nCW2 ?nCW3 ?nCW4 ?nCW5 ?cCP ?nCP0 ?nCP1 ?cCQ ?nCQ0 ?nCQ1 ?nCQ2 ?nCQ3 ?z0 ?z1 ?z2 ?z3 ?z4 ?z5 ?z6 ?z7 ?z8 ?z9
  case aC|aCW|aCP|aCQ|aNH|aXH|aXN|aXM|aNL|aXW=>k_is
  case xNH|xXH|xXN|xXM|xNL|xXW=>k_exc
  case sXW=>k_is
  case hI|hPI|hWI=>exact⟨by k_is,by k_is,⟨⟨_,_,_,_,_,_,_,_,_,rfl,by k_is,by k_is⟩,by k_is⟩⟩
  case mM|mFr|mPa|mCa|mAd|mGi|mPs|mCl|mSt|mTo|mNe|mSp|mQH|mPR|mAR|mLo|mGb|mHo|mDr|mTa|mQN|mQG|mTi|mPP|mPL|mPT|mWM|mWFr|mWSe|mWCl|mWDe|mWSt|mWLe|mWH|mWWe|mWPa|mWGb|mWHo|mWDr|mWTa=>exact K61.MeI.mth ⟨by k_is,by k_is,⟨⟨_,_,_,_,_,_,_,_,_,rfl,by k_is,by k_is⟩,by k_is⟩⟩
  case mP1|mR1|mC1|mSu|mHg|mDe|mDo|mSh=>exact K61.GI.gdi ⟨by k_is,⟨⟨_,_,_,_,_,_,_,_,_,rfl,by k_is,by k_is⟩,by k_is⟩⟩
  case hII=>exact⟨by k_is,by k_is,⟨⟨_,_,_,_,_,_,_,_,_,rfl,by k_is,by k_is⟩,by k_is⟩⟩
  case mIF|mIS|mIL|mIR|mLH|mWAs|mWAc|mWAn|mWLc|mWAa|mWLa=>exact K61.MeI.mth ⟨by k_is,by k_is,⟨⟨_,_,_,_,_,_,_,_,_,rfl,by k_is,by k_is⟩,by k_is⟩⟩
  case mUn|mRc|mTr|mWt|mSm|mRi=>exact K61.GI.gdi ⟨by k_is,⟨⟨_,_,_,_,_,_,_,_,_,rfl,by k_is,by k_is⟩,by k_is⟩⟩
  case hW=>exact⟨by k_is,⟨⟨_,_,_,_,_,_,_,_,_,rfl,by k_is,by k_is⟩,by k_is⟩⟩
  case cC=>constructor<;>k_is
  case nC0|nC1|nC2|nC3|nC4|nC5|nC6=>k_is
  case cCW=>constructor<;>k_is
  case nCW0|nCW1|nCW2|nCW3|nCW4|nCW5=>k_is
  case cCP=>constructor<;>k_is
  case nCP0|nCP1=>k_is
  case cCQ=>constructor<;>k_is
  case nCQ0|nCQ1|nCQ2|nCQ3|z0|z1|z2|z3|z4|z5|z6|z7|z8|z9=>k_is
