import PyProof.Rows.All
import Wide.All
import OpenK.AllK
import Wide.FinOn
import Lean
import PyProof.EqAt
import PyProof.EqKinds
import PyProof.TupleCall
import PySem.Challenge.RW_farhold_k42_world_by_houses
open PySem PySem.Spec PyProof.Rows in def ZR:=@wpAny_bind
open PySem PySem.Spec PyProof.Rows in def ZS:=@wpAny_pure
open PySem PySem.Spec PyProof.Rows in def ZT:=@Heap.get?_push_of_some
open PySem PySem.Spec PyProof.Rows in def ZU:=@Heap.get?_push_size
namespace PySem.W.Fast
def tw7203089344403480350:=()
def tw6409219329950260415:=()
def tw13839916115187250793:=()
def tw7923189334184734824:=()
def tw7138661901014948971:=()
def tw2364753400237903643:=()
def tw7210790766266914196:=()
def tw14543699143181693466:=()
def tw12899007661408729210:=()
def tw6262246290482157518:=()
def tw9758816747774618739:=()
def tw6164735347162489460:=()
def tw14742811969227459517:=()
def tw8478981087649338312:=()
def tw5296181646862420288:=()
def tw17961049230426520882:=()
def tw9161250549764138582:=()
def tw614814143930445280:=()
def tw5567503690946586637:=()
def tw8959219325599364448:=()
def tw11482415975285381738:=()
def tw14515158048006748751:=()
def tw5454481207845282163:=()
def tw10890705350494165548:=()
def tw3809773490624905877:=()
def tw527841935765015082:=()
def tw2399996427594522060:=()
def tw694864902580613393:=()
def tw7838014667209058614:=()
def tw33637034664110005:=()
def tw4892945751421400736:=()
def tw2983639461583813149:=()
def tw15428116019740566925:=()
def tw15707839395217148337:=()
def tw6856913117508982082:=()
def tw650025896741405850:=()
def tw12411667275213687828:=()
def tw2123959256442438959:=()
def tw10556092051166943308:=()
def tw12619476779468545836:=()
def tw16212716086212709837:=()
def tw13923139709121440031:=()
def tw3792765954479116828:=()
def tw47279695458649422:=()
def tw1824192601657632437:=()
def tw5158086812588511891:=()
def tw17765703957877888555:=()
def tw6416047954745433742:=()
def tw15523220078137431267:=()
def tw1184319831713244709:=()
def tw12015946790565517706:=()
def tw17830545221336115783:=()
def tw9030341731311388630:=()
def tw6522205182153800362:=()
def tw12373998671175081490:=()
def tw15779739348066664929:=()
def tw4867099513763011896:=()
def tw6922229141083442243:=()
def tw8600438164244825868:=()
def tw2221702628514183288:=()
def tw8336207283607379291:=()
def tw5387690439242736188:=()
def tw13587048341973917751:=()
def tw4599528837275902603:=()
def tw2875893842808124086:=()
def tw13187047613971825589:=()
def tw7222715707380976077:=()
def tw1019636209671240293:=()
def tw15302600509709646778:=()
def tw10659066574604335178:=()
def tw10469221400307584185:=()
def tw15780860411856266312:=()
def tw16445188763125485288:=()
def tw17654658388880688190:=()
def tw14993488275712565808:=()
def tw15840083695655278723:=()
def tw10021151392105625131:=()
def tw2452117922058248029:=()
def tw7412829564313167948:=()
def tw385537899420699525:=()
def tw8742465246619954491:=()
def tw16640970846408326392:=()
def tw17086097059988994055:=()
def tw18369660074832235925:=()
def tw15246022491831445083:=()
def tw15525207680086626756:=()
def tw7597886686778185882:=()
def tw1596425818398454524:=()
def tw7059115711962357753:=()
def tw3662003653583276478:=()
def tw6322540531636162109:=()
def tw3198170047812574440:=()
def tw802414970418634719:=()
def tw14851741886251457416:=()
def tw6530126095754797035:=()
def tw17049567998210808008:=()
def tw10084669254660999983:=()
def tw5216867231155870754:=()
def tw7923640588698493374:=()
def tw2083068211859866456:=()
def tw4878910591187399463:=()
def tw12337340643255787274:=()
def tw18434648179300557791:=()
def tw3308292659954437863:=()
def tw454779302810068436:=()
def tw14603715669292930881:=()
def tw2731568293095252174:=()
def tw8496353058752405418:=()
def tw6873401377643217976:=()
def tw3724045958888369648:=()
def tw18171747250409954257:=()
def tw10038266653894980644:=()
def tw17402336370664720571:=()
def tw15680942845858311024:=()
def tw6051081793125036427:=()
def tw5526619182703351068:=()
def tw16295109224193965409:=()
def tw3007870562418389460:=()
def tw13518638741795030314:=()
def tw15573361008891456877:=()
def tw12328079748341881043:=()
def tw16102726596862949678:=()
def tw8747421146655812062:=()
def tw14651584038160375252:=()
def tw12502271233403959610:=()
def tw8553415923142652203:=()
def tw15989257958835325019:=()
def tw12524374355957299888:=()
def tw16384696793528255451:=()
def tw10308152123238625951:=()
def tw17262707706671437372:=()
def tw11422690305907766616:=()
def tw6558811167425922788:=()
def tw3762130432904650585:=()
def tw4142212365897826566:=()
def tw417889500506204164:=()
def tw9847770698330402172:=()
def tw8077667596804056861:=()
def tw9315638768361167914:=()
def tw1004331286825642248:=()
def tw11856335620897384782:=()
def tw17746830057173623011:=()
def tw12858717217502690629:=()
def tw9024433973621288635:=()
def tw17049945935154892216:=()
def tw18269652549904469494:=()
def tw5095917514679757022:=()
def tw13531185726571955863:=()
def tw18153885038960559137:=()
def tw16782477179459455775:=()
def tw16781263256196804181:=()
def tw12281941234790448492:=()
def tw18380087562142779423:=()
def tw17418832825027395935:=()
def tw9939298729436389347:=()
def tw5916104911264601803:=()
end PySem.W.Fast
theorem ZA {α β : Type _} {as : List α} (f : α → β) : (as.map f).length = as.length := List.length_map f
theorem ZB {α : Type _} {a : α} {as : List α} (bs : List α) (h : a ∈ as) : a ∈ as ++ bs := List.mem_append_left bs h
theorem ZC {α : Type _} {b : α} {bs : List α} (as : List α) (h : b ∈ bs) : b ∈ as ++ bs := List.mem_append_right as h
theorem ZD {α : Type _} (y : α) {a : α} {l : List α} (h : a ∈ l) : a ∈ y :: l := List.mem_cons_of_mem y h
theorem ZE {α : Type _} {as bs : List α} : (as ++ bs).length = as.length + bs.length := List.length_append
theorem ZF {α β : Type _} {f : α → β} {as bs : List α} : (as ++ bs).map f = as.map f ++ bs.map f := List.map_append
theorem ZG (n : Nat) : n ≤ n := Nat.le_refl n
theorem ZH {α β : Type _} {f : α → β} {as : List α} {i : Nat} : (as.map f)[i]? = as[i]?.map f := List.getElem?_map
theorem ZI {α : Type _} {a : α} {s t : List α} : a ∈ s ++ t → a ∈ s ∨ a ∈ t := List.mem_append.mp
theorem ZJ {α : Type _} {l : List α} {i : Nat} {a : α} : l[i]? = some a → ∃ h : i < l.length, l[i] = a := List.getElem?_eq_some_iff.mp
theorem ZK {α : Type _} {a b : α} : a ∈ [b] → a = b := List.mem_singleton.mp
theorem ZL {α : Type _} {a : α} {l : List α} : a ∈ a :: l := List.mem_cons_self
theorem ZM {α : Type _} {a b : α} {l : List α} : a ∈ b :: l → a = b ∨ a ∈ l := List.mem_cons.mp
theorem ZN {α β : Type _} {b : β} {f : α → β} {l : List α} : b ∈ l.map f → ∃ a, a ∈ l ∧ f a = b := List.mem_map.mp
theorem ZO {α : Type _} {a b : α} : some a = some b → a = b := Option.some.inj
theorem ZP {α : Type _} {l : List α} {i : Nat} {a : α} : l[i]? = some a → a ∈ l := List.mem_of_getElem?
set_option Elab.async false
set_option maxRecDepth 100000
set_option linter.all false
namespace L2
open PySem PySem.Spec PyProof.Rows
abbrev Key:=Sum Int Str
def Ot:Key→Value→Bool
 | .inl k,v=>Value.isInt k v
 | .inr x,v=>Value.isStrOf x v
def Jbp(w:World):Key→Int
 | .inl k=>hashInt k
 | .inr x=>hashStr w x
theorem B8:∀{k:Key} {v:Value},Ot k v=true→(∃i t,k=Sum.inl i∧v=Value.int i t)∨(∃x t,k=Sum.inr x∧v=Value.str x t)
 | .inl i,v,h=>by
   obtain⟨t,e⟩:=Value.isInt_shape (k:=i) (v:=v) h
   exact .inl ⟨i,t,rfl,e⟩
 | .inr x,v,h=>by
   obtain⟨t,e⟩:=Value.isStrOf_shape (x:=x) (v:=v) h
   exact .inr ⟨x,t,rfl,e⟩
theorem Y3(i:Int)(t:Tok):Ot (.inl i) (.int i t)=true:=by simp[Ot,Value.isInt]
theorem Y2(x:Str)(t:Tok):Ot (.inr x) (.str x t)=true:=by simp[Ot,Value.isStrOf]
theorem Jfv(a b:Int):decide ((Sum.inl a:Key)=Sum.inl b)=(a==b):=by
 by_cases e:a=b
 ·subst e;simp
 ·have h:¬(Sum.inl a:Key)=Sum.inl b:=fun q=>e (Sum.inl.inj q)
  rw[decide_eq_false h]
  exact(beq_eq_false_iff_ne.mpr e).symm
theorem Jfs(a b:Str):decide ((Sum.inr a:Key)=Sum.inr b)=decide (a=b):=by
 by_cases e:a=b
 ·subst e;simp
 ·have h:¬(Sum.inr a:Key)=Sum.inr b:=fun q=>e (Sum.inr.inj q)
  rw[decide_eq_false h,decide_eq_false e]
theorem Jfu(a:Int)(b:Str):decide ((Sum.inl a:Key)=Sum.inr b)=false:=decide_eq_false (fun q=>nomatch q)
theorem Jft(a:Str)(b:Int):decide ((Sum.inr a:Key)=Sum.inl b)=false:=decide_eq_false (fun q=>nomatch q)
def A8(prog:Program)(w:World):PySem.KeyKind prog w Key where
 is:=Ot
 hash:=Jbp w
 inj:=fun v a b ha hb=>by
  rcases B8 ha with⟨i,t,rfl,rfl⟩|⟨x,t,rfl,rfl⟩
  ·rcases B8 hb with⟨j,u,rfl,e⟩|⟨y,u,rfl,e⟩
   ·injection e with e1 _;rw[e1]
   ·exact nomatch e
  ·rcases B8 hb with⟨j,u,rfl,e⟩|⟨y,u,rfl,e⟩
   ·exact nomatch e
   ·injection e with e1 _;rw[e1]
 byValue:=fun k v h=>by
  rcases B8 h with⟨i,t,rfl,rfl⟩|⟨x,t,rfl,rfl⟩<;>rfl
 pyHash:=fun hv h=>by
  rcases B8 hv with⟨i,t,rfl,rfl⟩|⟨x,t,rfl,rfl⟩
  ·exact wpAny_pyHash_int h
  ·exact wpAny_pyHash_str h
 eqBool:=fun hu hv h=>by
  rcases B8 hu with⟨i,t,rfl,rfl⟩|⟨x,t,rfl,rfl⟩
  ·rcases B8 hv with⟨j,u,rfl,rfl⟩|⟨y,u,rfl,rfl⟩
   ·rw[Jfv] at h;exact wpAny_eqBool_int h
   ·rw[Jfu] at h;exact SeqAt.EqAt.int_str i t y u _ _ _ _ h
  ·rcases B8 hv with⟨j,u,rfl,rfl⟩|⟨y,u,rfl,rfl⟩
   ·rw[Jft] at h;exact SeqAt.EqAt.str_int x t j u _ _ _ _ h
   ·rw[Jfs] at h;exact wpAny_eqBool_str h
 «strs»:=fun k x t v h=>by
  rcases B8 h with⟨i,u,rfl,e⟩|⟨y,u,rfl,e⟩
  ·exact nomatch e
  ·injection e with e1 _
   subst e1
   cases v<;>rfl
theorem T7(prog:Program)(w:World)(i:Int)(t:Tok):(A8 prog w).is (.inl i) (.int i t)=true:=Y3 i t
theorem T6(prog:Program)(w:World)(x:Str)(t:Tok):(A8 prog w).is (.inr x) (.str x t)=true:=Y2 x t
inductive V where
 | non|bl (b:Bool)|int (i:Int)|str (x:Str)|byt (b:Array UInt8)|flt (b:UInt64)|ref (a:Addr)|ty (n:String)
 deriving DecidableEq
def RelV:V→Value→Prop
 | .non,u=>u=Value.none
 | .bl b,u=>u=Value.bool b
 | .int i,u=>∃t,u=Value.int i t
 | .str x,u=>∃t,u=Value.str x t
 | .byt b,u=>∃t,u=Value.bytes b t
 | .flt b,u=>∃t,u=Value.float b t
 | .ref a,u=>u=Value.ref a
 | .ty n,u=>u=Value.type n
abbrev Vals:List V→List Value→Prop:=Paired RelV
theorem Vals.length{xs:List V}{us:List Value}(r:Vals xs us):xs.length=us.length:=Paired.length r
theorem Vals.get:∀{xs:List V} {us:List Value} {i:Nat} {x:V},Vals xs us→xs[i]?=some x→∃u,us[i]?=some u∧RelV x u
 | _,_,_,_,.nil,e=>by simp at e
 | _,_,0,_,.cons r _,e=>by simp at e;subst e;exact⟨_,rfl,r⟩
 | _,_,i+1,x,.cons _ t,e=>by
   obtain⟨u,h1,h2⟩:=Vals.get (i:=i) (x:=x) t (by simpa using e)
   exact⟨u,by simpa using h1,h2⟩
theorem Vals.append:∀{xs ys:List V} {us ws:List Value},Vals xs us→Vals ys ws→Vals (xs++ys) (us++ws)
 | _,_,_,_,.nil,s=>s
 | _,_,_,_,.cons r t,s=>.cons r (Vals.append t s)
theorem Vals.take:∀{xs:List V} {us:List Value} (n:Nat),Vals xs us→Vals (xs.take n) (us.take n)
 | _,_,0,_=>.nil
 | _,_,_+1,.nil=>.nil
 | _,_,n+1,.cons r t=>.cons r (Vals.take n t)
theorem Vals.drop:∀{xs:List V} {us:List Value} (n:Nat),Vals xs us→Vals (xs.drop n) (us.drop n)
 | _,_,0,r=>r
 | _,_,_+1,.nil=>.nil
 | _,_,n+1,.cons _ t=>Vals.drop n t
def RelO:Option V→Option Value→Prop
 | some v,some u=>RelV v u
 | none,none=>True
 | _,_=>False
def KV{κ:Type}:List (κ×V)→List (κ×Value)→Prop:=Paired fun(p:κ×V)(q:κ×Value)=>p.1=q.1∧RelV p.2 q.2
def kV:Key→V
 | .inl i=>.int i
 | .inr x=>.str x
inductive HO where
 | lst (xs:List V)
 | tup (xs:List V)
 | dK (kvs:List (Key×V))|dT (kvs:List (List Key×V))
 | set (S:Int→Bool) (n:Nat)
 | ins (C dx:Addr) (fs:List (Str×V))
 | own (x:Addr)
 | xd (fs:List (Str×V))
 | met (f x:Addr)
 | rng (lo hi:Int)
 | frz (o:Obj) (u:HO)
 | tbl (ps:Array Value)
 | ext (φ:Heap→Prop)
abbrev Hp:=Addr→Option HO
def upd(H:Hp)(a:Addr)(o:HO):Hp:=fun b=>if b=a then some o else H b
theorem Ab{H:Hp}{a:Addr}{o:HO}:upd H a o a=some o:=by unfold upd;rw[if_pos rfl]
theorem Ad{H:Hp}{a b:Addr}{o:HO}(h:b≠a):upd H a o b=H b:=by unfold upd;rw[if_neg h]
theorem K4{H:Hp}{a:Addr}{o u:HO}:upd (upd H a o) a u=upd H a u:=by
 funext b;unfold upd;split<;>rfl
theorem L9{H:Hp}{a b:Addr}{o u:HO}(h:H a=some o)(h':H b=some u)(d:o≠u):a≠b:=by
 intro e;subst e;rw[h] at h';exact d (ZO h')
theorem Am{H:Hp}{a b:Addr}{o:HO}(h:H a=some o)(h':H b=none):a≠b:=by
 intro e;subst e;rw[h] at h';cases h'
section
variable (P:Program)(w:World)
def ObjOk(H:Hp)(h:Heap)(a:Addr):HO→Prop
 | .lst xs=>xs.length≤sizeLine∧∃(its:List Value)(n:Nat),Vals xs its∧h.get? a=some { cls:=.type "list",data:=.seq its.toArray n }
 | .tup xs=>xs.length≤sizeLine∧∃its:List Value,Vals xs its∧IsTup h a its.toArray
 | .dK kvs=>kvs.length≤sizeLine∧(a==sysModules)=false∧∃vs,KV kvs vs∧h.DictOf (A8 P w) a vs
 | .dT kvs=>kvs.length≤sizeLine∧(a==sysModules)=false∧∃xs:List (List Key×Addr×Value),
  Paired (fun(p:List Key×V)(q:List Key×Addr×Value)=>p.1=q.1∧H q.2.1=some (.tup (p.1.map kV))∧RelV p.2 q.2.2) kvs xs ∧
  ∃o es ep,h.get? a=some o∧o.ExactDict∧o.data=.dict es ep∧es.toList=xs.map (entryOfKey (tupleKind (A8 P w)))∧(xs.map (·.1)).Nodup
 | .set S n=>h.SetOf (intKind P w) a S n
 | .ins C dx fs=>H dx=some (.own a)∧fs.length≤1000∧dx≠a∧h.get? a=some (W.instObj C dx) ∧
  ∃mA,h.Ns1 dx mA∧(∀f,RelO (fs.lookup f) (mA f))∧PySem.Within mA (fs.map (·.1))
 | .own _=>∃o,h.get? a=some o
 | .xd fs=>∃mA,h.Ns1 a mA∧∀f,RelO (fs.lookup f) (mA f)
 | .rng lo hi=>∃t u v,h.get? a=some { cls:=.type "range",data:=.fields #[.int lo t,.int hi u,.int 1 v] }
 | .frz o u=>h.get? a=some o∧ObjOk H h a u
 | .tbl ps=>h.get? a=some { cls:=.none,data:=.fields ps }
 | .met f x=>h.get? a=some (W.methodObj (.ref f) (.ref x))
 | .ext φ=>φ h∧(∃o,h.get? a=some o)∧∀h1 h2:Heap,φ h1→(∀o,h1.get? a=some o→h2.get? a=some o)→φ h2
def HOk(H:Hp)(h:Heap):Prop:=∀a o,H a=some o→ObjOk P w H h a o
end
section
variable {P:Program}{w:World}{H H':Hp}{h h':Heap}{a:Addr}{o:HO}
theorem ObjOk.lt(x:ObjOk P w H h a o):a<h.objs.size:=by
 cases o with
 | lst xs=>obtain⟨_,_,_,_,e⟩:=x;exact Heap.lt_size e
 | tup xs=>obtain⟨_,_,_,p⟩:=x;exact p.lt
 | dK kvs=>obtain⟨_,_,_,_,o,_,_,e,_⟩:=x;exact Heap.lt_size e
 | dT kvs=>obtain⟨_,_,_,_,o,_,_,e,_⟩:=x;exact Heap.lt_size e
 | set S n=>obtain⟨o,_,_,_,e,_⟩:=x;exact Heap.lt_size e
 | ins C dx fs=>obtain⟨_,_,_,e,_⟩:=x;exact Heap.lt_size e
 | own y=>obtain⟨_,e⟩:=x;exact Heap.lt_size e
 | xd fs=>obtain⟨_,⟨_,_,_,e,_⟩,_⟩:=x;exact Heap.lt_size e
 | rng lo hi=>obtain⟨_,_,_,e⟩:=x;exact Heap.lt_size e
 | frz ob u=>obtain⟨e,_⟩:=x;exact Heap.lt_size e
 | tbl ps=>exact Heap.lt_size (show h.get? a=some _ from x)
 | met f y=>exact Heap.lt_size (show h.get? a=some _ from x)
 | ext φ=>obtain⟨_,⟨_,e⟩,_⟩:=x;exact Heap.lt_size e
theorem Ji3{α β:Type}{F G:α→β→Prop}:∀{l₁:List α} {l₂:List β},Paired F l₁ l₂→(∀a b,F a b→G a b)→Paired G l₁ l₂
 | _,_,.nil,_=>.nil
 | _,_,.cons r t,f=>.cons (f _ _ r) (Ji3 t f)
theorem ObjOk.stay(x:ObjOk P w H h a o)(k:∀b u,(b=a∨H b=some (.own a))→h.get? b=some u→h'.get? b=some u)(ho:∀b,H b=some (.own a)→H' b=some (.own a))(ht:∀b xs,H b=some (.tup xs)→H' b=some (.tup xs)):ObjOk P w H' h' a o:=by
 induction o with
 | lst xs=>obtain⟨z,its,n,r,e⟩:=x;exact⟨z,its,n,r,k _ _ (.inl rfl) e⟩
 | tup xs=>obtain⟨z,its,r,ob,e,c⟩:=x;exact⟨z,its,r,ob,k _ _ (.inl rfl) e,c⟩
 | dK kvs=>obtain⟨z,y,vs,r,ob,es,ep,e,c⟩:=x;exact⟨z,y,vs,r,ob,es,ep,k _ _ (.inl rfl) e,c⟩
 | dT kvs =>
   obtain⟨z,y,xs,r,ob,es,ep,e,c⟩:=x
   exact⟨z,y,xs,Ji3 r fun p q z=>⟨z.1,ht _ _ z.2.1,z.2.2⟩,ob,es,ep,k _ _ (.inl rfl) e,c⟩
 | set S n=>obtain⟨ob,es,ep,t,e,c⟩:=x;exact⟨ob,es,ep,t,k _ _ (.inl rfl) e,c⟩
 | ins C dx fs =>
   obtain⟨d,z,ne,e,mA,⟨od,es,ep,e2,c⟩,r⟩:=x
   exact⟨ho _ d,z,ne,k _ _ (.inl rfl) e,mA,⟨od,es,ep,k _ _ (.inr d) e2,c⟩,r⟩
 | own y=>obtain⟨ob,e⟩:=x;exact⟨ob,k _ _ (.inl rfl) e⟩
 | xd fs=>obtain⟨mA,⟨od,es,ep,e,c⟩,r⟩:=x;exact⟨mA,⟨od,es,ep,k _ _ (.inl rfl) e,c⟩,r⟩
 | rng lo hi=>obtain⟨t,u,v,e⟩:=x;exact⟨t,u,v,k _ _ (.inl rfl) e⟩
 | frz ob u ih=>obtain⟨e,q⟩:=x;exact⟨k _ _ (.inl rfl) e,ih q⟩
 | tbl ps =>
   have e:h.get? a=some { cls:=.none,data:=.fields ps }:=x
   show h'.get? a=some { cls:=.none,data:=.fields ps }
   exact k a _ (.inl rfl) e
 | met f y =>
   have e:h.get? a=some (W.methodObj (.ref f) (.ref y)):=x
   show h'.get? a=some (W.methodObj (.ref f) (.ref y))
   exact k a _ (.inl rfl) e
 | ext φ=>obtain⟨p,⟨o,e⟩,st⟩:=x;exact⟨st _ _ p fun o q=>k _ _ (.inl rfl) q,⟨o,k _ _ (.inl rfl) e⟩,st⟩
theorem HOk.lt(x:HOk P w H h)(e:H a=some o):a<h.objs.size:=(x a o e).lt
theorem HOk.fresh(x:HOk P w H h)(e:h.objs.size≤a):H a=none:=by
 cases q:H a with
 | none=>rfl
 | some u=>exact absurd (Nat.lt_of_lt_of_le (x.lt q) e) (Nat.lt_irrefl _)
theorem HOk.kept(x:HOk P w H h)(k:∀b u,h.get? b=some u→h'.get? b=some u):HOk P w H h':=fun a o e =>
 (x a o e).stay (fun b u _ q=>k b u q) (fun _ q=>q) fun _ _ q=>q
theorem HOk.laid(x:HOk P w H h)(k:∀b u,h.get? b=some u→h'.get? b=some u)(hp:h.objs.size≤a)(new:ObjOk P w (upd H a o) h' a o):HOk P w (upd H a o) h':=fun b u e=>by
 have hn:=x.fresh hp
 by_cases hb:b=a
 ·subst hb;rw[Ab] at e;cases e;exact new
 ·rw[Ad hb] at e
  exact(x b u e).stay (fun c v _ q=>k c v q) (fun c q=>by rw[Ad (Am q hn)];exact q) fun c xs q=>by rw[Ad (Am q hn)];exact q
end
def Rd(H:Hp)(a:Addr)(u:HO):Prop:=H a=some u∨∃o,H a=some (.frz o u)
theorem Rd.ok{P:Program}{w:World}{H:Hp}{h:Heap}{a:Addr}{u:HO}(r:Rd H a u)(x:HOk P w H h):ObjOk P w H h a u:=by
 rcases r with r|⟨o,r⟩
 ·exact x a u r
 ·obtain⟨_,q⟩:=x a _ r
  exact q
def Mut:Option HO→Prop
 | some (.lst _)=>True
 | some (.dK _)=>True
 | some (.dT _)=>True
 | some (.set _ _)=>True
 | some (.ins _ _ _)=>True
 | some (.ext _)=>True
 | _=>False
section
variable {P:Program}{w:World}{H:Hp}{h h':Heap}{x e:Addr}{o':HO}
theorem HOk.write(ok:HOk P w H h)(mu:Mut (H x))(he:e=x∨H e=some (.own x))(k:∀b u,b≠e→h.get? b=some u→h'.get? b=some u)(heo:∃u,h'.get? e=some u)(new:ObjOk P w (upd H x o') h' x o'):HOk P w (upd H x o') h':=fun b u q=>by
 have nown:∀c y,H c=some (.own y)→c≠x:=fun c y r z=>by subst z;rw[r] at mu;exact mu
 have ntup:∀c xs,H c=some (.tup xs)→c≠x:=fun c xs r z=>by subst z;rw[r] at mu;exact mu
 by_cases hb:b=x
 ·subst hb;rw[Ab] at q;cases q;exact new
 ·rw[Ad hb] at q
  by_cases hbe:b=e
  ·have q':H b=some (.own x):=by
    rcases he with z|z
    ·exact absurd (hbe.trans z) hb
    ·rw[hbe];exact z
   rw[q] at q';cases q'
   obtain⟨v,hv⟩:=heo
   exact⟨v,by rw[hbe];exact hv⟩
  ·refine(ok b u q).stay (fun c v hc r=>k c v ?_ r) (fun c r=>by rw[Ad (nown c b r)];exact r) fun c xs r=>by rw[Ad (ntup c xs r)];exact r
   rcases hc with rfl|hc
   ·exact hbe
   ·rintro rfl
    rcases he with z|z
    ·exact nown c b hc z
    ·rw[hc] at z;cases z;exact hb rfl
end
structure Un(fs ex:List Addr)(H H':Hp)(h h':Heap):Prop where
 keep:∀b o,h.get? b=some o→H b=none→b∉fs→b∉ex→h'.get? b=some o
 slot:∀b o,h.get? b=some o→H b=none→b∈fs→b∉ex→∃sl,h'.get? b=some { o with slots:=sl }
 free:∀b o,h.get? b=some o→H b=none→b∉ex→H' b=none
 there:∀b o,h.get? b=some o→b∉ex→∃o',h'.get? b=some o'
 tups:∀b xs,H b=some (.tup xs)→H' b=some (.tup xs)
 frzs:∀b o u,H b=some (.frz o u)→H' b=some (.frz o u)
 tbls:∀b ps,H b=some (.tbl ps)→∃more,H' b=some (.tbl (ps++more))
section
variable {fs fs' ex ex':List Addr}{H H1 H2:Hp}{h h1 h2 h':Heap}{a x e:Addr}{o:HO}
theorem Un.any(u:Un fs ex H H1 h h1){b:Addr}{ob:Obj}(q:h.get? b=some ob)(n:H b=none)(hx:b∉ex):∃sl,h1.get? b=some { ob with slots:=sl }:=by
 by_cases hb:b∈fs
 ·exact u.slot b ob q n hb hx
 ·exact⟨ob.slots,u.keep b ob q n hb hx⟩
theorem Un.kept(k:∀b u,h.get? b=some u→h'.get? b=some u):Un fs ex H H h h' :=
 ⟨fun b ob q _ _ _=>k b ob q,fun b ob q _ _ _=>⟨ob.slots,k b ob q⟩,fun _ _ _ n _=>n,fun b ob q _=>⟨ob,k b ob q⟩,fun _ _ q=>q,fun _ _ _ q=>q,fun _ ps q=>⟨#[],by rw[q];simp⟩⟩
theorem Un.refl:Un fs ex H H h h:=Un.kept fun _ _ q=>q
theorem Un.laid(k:∀b u,h.get? b=some u→h'.get? b=some u)(hp:h.objs.size≤a)(hn:H a=none):Un fs ex H (upd H a o) h h' where
 keep:=fun b u q _ _ _=>k b u q
 slot:=fun b u q _ _ _=>⟨u.slots,k b u q⟩
 free:=fun b u q n _=>by rw[Ad (Nat.ne_of_lt (Nat.lt_of_lt_of_le (Heap.lt_size q) hp))];exact n
 there:=fun b u q _=>⟨u,k b u q⟩
 tups:=fun b xs q=>by rw[Ad (Am q hn)];exact q
 frzs:=fun b u xs q=>by rw[Ad (Am q hn)];exact q
 tbls:=fun b ps q=>⟨#[],by rw[Ad (Am q hn),q];simp⟩
theorem Un.write(mu:Mut (H x))(he:e=x∨H e=some (.own x))(k:∀b u,b≠e→h.get? b=some u→h'.get? b=some u)(heo:∃u,h'.get? e=some u):Un fs ex H (upd H x o) h h':=by
 have hx:∀b,H b=none→b≠x:=fun b n z=>by subst z;rw[n] at mu;exact mu
 have hb:∀b,H b=none→b≠e:=fun b n z=>by
  subst z
  rcases he with r|r
  ·exact hx b n r
  ·rw[n] at r;cases r
 have hm:∀b u,H b=some u→¬Mut (some u)→b≠x:=fun b u q nm z=>by subst z;rw[q] at mu;exact nm mu
 refine⟨fun b u q n _ _=>k b u (hb b n) q,fun b u q n _ _=>⟨u.slots,k b u (hb b n) q⟩,fun b u q n _=>by rw[Ad (hx b n)];exact n,fun b u q _=>?_,
  fun b xs q=>by rw[Ad (hm b _ q fun z=>z)];exact q,fun b u xs q=>by rw[Ad (hm b _ q fun z=>z)];exact q,fun b ps q=>⟨#[],by rw[Ad (hm b _ q fun z=>z),q];simp⟩⟩
 by_cases hbe:b=e
 ·subst hbe;exact heo
 ·exact⟨u,k b u hbe q⟩
end
def trk(h:Heap)(H:Hp):List Addr:=(List.range h.objs.size).filter fun a=>(H a).isSome
def Rl(h:Heap)(H:Hp):Heap:=W.hideAll h (trk h H)
theorem Y9(h:Heap)(H:Hp):(Rl h H).objs.size=h.objs.size:=W.hideAll_size _ _
theorem Jbs{h:Heap}{H:Hp}{b:Addr}{o:Obj}(e:h.get? b=some o)(n:H b=none):(Rl h H).get? b=some o :=
 W.hideAll_get _ e fun hm=>by
  have q:(H b).isSome=true:=(List.mem_filter.mp hm).2
  rw[n] at q;simp at q
theorem Jdn{h:Heap}{H:Hp}{b:Addr}{o:Obj}(e:(Rl h H).get? b=some o):h.get? b=some o∧H b=none:=by
 have e':h.get? b=some o:=W.of_hideAll (trk h H) e
 refine⟨e',?_⟩
 cases q:H b with
 | none=>rfl
 | some x =>
   have hm:b∈trk h H:=List.mem_filter.mpr ⟨List.mem_range.mpr (Heap.lt_size e'),by simp[q]⟩
   have z:(Rl h H).get? b=none:=W.hideAll_none (trk h H) hm
   rw[z] at e;cases e
def Jef(g h:Heap)(L:Addr):List (Addr×Obj):=(List.range h.objs.size).filterMap fun a=>if a=L∨(g.get? a).isSome=true then none else(h.get? a).map fun o=>(a,o)
def rest(g h:Heap)(L d:Addr):List (Addr×Obj):=(Jef g h L).filter fun p=>decide (p.1≠d)
structure Mod(K:W.Frag)(mg:Str→Option Value)(base:Heap):Prop where
 kin:K.In base
 glob:base.Ns mainGlobals mg
 blt:∃mb,base.Ns builtinsNs mb∧∀x:Str,x≠"__name__"→mb x=bootBuiltins x
 nolimit:base.NoLimit
structure Cx where
 prog:Program
 w:World
 K:W.Frag
 mg:Str→Option Value
 base:Heap
 A:Around
 N:List Str
 s₀:Shared
 H₀:Hp
 env:Env
 outer:List Env
 stack:List Env
 ex:List Addr
 fn:Str→Bool
 calm:Bool
 pn:List (Addr×Obj)
 xe:Value→Shared→Prop
def frs(l:List Env):List Addr:=l.filterMap (·.frame)
abbrev Cx.fs(X:Cx):List Addr:=frs X.outer
def Vis(sc:Scope)(x:Str):Prop:=sc.names.lookup x=some .local∨sc.names.lookup x=some .cell∨sc.names.lookup x=some .free
def Loc(sc:Scope)(x:Str):Prop:=sc.names.lookup x=some .local∨sc.names.lookup x=some .cell
def Look(env:Env)(h:Heap)(m:Str→Option Value)(x:Str)(u:Value):Prop :=
 (env.kindOf x=some .local∧m x=some u)∨((env.kindOf x=some .cell∨env.kindOf x=some .free)∧∃c,env.cells.lookup x=some c∧h.IsCell c (some u))
structure Cx.Ok(X:Cx):Prop where
 mod:Mod X.K X.mg X.base
 kind:X.env.scope.kind=.function
 glob:X.env.globals=mainGlobals
 blt:X.env.builtins=builtinsNs
 above:X.s₀.heap.objs.size≤X.env.locals
 inj:∀x y c,X.env.cells.lookup x=some c→X.env.cells.lookup y=some c→x=y
 has:∀x,(X.env.kindOf x=some .cell∨X.env.kindOf x=some .free)→∃c,X.env.cells.lookup x=some c
 cab:∀x c,X.fn x=true→X.env.cells.lookup x=some c→X.s₀.heap.objs.size≤c
 hd:X.calm=true→X.A.handled=none
 frames:X.A.frames=some X.stack
 stk:X.stack=X.outer∨(X.stack=X.env::X.outer∧X.env.frame=some X.env.locals)
 exf:∀b∈X.ex,b≠X.env.locals∧∀x c,X.env.cells.lookup x=some c→c≠b
 bs:∀b o,X.base.get? b=some o→X.s₀.heap.get? b=some o∧X.H₀ b=none
 bsz:X.base.objs.size≤X.s₀.heap.objs.size
 noex:∀b o,X.base.get? b=some o→b∉X.ex
 exfs:∀b∈X.ex,b∉X.fs
 funs:X.s₀.heap.FunFrames X.base X.outer
 frf:∀b∈X.fs,X.H₀ b=none
structure Inv(X:Cx)(pins:List (Addr×Obj))(σ:List (Option V))(H:Hp)(s:Shared):Prop where
 ok:X.Ok
 os:s.os=X.s₀.os
 bare:AllBare s.gens
 base:Un X.fs X.ex X.H₀ H X.s₀.heap s.heap
 loc:∃m,s.heap.Ns X.env.locals m∧∀(i:Nat)(x:Str)(v:V),X.N[i]?=some x→σ[i]?=some (some v)→Vis X.env.scope x→∃u,RelV v u∧Look X.env s.heap m x u
 cell:∀x c,X.env.cells.lookup x=some c→∃v,s.heap.IsCell c v
 free:H X.env.locals=none
 freeC:∀x c,X.env.cells.lookup x=some c→H c=none
 pin:∀p∈X.pn++pins,s.heap.get? p.1=some p.2∧H p.1=none∧p.1≠X.env.locals∧p.1∉X.fs∧∀v,p.2.data≠.cell v
 hok:HOk X.prog X.w H s.heap
 len:σ.length=X.N.length
section
variable {X:Cx}{pins:List (Addr×Obj)}{σ:List (Option V)}{H H':Hp}{s:Shared}{h':Heap}
theorem Cx.Ok.nofr(ok:X.Ok){b:Addr}{o:Obj}(e:X.base.get? b=some o):b∉X.fs:=fun hb=>by
 have:=(ok.funs.mem hb).1
 rw[e] at this;cases this
theorem Inv.bs(I:Inv X pins σ H s):∀b o,X.base.get? b=some o→s.heap.get? b=some o∧H b=none:=fun b o e =>
 ⟨I.base.keep b o (I.ok.bs b o e).1 (I.ok.bs b o e).2 (I.ok.nofr e) (I.ok.noex b o e),I.base.free b o (I.ok.bs b o e).1 (I.ok.bs b o e).2 (I.ok.noex b o e)⟩
theorem Inv.bk(I:Inv X pins σ H s):∀b o,X.base.get? b=some o→s.heap.get? b=some o:=fun b o e=>(I.bs b o e).1
theorem Inv.mod(I:Inv X pins σ H s):Mod X.K X.mg X.base:=I.ok.mod
theorem Inv.kIn(I:Inv X pins σ H s):X.K.In s.heap:=I.ok.mod.kin.keeps I.bk
theorem Inv.lt(I:Inv X pins σ H s):X.env.locals<s.heap.objs.size:=let⟨_,hn,_⟩:=I.loc;hn.lt
theorem Inv.sz(I:Inv X pins σ H s):X.s₀.heap.objs.size≤s.heap.objs.size:=Nat.le_trans I.ok.above (Nat.le_of_lt I.lt)
theorem Inv.nofs(I:Inv X pins σ H s){a:Addr}(h:s.heap.objs.size≤a):a∉X.fs:=fun hb=>by
 obtain⟨_,o,ho,_⟩:=I.ok.funs.mem hb
 exact absurd (Nat.lt_of_lt_of_le (Heap.lt_size ho) (Nat.le_trans I.sz h)) (Nat.lt_irrefl _)
theorem Inv.cne(I:Inv X pins σ H s):∀x c,X.env.cells.lookup x=some c→c≠X.env.locals:=fun x c e z=>by
 obtain⟨v,o,ho,hd⟩:=I.cell x c e
 obtain⟨m,⟨o',es,ep,ho',hd',_⟩,_⟩:=I.loc
 rw[z,ho'] at ho;cases ho;rw[hd'] at hd;cases hd
theorem Inv.funs(I:Inv X pins σ H s):s.heap.FunFrames X.base X.outer:=by
 have all:∀(l:List Env),(∀b∈frs l,b∈X.fs)→X.s₀.heap.FunFrames X.base l→s.heap.FunFrames X.base l:=by
  intro l
  induction l with
  | nil=>intro _ _;trivial
  | cons env r ih =>
    intro hs hl
    obtain⟨hk,⟨L,o,hf,hn,ho,hd⟩,hr⟩:=hl
    have hL:L∈X.fs:=hs L (by unfold frs;rw[List.filterMap_cons,hf];exact ZL)
    obtain⟨sl,e⟩:=I.base.slot L o ho (I.ok.frf L hL) hL fun z=>I.ok.exfs L z hL
    exact⟨hk,⟨L,_,hf,hn,e,hd⟩,ih (fun b hb=>hs b (by unfold frs;rw[List.filterMap_cons,hf];exact ZD _ hb)) hr⟩
 exact all X.outer (fun _ hb=>hb) I.ok.funs
theorem Inv.stack(I:Inv X pins σ H s):s.heap.FunFrames X.base X.stack:=by
 rcases I.ok.stk with e|⟨e,hf⟩
 ·rw[e];exact I.funs
 ·rw[e]
  obtain⟨m,hn,_⟩:=I.loc
  refine .cons (by rw[I.ok.kind];decide) hf hn ?_ I.funs
  exact Heap.get?_none_of_le (Nat.le_trans I.ok.bsz I.ok.above)
theorem Inv.stkSub(I:Inv X pins σ H s):∀b∈frs X.stack,b∈X.env.locals::X.fs:=fun b hb=>by
 rcases I.ok.stk with e|⟨e,hf⟩
 ·rw[e] at hb;exact ZD _ hb
 ·rw[e] at hb
  unfold frs at hb
  rw[List.filterMap_cons,hf] at hb
  exact hb
theorem Inv.stkFree(I:Inv X pins σ H s):∀b∈frs X.stack,H b=none:=fun b hb=>by
 rcases ZM (I.stkSub b hb) with e|hb
 ·rw[e];exact I.free
 ·obtain⟨_,o,ho,_⟩:=I.ok.funs.mem hb
  exact I.base.free b o ho (I.ok.frf b hb) fun z=>I.ok.exfs b z hb
theorem Inv.step{g':Array GenState}{t':Nat}{d':Drawn}{ch:List Addr}(I:Inv X pins σ H s)(hch:∀b∈ch,(b∈X.ex∨X.s₀.heap.objs.size≤b)∧b≠X.env.locals∧(∀x c,X.env.cells.lookup x=some c→c≠b)∧∀p∈X.pn++pins,p.1≠b)(keep:∀b o,b≠X.env.locals→b∉X.fs→b∉ch→s.heap.get? b=some o→H b=none→h'.get? b=some o)(slot:∀b o,b≠X.env.locals→b∈X.fs→b∉ch→s.heap.get? b=some o→H b=none→∃sl,h'.get? b=some { o with slots:=sl })(free:∀b o,b∉ch→s.heap.get? b=some o→H b=none→H' b=none)(there:∀b o,b∉ch→s.heap.get? b=some o→∃o',h'.get? b=some o')(tups:∀b xs,H b=some (.tup xs)→H' b=some (.tup xs))(frzs:∀b o u,H b=some (.frz o u)→H' b=some (.frz o u))(tbls:∀b ps,H b=some (.tbl ps)→∃more,H' b=some (.tbl (ps++more)))(ns:∀m,s.heap.Ns X.env.locals m→h'.Ns X.env.locals m)(hok:HOk X.prog X.w H' h')(hg:AllBare g') :
 Inv X pins σ H' { s with heap:=h',gens:=g',drawn:=d',toks:=t' }:=by
 have neL:∀b o,X.s₀.heap.get? b=some o→b≠X.env.locals:=fun b o e=>Nat.ne_of_lt (Nat.lt_of_lt_of_le (Heap.lt_size e) I.ok.above)
 have neC:∀b o,X.s₀.heap.get? b=some o→b∉X.ex→b∉ch:=fun b o e hx hb=>by
  rcases(hch b hb).1 with z|z
  ·exact hx z
  ·exact absurd (Nat.lt_of_lt_of_le (Heap.lt_size e) z) (Nat.lt_irrefl _)
 have cellK:∀x c,X.env.cells.lookup x=some c→∀v,s.heap.IsCell c v→h'.IsCell c v:=fun x c e v ⟨o,ho,hd⟩=>by
  have nch:c∉ch:=fun z=>(hch c z).2.2.1 x c e rfl
  by_cases hc:c∈X.fs
  ·obtain⟨sl,q⟩:=slot c o (I.cne x c e) hc nch ho (I.freeC x c e)
   exact⟨_,q,hd⟩
  ·exact⟨o,keep c o (I.cne x c e) hc nch ho (I.freeC x c e),hd⟩
 refine⟨I.ok,I.os,hg,⟨fun b o e n hb hx=>?_,fun b o e n hb hx=>?_,fun b o e n hx=>?_,fun b o e hx=>?_,fun b xs e=>tups b xs (I.base.tups b xs e),fun b o xs e=>frzs b o xs (I.base.frzs b o xs e),fun b ps e=>?_⟩,?_,fun x c e=>?_,?_,fun x c e=>?_,fun p hp=>?_,hok,I.len⟩
 ·exact keep b o (neL b o e) hb (neC b o e hx) (I.base.keep b o e n hb hx) (I.base.free b o e n hx)
 ·obtain⟨sl,e1⟩:=I.base.slot b o e n hb hx
  obtain⟨sl',e2⟩:=slot b _ (neL b o e) hb (neC b o e hx) e1 (I.base.free b o e n hx)
  exact⟨sl',e2⟩
 ·obtain⟨o',e1⟩:=I.base.there b o e hx
  exact free b o' (neC b o e hx) e1 (I.base.free b o e n hx)
 ·obtain⟨o',e1⟩:=I.base.there b o e hx
  exact there b o' (neC b o e hx) e1
 ·obtain⟨m1,e1⟩:=I.base.tbls b ps e
  obtain⟨m2,e2⟩:=tbls b _ e1
  exact⟨m1++m2,by rw[e2,Array.append_assoc]⟩
 ·obtain⟨m,hn,hl⟩:=I.loc
  refine⟨m,ns m hn,fun i x v e1 e2 e3=>?_⟩
  obtain⟨u,r,l⟩:=hl i x v e1 e2 e3
  refine⟨u,r,?_⟩
  rcases l with l|⟨k,c,e,z⟩
  ·exact .inl l
  ·exact .inr ⟨k,c,e,cellK x c e _ z⟩
 ·obtain⟨v,z⟩:=I.cell x c e
  exact⟨v,cellK x c e v z⟩
 ·obtain⟨m,⟨o,_,_,ho,_⟩,_⟩:=I.loc
  exact free _ o (fun z=>(hch _ z).2.1 rfl) ho I.free
 ·obtain⟨v,o,ho,hd⟩:=I.cell x c e
  exact free c o (fun z=>(hch c z).2.2.1 x c e rfl) ho (I.freeC x c e)
 ·obtain⟨e,n,ne,nf,d⟩:=I.pin p hp
  have nch:p.1∉ch:=fun z=>(hch p.1 z).2.2.2 p hp rfl
  exact⟨keep p.1 p.2 ne nf nch e n,free p.1 p.2 nch e n,ne,nf,d⟩
theorem Inv.un{t':Nat}(I:Inv X pins σ H s)(u:Un X.fs [] H H' s.heap h')(hok:HOk X.prog X.w H' h'):Inv X pins σ H' { s with heap:=h',toks:=t' }:=by
 obtain⟨m,⟨o,es,ep,ho,r⟩,_⟩:=id I.loc
 obtain⟨sl,hL⟩:=u.any ho I.free (by simp)
 exact I.step (g':=s.gens) (d':=s.drawn) (ch:=[]) (fun _ z=>nomatch z) (fun b o _ hb _ e n=>u.keep b o e n hb (by simp)) (fun b o _ hb _ e n=>u.slot b o e n hb (by simp)) (fun b o _ e n=>u.free b o e n (by simp)) (fun b o _ e=>u.there b o e (by simp)) u.tups u.frzs u.tbls (fun m' hm=>by
  obtain⟨o',es',ep',ho',r'⟩:=hm
  rw[ho] at ho';cases ho'
  exact⟨_,es',ep',hL,r'⟩) hok I.bare
theorem Inv.call{g':Array GenState}{t':Nat}{d':Drawn}{ch:List Addr}(I:Inv X pins σ H s)(u:Un (frs X.stack) ch H H' s.heap h')(hok:HOk X.prog X.w H' h')(hg:AllBare g')(hch:∀b∈ch,(b∈X.ex∨X.s₀.heap.objs.size≤b)∧b≠X.env.locals∧(∀x c,X.env.cells.lookup x=some c→c≠b)∧∀p∈X.pn++pins,p.1≠b) :
 Inv X pins σ H' { s with heap:=h',gens:=g',drawn:=d',toks:=t' }:=by
 obtain⟨m,⟨o,es,ep,ho,r⟩,_⟩:=id I.loc
 obtain⟨sl,hL⟩:=u.any ho I.free fun z=>(hch _ z).2.1 rfl
 exact I.step (ch:=ch) hch (fun b o hL hb hc e n=>u.keep b o e n (fun z=>(ZM (I.stkSub b z)).elim hL hb) hc) (fun b o _ _ hc e n=>u.any e n hc) (fun b o hc e n=>u.free b o e n hc) (fun b o hc e=>u.there b o e hc) u.tups u.frzs u.tbls (fun m' hm=>by
  obtain⟨o',es',ep',ho',r'⟩:=hm
  rw[ho] at ho';cases ho'
  exact⟨_,es',ep',hL,r'⟩) hok hg
theorem Inv.turned{t':Nat}{it:Addr}(I:Inv X pins σ H s)(k:∀b o,b≠it→s.heap.get? b=some o→h'.get? b=some o)(hn:H it=none)(hL:it≠X.env.locals)(h1:it∈X.ex∨X.s₀.heap.objs.size≤it)(h2:∀x c,X.env.cells.lookup x=some c→c≠it)(h3:∀p∈X.pn++pins,p.1≠it):Inv X pins σ H { s with heap:=h',toks:=t' }:=by
 have nit:∀b u,H b=some u→b≠it:=fun b u e z=>by rw[z,hn] at e;cases e
 refine I.step (g':=s.gens) (d':=s.drawn) (ch:=[it]) (fun b hb=>?_) (fun b o _ _ hc e _=>k b o (fun z=>hc (by simp[z])) e) (fun b o _ _ hc e _=>⟨o.slots,k b o (fun z=>hc (by simp[z])) e⟩) (fun _ _ _ _ n=>n)
  (fun b o hc e=>⟨o,k b o (fun z=>hc (by simp[z])) e⟩) (fun _ _ e=>e) (fun _ _ _ e=>e) (fun b ps e=>⟨#[],by rw[e];simp⟩) (fun m hm=>?_) (fun b u e=>?_) I.bare
 ·have e:b=it:=by simpa using hb
  subst e
  exact⟨h1,hL,h2,h3⟩
 ·obtain⟨o,es,ep,ho,r⟩:=hm
  exact⟨o,es,ep,k _ o (Ne.symm hL) ho,r⟩
 ·refine(I.hok b u e).stay (fun c v hc q=>k c v ?_ q) (fun _ q=>q) fun _ _ q=>q
  rcases hc with z|z
  ·rw[z];exact nit b u e
  ·exact nit c _ z
theorem Inv.tok(I:Inv X pins σ H s)(t:Nat):Inv X pins σ H { s with toks:=t }:=I.un (h':=s.heap) (t':=t) Un.refl I.hok
theorem Inv.kept{t':Nat}(I:Inv X pins σ H s)(k:∀b u,s.heap.get? b=some u→h'.get? b=some u):Inv X pins σ H { s with heap:=h',toks:=t' }:=I.un (Un.kept k) (I.hok.kept k)
theorem Inv.laid{a:Addr}{o:HO}{t':Nat}(I:Inv X pins σ H s)(k:∀b u,s.heap.get? b=some u→h'.get? b=some u)(hp:s.heap.objs.size≤a)(new:ObjOk X.prog X.w (upd H a o) h' a o) :
 Inv X pins σ (upd H a o) { s with heap:=h',toks:=t' }:=I.un (Un.laid k hp (I.hok.fresh hp)) (I.hok.laid k hp new)
theorem Inv.write{x e:Addr}{o:HO}{t':Nat}(I:Inv X pins σ H s)(mu:Mut (H x))(he:e=x∨H e=some (.own x))(k:∀b u,b≠e→s.heap.get? b=some u→h'.get? b=some u)(heo:∃u,h'.get? e=some u)(new:ObjOk X.prog X.w (upd H x o) h' x o):Inv X pins σ (upd H x o) { s with heap:=h',toks:=t' }:=I.un (Un.write mu he k heo) (I.hok.write mu he k heo new)
theorem Inv.pins_of{pins':List (Addr×Obj)}(I:Inv X pins σ H s)(h:∀p∈pins',s.heap.get? p.1=some p.2∧H p.1=none∧p.1≠X.env.locals∧p.1∉X.fs∧∀v,p.2.data≠.cell v):Inv X pins' σ H s :=
 ⟨I.ok,I.os,I.bare,I.base,I.loc,I.cell,I.free,I.freeC,fun p hp=>(ZI hp).elim (fun z=>I.pin p (ZB _ z)) (h p),I.hok,I.len⟩
theorem Tu{N:List Str}(hN:N.Nodup){i j:Nat}{x:Str}(a:N[i]?=some x)(b:N[j]?=some x):i=j:=by
 obtain⟨h1,e1⟩:=ZJ a
 obtain⟨h2,e2⟩:=ZJ b
 exact(List.getElem_inj hN).mp (e1.trans e2.symm)
theorem Oc{M:Model}{A:Around}{E:Value→Shared→Prop}{i:Nat}{x:Str}{v:V}{u:Value}{Q:Unit→Shared→Prop}(I:Inv X pins σ H s)(hN:X.N.Nodup)(hi:X.N[i]?=some x)(hx:Loc X.env.scope x)(r:RelV v u)(h:∀s',Inv X pins (σ.set i (some v)) H s'→(∃a,Heap.SameBut a s.heap s'.heap∧(a=X.env.locals∨X.env.cells.lookup x=some a))→Q () s')(hf:X.fn x=true∨X.env.scope.names.lookup x=some .local:=by first|exact .inl rfl|exact .inr rfl|assumption):wpAny M A (storeName X.env x u) Q E s:=by
 obtain⟨m,hn,hl⟩:=id I.loc
 have hcls:(X.env.scope.kind == .class || (X.env.scope.kind == .module&&X.env.locals != X.env.globals))=false:=by rw[I.ok.kind];rfl
 have hiσ:i<σ.length:=by rw[I.len];exact(ZJ hi).1
 have cne:=I.cne
 have tracked:∀{a:Addr} {h':Heap},(∃o,s.heap.get? a=some o∧H a=none)→Heap.SameBut a s.heap h'→HOk X.prog X.w H h':=fun{a h'} ha hs b ob e=>by
  obtain⟨_,_,hfree⟩:=ha
  refine(I.hok b ob e).stay (fun c w' hc q=>(hs.2 c ?_).trans q) (fun _ q=>q) fun _ _ q=>q
  rintro rfl
  rcases hc with rfl|hc
  ·rw[hfree] at e;cases e
  ·rw[hfree] at hc;cases hc
 rcases hx with hk|hk
 ·refine wpAny_storeName_local hk hn (fun h' hn' hs=>?_) hcls
  obtain⟨oL,_,_,hoL,_⟩:=id hn
  refine h _ ⟨I.ok,I.os,I.bare,⟨fun b o e n hb hx=>?_,fun b o e n hb hx=>?_,I.base.free,fun b o e hx=>?_,I.base.tups,I.base.frzs,I.base.tbls⟩,⟨_,hn',fun j y v' e1 e2 e3=>?_⟩,fun y c e=>?_,I.free,I.freeC,fun p hp=>?_,tracked ⟨oL,hoL,I.free⟩ hs,by simpa using I.len⟩ ⟨_,hs,.inl rfl⟩
  ·exact(hs.2 b (Nat.ne_of_lt (Nat.lt_of_lt_of_le (Heap.lt_size e) I.ok.above))).trans (I.base.keep b o e n hb hx)
  ·obtain⟨sl,e1⟩:=I.base.slot b o e n hb hx
   exact⟨sl,(hs.2 b (Nat.ne_of_lt (Nat.lt_of_lt_of_le (Heap.lt_size e) I.ok.above))).trans e1⟩
  ·obtain⟨o',e1⟩:=I.base.there b o e hx
   exact⟨o',(hs.2 b (Nat.ne_of_lt (Nat.lt_of_lt_of_le (Heap.lt_size e) I.ok.above))).trans e1⟩
  ·by_cases hj:j=i
   ·subst hj
    rw[hi] at e1;cases e1
    rw[List.getElem?_set_self hiσ] at e2
    cases e2
    exact⟨u,r,.inl ⟨hk,by simp⟩⟩
   ·rw[List.getElem?_set_ne (Ne.symm hj)] at e2
    obtain⟨u',r',q⟩:=hl j y v' e1 e2 e3
    refine⟨u',r',?_⟩
    rcases q with⟨k,e⟩|⟨k,c,e,z⟩
    ·refine .inl ⟨k,?_⟩
     have:y≠x:=fun e=>hj (Tu hN e1 (e▸hi))
     simp[this,e]
    ·exact .inr ⟨k,c,e,z.sameBut hs (cne y c e)⟩
  ·obtain⟨w',z⟩:=I.cell y c e
   exact⟨w',z.sameBut hs (cne y c e)⟩
  ·obtain⟨e,n,ne,nf,d⟩:=I.pin p hp
   exact⟨(hs.2 p.1 ne).trans e,n,ne,nf,d⟩
 ·have hfn:X.fn x=true:=by
   rcases hf with z|z
   ·exact z
   ·rw[z] at hk;cases hk
  obtain⟨c,hc⟩:=I.ok.has x (.inl hk)
  obtain⟨w',z⟩:=I.cell x c hc
  refine wpAny_storeName_cell I.ok.kind hk hc z (fun h' hc' hs=>?_)
  obtain⟨oc,hoc,hocd⟩:=id z
  refine h { s with heap:=h' } ⟨I.ok,I.os,I.bare,⟨fun b o e n hb hx=>?_,fun b o e n hb hx=>?_,I.base.free,fun b o e hx=>?_,I.base.tups,I.base.frzs,I.base.tbls⟩,⟨m,hn.sameBut hs (Ne.symm (cne x c hc)),fun j y v' e1 e2 e3=>?_⟩,fun y c' e=>?_,I.free,I.freeC,fun p hp=>?_,tracked ⟨oc,hoc,I.freeC x c hc⟩ hs,by simpa using I.len⟩ ⟨c,hs,.inr hc⟩
  ·exact(hs.2 b (Nat.ne_of_lt (Nat.lt_of_lt_of_le (Heap.lt_size e) (I.ok.cab x c hfn hc)))).trans (I.base.keep b o e n hb hx)
  ·obtain⟨sl,e1⟩:=I.base.slot b o e n hb hx
   exact⟨sl,(hs.2 b (Nat.ne_of_lt (Nat.lt_of_lt_of_le (Heap.lt_size e) (I.ok.cab x c hfn hc)))).trans e1⟩
  ·obtain⟨o',e1⟩:=I.base.there b o e hx
   exact⟨o',(hs.2 b (Nat.ne_of_lt (Nat.lt_of_lt_of_le (Heap.lt_size e) (I.ok.cab x c hfn hc)))).trans e1⟩
  ·by_cases hj:j=i
   ·subst hj
    rw[hi] at e1;cases e1
    rw[List.getElem?_set_self hiσ] at e2
    cases e2
    exact⟨u,r,.inr ⟨.inl hk,c,hc,hc'⟩⟩
   ·rw[List.getElem?_set_ne (Ne.symm hj)] at e2
    obtain⟨u',r',q⟩:=hl j y v' e1 e2 e3
    refine⟨u',r',?_⟩
    rcases q with q|⟨k,c',e,z'⟩
    ·exact .inl q
    ·refine .inr ⟨k,c',e,z'.sameBut hs ?_⟩
     rintro rfl
     exact hj (Tu hN e1 (I.ok.inj _ _ _ e hc▸hi))
  ·by_cases hcc:c'=c
   ·subst hcc;exact⟨_,hc'⟩
   ·obtain⟨w2,z2⟩:=I.cell y c' e
    exact⟨w2,z2.sameBut hs hcc⟩
  ·obtain⟨e,n,ne,nf,d⟩:=I.pin p hp
   refine⟨(hs.2 p.1 ?_).trans e,n,ne,nf,d⟩
   intro q
   rw[q,hoc] at e
   have q':oc=p.2:=ZO e
   exact d w' (by rw[←q'];exact hocd)
theorem Se{M:Model}{A:Around}{E:Value→Shared→Prop}{i:Nat}{x:Str}{v:V}{u:Value}{Q:Unit→Shared→Prop}(I:Inv X pins σ H s)(hN:X.N.Nodup)(hi:X.N[i]?=some x)(hx:Loc X.env.scope x)(r:RelV v u)(h:∀s',Inv X pins (σ.set i (some v)) H s'→Q () s')(hf:X.fn x=true∨X.env.scope.names.lookup x=some .local:=by first|exact .inl rfl|exact .inr rfl|assumption):wpAny M A (storeName X.env x u) Q E s :=
 Oc I hN hi hx r (fun s' I' _=>h s' I') hf
theorem Inv.call'{s':Shared}{ch:List Addr}(I:Inv X pins σ H s)(ho:s'.os=s.os)(u:Un (frs X.stack) ch H H' s.heap s'.heap)(hok:HOk X.prog X.w H' s'.heap)(hg:AllBare s'.gens)(hch:∀b∈ch,(b∈X.ex∨X.s₀.heap.objs.size≤b)∧b≠X.env.locals∧(∀x c,X.env.cells.lookup x=some c→c≠b)∧∀p∈X.pn++pins,p.1≠b):Inv X pins σ H' s':=by
 obtain⟨h',g',d',t',o'⟩:=s'
 have e:o'=s.os:=ho
 subst e
 exact I.call (g':=g') (t':=t') (d':=d') u hok hg hch
end
abbrev XK:=Value→Option Addr→Hp→Prop
abbrev St:=List (Option V)
abbrev VK:=V→Hp→Prop
abbrev TE:=St→Hp→VK→Prop
abbrev TT:=St→Hp→(Bool→Hp→Prop)→Prop
abbrev TA:=St→Hp→(List V→Hp→Prop)→Prop
structure Ends where
 nx:St→Hp→Prop
 rt:VK
 bk:St→Hp→Prop:=fun _ _=>False
 ct:St→Hp→Prop:=fun _ _=>False
abbrev TS:=Ends→St→Hp→Prop
def EP(X:Cx)(pins:List (Addr×Obj))(σ:St)(Q:VK)(u:Value)(s':Shared):Prop:=∃v H',Inv X pins σ H' s'∧RelV v u∧Q v H'
def TP(X:Cx)(pins:List (Addr×Obj))(σ:St)(Q:Bool→Hp→Prop)(b:Bool)(s':Shared):Prop:=∃H',Inv X pins σ H' s'∧Q b H'
def AP(X:Cx)(pins:List (Addr×Obj))(σ:St)(Q:List V→Hp→Prop)(us:List Value)(s':Shared):Prop:=∃vs H',Inv X pins σ H' s'∧Vals vs us∧Q vs H'
def SP(X:Cx)(pins:List (Addr×Obj))(D:Ends)(f:Flow)(s':Shared):Prop :=
 match f with
 | .next=>∃σ' H',Inv X pins σ' H' s'∧D.nx σ' H'
 | .brk=>∃σ' H',Inv X pins σ' H' s'∧D.bk σ' H'
 | .cont=>∃σ' H',Inv X pins σ' H' s'∧D.ct σ' H'
 | .ret u=>∃v σ' H',Inv X pins σ' H' s'∧RelV v u∧D.rt v H'
def PE(X:Cx)(e:Expr)(t:TE):Prop :=
 ∀(pins:List (Addr×Obj))(s:Shared)(σ:St)(H:Hp)(Q:VK),Inv X pins σ H s→t σ H Q→wpAny (model X.prog X.w) X.A (eval e X.env) (EP X pins σ Q) X.xe s
def PT(X:Cx)(e:Expr)(t:TT):Prop :=
 ∀(pins:List (Addr×Obj))(s:Shared)(σ:St)(H:Hp)(Q:Bool→Hp→Prop),Inv X pins σ H s→t σ H Q→wpAny (model X.prog X.w) X.A (isTrue e X.env (eval e X.env)) (TP X pins σ Q) X.xe s
def PW(X:Cx)(e:Expr)(t:TT):Prop :=
 ∀(whole:Sem Value)(pins:List (Addr×Obj))(s:Shared)(σ:St)(H:Hp)(Q:Bool→Hp→Prop),Inv X pins σ H s→t σ H Q→wpAny (model X.prog X.w) X.A (isTrue e X.env whole) (TP X pins σ Q) X.xe s
theorem Ji7{X:Cx}{e:Expr}{t:TT}(h:PW X e t):PT X e t:=h _
def PA(X:Cx)(es:List Expr)(t:TA):Prop :=
 ∀(pos:Pos)(pins:List (Addr×Obj))(s:Shared)(σ:St)(H:Hp)(Q:List V→Hp→Prop),Inv X pins σ H s→t σ H Q→wpAny (model X.prog X.w) X.A (spliced (backTo pos (starEach es X.env))) (AP X pins σ Q) X.xe s
def PS(X:Cx)(st:Stmt)(t:TS):Prop :=
 ∀(pins:List (Addr×Obj))(s:Shared)(σ:St)(H:Hp)(D:Ends),Inv X pins σ H s→t D σ H→wpAny (model X.prog X.w) X.A (exec st X.env) (SP X pins D) X.xe s
def PSs(X:Cx)(st:List Stmt)(t:TS):Prop :=
 ∀(pins:List (Addr×Obj))(s:Shared)(σ:St)(H:Hp)(D:Ends),Inv X pins σ H s→t D σ H→wpAny (model X.prog X.w) X.A (execs st X.env) (SP X pins D) X.xe s
theorem thn{α:Type}{t:Sem α}{Q Q':α→Shared→Prop}{M:Model}{A:Around}{E:Value→Shared→Prop}{s:Shared}(h:wpAny M A t Q E s)(hQ:∀a s,Q a s→Q' a s):wpAny M A t Q' E s:=wpAny_mono h hQ fun _ _ x=>x
section
variable {X:Cx}
theorem bin{a b:Expr}{ta tb:TE}(ha:PE X a ta)(hb:PE X b tb){pins:List (Addr×Obj)}{s:Shared}{σ:St}{H:Hp}{R:V→V→Hp→Prop}(I:Inv X pins σ H s)(h:ta σ H fun x H1=>tb σ H1 fun y H2=>R x y H2){α:Type}{Q:α→Shared→Prop}{f:Value→Value→Sem α}(hf:∀v u s2 x y H2,Inv X pins σ H2 s2→RelV x v→RelV y u→R x y H2→wpAny (model X.prog X.w) X.A (f v u) Q X.xe s2) :
 wpAny (model X.prog X.w) X.A (eval a X.env) (fun v s₁=>wpAny (model X.prog X.w) X.A (eval b X.env) (fun u s₂=>wpAny (model X.prog X.w) X.A (f v u) Q X.xe s₂) X.xe s₁) X.xe s:=by
 refine thn (ha pins s σ H _ I h) fun v s1 ⟨x,H1,I1,r1,q1⟩=>?_
 refine thn (hb pins s1 σ H1 _ I1 q1) fun u s2 ⟨y,H2,I2,r2,q2⟩=>?_
 exact hf v u s2 x y H2 I2 r1 r2 q2
def Co(i:Nat):TE:=fun σ H Q=>∃v,σ[i]?=some (some v)∧Q v H
def tC(v:V):TE:=fun _ H Q=>Q v H
theorem Jfb{i:Nat}{x:Str}{pos:Pos}(hN:X.N[i]?=some x)(hv:Vis X.env.scope x)(hd:(x==("__debug__":Str))=false:=by decide)(hcd:(x==("__classdict__":Str))=false:=by decide):PE X (.Name x pos) (Co i):=by
 intro pins s σ H Q I h
 obtain⟨v,e,h⟩:=h
 obtain⟨m,hn,hl⟩:=I.loc
 obtain⟨u,r,l⟩:=hl i x v hN e hv
 have fin:EP X pins σ Q u s:=⟨v,H,I,r,h⟩
 rcases l with⟨hk,hm⟩|⟨hk,c,hc,hcell⟩
 ·exact wpAny_Name (wpAny_loadName_local I.ok.kind hk hn hm fin) hd
 ·rcases hk with hk|hk
  ·exact wpAny_Name (wpAny_loadName_cell I.ok.kind hk hc hcell fin) hd
  ·exact wpAny_Name (wpAny_loadName_free I.ok.kind hk hc hcell fin hcd) hd
theorem Ag{i j pos}:PE X (.Constant (.int i) j pos) (tC (.int i)):=fun _ _ _ H _ I h=>wpAny_Constant_int ⟨.int i,H,I.tok _,⟨_,rfl⟩,h⟩
theorem Fp{b j pos}:PE X (.Constant (.bool b) j pos) (tC (.bl b)):=fun _ _ _ H _ I h=>Constant_bool ⟨.bl b,H,I,rfl,h⟩
theorem L7{j pos}:PE X (.Constant .none j pos) (tC .non):=fun _ _ _ H _ I h=>Constant_none ⟨.non,H,I,rfl,h⟩
theorem As{x j pos}:PE X (.Constant (.str x) j pos) (tC (.str x)):=fun _ _ _ H _ I h=>Calls.Constant_str ⟨.str x,H,I.tok _,⟨_,rfl⟩,h⟩
def Gl(X:Cx)(x:Str):Prop:=X.env.kindOf x=some .globalImplicit
theorem Gp{E:Value→Shared→Prop}{pins:List (Addr×Obj)}{s:Shared}{σ:St}{H:Hp}{x:Str}{u:Value}{pos:Pos}{Q:Value→Shared→Prop}(I:Inv X pins σ H s)(hg:Gl X x)(hm:X.mg x=some u)(h:Q u s)(hd:(x==("__debug__":Str))=false:=by decide):wpAny (model X.prog X.w) X.A (eval (.Name x pos) X.env) Q E s :=
 Calls.Name_function_global I.ok.kind hg (Calls.loadGlobal_global (by rw[I.ok.glob];exact I.mod.glob.keeps I.bk) hm h) hd
theorem Rg{E:Value→Shared→Prop}{pins:List (Addr×Obj)}{s:Shared}{σ:St}{H:Hp}{x:Str}{u:Value}{pos:Pos}{Q:Value→Shared→Prop}(I:Inv X pins σ H s)(hg:Gl X x)(hm:X.mg x=none)(hv:bootBuiltins x=some u)(h:Q u s)(hn:x≠"__name__":=by decide)(hd:(x==("__debug__":Str))=false:=by decide):wpAny (model X.prog X.w) X.A (eval (.Name x pos) X.env) Q E s:=by
 obtain⟨mb,h1,h2⟩:=I.mod.blt
 exact Calls.Name_function_global I.ok.kind hg (Calls.loadGlobal_builtin (by rw[I.ok.glob];exact I.mod.glob.keeps I.bk) hm (by rw[I.ok.blt];exact h1.keeps I.bk) ((h2 x hn).trans hv) h) hd
theorem Jc4{x:Str}{v:V}{u:Value}{pos:Pos}(hg:Gl X x)(hm:X.mg x=none)(hv:bootBuiltins x=some u)(r:RelV v u)(hn:x≠"__name__":=by decide)(hd:(x==("__debug__":Str))=false:=by decide):PE X (.Name x pos) (tC v) :=
 fun _ _ _ H _ I h=>Rg I hg hm hv ⟨v,H,I,r,h⟩ hn hd
def t2I(ta tb:TE)(k:Int→Int→Hp→Prop):St→Hp→Prop:=fun σ H=>ta σ H fun x H1=>tb σ H1 fun y H2=>∃i j,x=.int i∧y=.int j∧k i j H2
variable {a b:Expr}{ta tb:TE}{pos:Pos}
def PC(X:Cx)(op:CmpOp)(a b:Expr)(t:TE):Prop :=
 ∀(pins:List (Addr×Obj))(s:Shared)(σ:St)(H:Hp)(Q:VK),Inv X pins σ H s→t σ H Q →
  wpAny (model X.prog X.w) X.A (eval a X.env) (fun v s₁=>wpAny (model X.prog X.w) X.A (eval b X.env) (fun u s₂=>wpAny (model X.prog X.w) X.A (compareOp op v u) (EP X pins σ Q) X.xe s₂) X.xe s₁) X.xe s
theorem Tv(b:Expr){op:CmpOp}(h:op≠.In)(h2:op≠.NotIn):behindInMarks op b=false:=by
 have e1:(op==CmpOp.In)=false:=by cases op<;>first|rfl|exact absurd rfl h
 have e2:(op==CmpOp.NotIn)=false:=by cases op<;>first|rfl|exact absurd rfl h2
 cases b<;>simp[behindInMarks,e1,e2]
def Ve(p:Int→Int→Bool)(ta tb:TE):TE:=fun σ H Q=>t2I ta tb (fun i j H2=>Q (.bl (p i j)) H2) σ H
abbrev tLt:TE→TE→TE:=Ve fun i j=>decide (i<j)
abbrev tLe:TE→TE→TE:=Ve fun i j=>decide (i≤j)
abbrev tGt:TE→TE→TE:=Ve fun i j=>decide (j<i)
abbrev tGe:TE→TE→TE:=Ve fun i j=>decide (j≤i)
abbrev Jhk:TE→TE→TE:=Ve fun i j=>decide (i=j)
abbrev Jir:TE→TE→TE:=Ve fun i j=>!decide (i=j)
theorem Jfe{op:CmpOp}{p:Int→Int→Bool}(ha:PE X a ta)(hb:PE X b tb)(rule:∀(i j:Int) (t u:Tok) (Q:Value→Shared→Prop) (s:Shared),Q (.bool (p i j)) s→wpAny (model X.prog X.w) X.A (compareOp op (.int i t) (.int j u)) Q X.xe s):PC X op a b (Ve p ta tb):=by
 intro pins s σ H Q I h
 refine bin ha hb I h fun v u s2 x y H2 I2 rx ry q=>?_
 obtain⟨i,j,rfl,rfl,q⟩:=q
 obtain⟨t,rfl⟩:=rx
 obtain⟨t',rfl⟩:=ry
 exact rule i j t t' _ s2 ⟨.bl _,H2,I2,rfl,q⟩
theorem Jff(ha:PE X a ta)(hb:PE X b tb):PC X .Eq a b (Jhk ta tb):=Jfe ha hb fun _ _ _ _ _ _ h=>eq_int (by rw[Bool.beq_eq_decide_eq];exact h)
def Jhi(ta:TE):TE:=fun σ H Q=>ta σ H fun x H1=>Q (.bl (decide (x=.non))) H1
theorem RelV.none_iff{x:V}{v:Value}(r:RelV x v):(v==Value.none)=decide (x=.non):=by
 cases x with
 | non=>cases r;rfl
 | bl _=>cases r;rfl
 | int _=>obtain⟨t,rfl⟩:=r;rfl
 | str _=>obtain⟨t,rfl⟩:=r;rfl
 | byt _=>obtain⟨t,rfl⟩:=r;rfl
 | flt _=>obtain⟨t,rfl⟩:=r;rfl
 | ref _=>cases r;rfl
 | ty _=>cases r;rfl
theorem Jfd{j pos'}(ha:PE X a ta):PC X .Is a (.Constant .none j pos') (Jhi ta):=by
 intro pins s σ H Q I h
 refine thn (ha pins s σ H _ I h) fun v s1 ⟨x,H1,I1,r1,q1⟩=>?_
 exact Constant_none (is_none_gen ⟨.bl _,H1,I1,by rw[r1.none_iff];rfl,q1⟩)
def tB(t:TE):TT:=fun σ H Q=>t σ H fun x H1=>∃c,x=.bl c∧Q c H1
theorem Jfc{op:CmpOp}{t:TE}(h:PC X op a b t)(h1:behindInMarks op b=false:=by first|exact Tv _ (by decide) (by decide)|rfl):PE X (.Compare a [op] [b] pos) t:=fun pins s σ H Q I hw=>wpAny_Compare1 (h pins s σ H Q I hw) h1
theorem Eh{op:CmpOp}{t:TE}(h:PC X op a b t)(h1:behindInMarks op b=false:=by first|exact Tv _ (by decide) (by decide)|rfl):PT X (.Compare a [op] [b] pos) (tB t):=by
 intro pins s σ H Q I hw
 refine wpAny_isTrue_Compare1 (thn (h pins s σ H _ I hw) fun v s1 h1=>thn h1 fun u s2 h2=>thn h2 fun c s3 ⟨x,H1,I1,r1,q1⟩=>?_) h1
 obtain⟨d,rfl,q⟩:=q1
 cases r1
 exact wpAny_truthy_bool ⟨H1,I1,q⟩
theorem Fh{e:Expr}{t:TE}(h:PE X e t)(he:∀whole,isTrue e X.env whole=(do let v ←whole;standAt e.pos;holding [v] (truthy v)):=by intro _;rfl):PT X e (tB t):=by
 intro pins s σ H Q I hw
 refine isTrue_plain (thn (h pins s σ H _ I hw) fun v s1 ⟨x,H1,I1,r1,q1⟩=>?_) (he _)
 obtain⟨d,rfl,q⟩:=q1
 cases r1
 exact wpAny_truthy_bool ⟨H1,I1,q⟩
variable {tA tB':TT}{rest:List Expr}
def Jhn(t u:TT):TT:=fun σ H Q=>t σ H fun c H1=>if c=true then u σ H1 Q else Q false H1
def tOr(t u:TT):TT:=fun σ H Q=>t σ H fun c H1=>if c=true then Q true H1 else u σ H1 Q
def Jhg(t:TT):TT:=fun σ H Q=>t σ H fun c H1=>Q (!c) H1
theorem Qp(ha:PT X a tA):PW X (.BoolOp .And [a] pos) tA:=by
 intro wh pins s σ H Q I h
 refine isTrue_and (thn (ha pins s σ H Q I h) fun c s1 e=>?_)
 cases c with
 | true=>exact isTrue_and_nil e
 | false=>exact e
theorem Jx(ha:PT X a tA):PW X (.BoolOp .Or [a] pos) tA:=by
 intro wh pins s σ H Q I h
 refine isTrue_or (thn (ha pins s σ H Q I h) fun c s1 e=>?_)
 cases c with
 | false=>exact isTrue_or_nil e
 | true=>exact e
theorem Qq(ha:PT X a tA)(hb:PW X (.BoolOp .And (b::rest) pos) tB'):PW X (.BoolOp .And (a::b::rest) pos) (Jhn tA tB'):=by
 intro wh pins s σ H Q I h
 refine isTrue_and (thn (ha pins s σ H _ I h) fun c s1 ⟨H1,I1,q1⟩=>?_)
 cases c with
 | true=>exact hb wh pins s1 σ H1 Q I1 q1
 | false=>exact⟨H1,I1,q1⟩
theorem Oh(ha:PT X a tA)(hb:PW X (.BoolOp .Or (b::rest) pos) tB'):PW X (.BoolOp .Or (a::b::rest) pos) (tOr tA tB'):=by
 intro wh pins s σ H Q I h
 refine isTrue_or (thn (ha pins s σ H _ I h) fun c s1 ⟨H1,I1,q1⟩=>?_)
 cases c with
 | true=>exact⟨H1,I1,q1⟩
 | false=>exact hb wh pins s1 σ H1 Q I1 q1
theorem Jah(ha:PT X a tA):PT X (.UnaryOp .Not a pos) (Jhg tA):=by
 intro pins s σ H Q I h
 exact isTrue_not (ha pins s σ H (fun c H1=>Q (!c) H1) I h)
end
def SqL(K:W.Frag)(H:Hp)(a:Addr)(xs:List V):Prop :=
 Rd H a (.lst xs) ∨
  ∃(o:Obj)(its:Array Value)(n:Nat),K.lookup a=some o∧o.cls=.type "list"∧o.dict=none∧o.data=.seq its n∧its.size≤sizeLine∧Vals xs its.toList
def SqT(K:W.Frag)(H:Hp)(a:Addr)(xs:List V):Prop :=
 Rd H a (.tup xs) ∨
  ∃(o:Obj)(its:Array Value)(n:Nat),K.lookup a=some o∧o.cls=.type "tuple"∧o.data=.seq its n∧its.size≤sizeLine∧Vals xs its.toList
def Jik:Value→Option V
 | .none=>some .non
 | .bool b=>some (.bl b)
 | .int i _=>some (.int i)
 | .str x _=>some (.str x)
 | .bytes b _=>some (.byt b)
 | .float b _=>some (.flt b)
 | .ref a=>some (.ref a)
 | .type n=>some (.ty n)
 | _=>none
theorem RelV.abs{x:V}{u:Value}(r:RelV x u):Jik u=some x:=by
 cases x with
 | non=>cases r;rfl
 | bl _=>cases r;rfl
 | int _=>obtain⟨t,rfl⟩:=r;rfl
 | str _=>obtain⟨t,rfl⟩:=r;rfl
 | byt _=>obtain⟨t,rfl⟩:=r;rfl
 | flt _=>obtain⟨t,rfl⟩:=r;rfl
 | ref _=>cases r;rfl
 | ty _=>cases r;rfl
theorem RelV.inj{x y:V}{u:Value}(r:RelV x u)(q:RelV y u):x=y:=ZO (r.abs.symm.trans q.abs)
theorem Vals.inj:∀{xs ys:List V} {us:List Value},Vals xs us→Vals ys us→xs=ys
 | _,_,_,.nil,.nil=>rfl
 | _,_,_,.cons r t,.cons r' t'=>by rw[r.inj r',Vals.inj t t']
section
variable {X:Cx}{pins:List (Addr×Obj)}{σ:St}{H:Hp}{s:Shared}{a:Addr}{xs ys:List V}
theorem SqL.of{K:W.Frag}(h:H a=some (.lst xs)):SqL K H a xs:=.inl (.inl h)
theorem SqT.of{K:W.Frag}(h:H a=some (.tup xs)):SqT K H a xs:=.inl (.inl h)
theorem Inv.list(I:Inv X pins σ H s)(h:SqL X.K H a xs):∃its:List Value,Vals xs its∧PlainL s.heap a its.toArray∧xs.length≤sizeLine:=by
 rcases h with h|⟨o,its,n,hk,hc,hd,hs,hz,r⟩
 ·obtain⟨z,its,n,r,e⟩:=h.ok I.hok
  exact⟨its,r,⟨_,n,e,rfl,rfl,rfl⟩,z⟩
 ·refine⟨its.toList,r,⟨o,n,I.kIn a o hk,hc,hd,by simpa using hs⟩,?_⟩
  have e:=r.length
  simp only[Array.length_toList] at e
  omega
theorem Inv.tuple(I:Inv X pins σ H s)(h:SqT X.K H a xs):∃its:List Value,Vals xs its∧IsTup s.heap a its.toArray∧xs.length≤sizeLine:=by
 rcases h with h|⟨o,its,n,hk,hc,hs,hz,r⟩
 ·obtain⟨z,its,r,p⟩:=h.ok I.hok
  exact⟨its,r,p,z⟩
 ·refine⟨its.toList,r,⟨o,I.kIn a o hk,hc,n,by simpa using hs⟩,?_⟩
  have e:=r.length
  simp only[Array.length_toList] at e
  omega
theorem Inv.list_inj(I:Inv X pins σ H s)(h:SqL X.K H a xs)(h':SqL X.K H a ys):xs=ys:=by
 obtain⟨its,r,⟨o,n,e,_,_,d⟩,_⟩:=I.list h
 obtain⟨its',r',⟨o',n',e',_,_,d'⟩,_⟩:=I.list h'
 rw[e] at e';cases e'
 rw[d] at d'
 injection d' with d1 _
 have:its=its':=by simpa using congrArg Array.toList d1
 subst this
 exact r.inj r'
theorem Inv.tuple_inj(I:Inv X pins σ H s)(h:SqT X.K H a xs)(h':SqT X.K H a ys):xs=ys:=by
 obtain⟨its,r,⟨o,e,_,n,d⟩,_⟩:=I.tuple h
 obtain⟨its',r',⟨o',e',_,n',d'⟩,_⟩:=I.tuple h'
 rw[e] at e';cases e'
 rw[d] at d'
 injection d' with d1 _
 have:its=its':=by simpa using congrArg Array.toList d1
 subst this
 exact r.inj r'
end
abbrev Cx.wish(X:Cx)(E:Value→Shared→Prop):Cx:={ X with xe:=E }
abbrev Cx.nox(X:Cx):Cx:=X.wish fun _ _=>False
theorem Cx.Ok.wish{X:Cx}(ok:X.Ok)(E:Value→Shared→Prop):(X.wish E).Ok :=
 ⟨ok.mod,ok.kind,ok.glob,ok.blt,ok.above,ok.inj,ok.has,ok.cab,ok.hd,ok.frames,ok.stk,ok.exf,ok.bs,ok.bsz,ok.noex,ok.exfs,ok.funs,ok.frf⟩
theorem Cx.Ok.unwish{X:Cx}{E:Value→Shared→Prop}(ok:(X.wish E).Ok):X.Ok :=
 ⟨ok.mod,ok.kind,ok.glob,ok.blt,ok.above,ok.inj,ok.has,ok.cab,ok.hd,ok.frames,ok.stk,ok.exf,ok.bs,ok.bsz,ok.noex,ok.exfs,ok.funs,ok.frf⟩
section
variable {X:Cx}{pins:List (Addr×Obj)}{σ:St}{H:Hp}{s:Shared}{E:Value→Shared→Prop}
theorem Inv.wish(I:Inv X pins σ H s)(E:Value→Shared→Prop):Inv (X.wish E) pins σ H s:=⟨I.ok.wish E,I.os,I.bare,I.base,I.loc,I.cell,I.free,I.freeC,I.pin,I.hok,I.len⟩
theorem Inv.unwish(I:Inv (X.wish E) pins σ H s):Inv X pins σ H s:=⟨I.ok.unwish,I.os,I.bare,I.base,I.loc,I.cell,I.free,I.freeC,I.pin,I.hok,I.len⟩
theorem SP.unwish{D:Ends}{f:Flow}{s':Shared}(h:SP (X.wish E) pins D f s'):SP X pins D f s':=by
 cases f with
 | next=>obtain⟨σ',H',I,q⟩:=h;exact⟨σ',H',I.unwish,q⟩
 | brk=>obtain⟨σ',H',I,q⟩:=h;exact⟨σ',H',I.unwish,q⟩
 | cont=>obtain⟨σ',H',I,q⟩:=h;exact⟨σ',H',I.unwish,q⟩
 | ret u=>obtain⟨v,σ',H',I,r,q⟩:=h;exact⟨v,σ',H',I.unwish,r,q⟩
theorem PSs.nox{st:List Stmt}{t:TS}(h:PSs X.nox st t):PSs X st t:=fun pins s σ H D I hw =>
 wpAny_mono (h pins s σ H D (I.wish _) hw) (fun _ _ q=>q.unwish) fun _ _ z=>False.elim z
end
section
variable {X:Cx}{st:Stmt}{rest:List Stmt}{t u:TS}{e:Expr}{te:TE}{pos:Pos}
def Jgg:TS:=fun D σ H=>D.nx σ H
def Jhe(t u:TS):TS:=fun D σ H=>t { D with nx:=u D } σ H
theorem Ax:PSs X [] Jgg:=fun _ _ σ H _ I h=>wpAny_execs_nil ⟨σ,H,I,h⟩
theorem Ac(h1:PS X st t)(h2:PSs X rest u):PSs X (st::rest) (Jhe t u):=by
 intro pins s σ H D I h
 refine wpAny_execs_cons (thn (h1 pins s σ H { D with nx:=u D } I h) fun f s1 q=>?_)
 cases f with
 | next =>
   obtain⟨σ',H',I',q⟩:=q
   exact h2 pins s1 σ' H' D I' q
 | ret v=>exact q
 | brk=>exact q
 | cont=>exact q
theorem Af(h1:PS X st t):PSs X [st] t:=by
 intro pins s σ H D I h
 refine wpAny_execs_cons (thn (h1 pins s σ H D I h) fun f s1 q=>?_)
 cases f with
 | next=>exact wpAny_execs_nil q
 | ret v=>exact q
 | brk=>exact q
 | cont=>exact q
theorem Inv.quiet{pins:List (Addr×Obj)}{σ:St}{H:Hp}{s:Shared}(I:Inv X pins σ H s):interactive X.env=false:=by simp[interactive,I.ok.kind]
def Jgh(te:TE):TS:=fun D σ H=>te σ H fun _ H1=>D.nx σ H1
theorem A7(he:PE X e te)(hs:swapsWith e none pos.line X.env=pure false:=by rfl):PS X (.Expr e pos) (Jgh te):=by
 intro pins s σ H D I h
 exact wpAny_Expr_any (thn (he pins s σ H _ I h) fun v s1 ⟨x,H1,I1,r1,q1⟩=>⟨σ,H1,I1,q1⟩) I.quiet hs
def Jhf(te:TE):TS:=fun D σ H=>te σ H D.rt
theorem Ar(he:PE X e te):PS X (.Return (some e) pos) (Jhf te):=by
 intro pins s σ H D I h
 exact wpAny_Return_some (thn (he pins s σ H _ I h) fun v s1 ⟨x,H1,I1,r1,q1⟩=>⟨x,σ,H1,I1,r1,q1⟩)
def Zv(c:TT)(t u:TS):TS:=fun D σ H=>c σ H fun b H1=>if b=true then t D σ H1 else u D σ H1
theorem A9{c:Expr}{a b:List Stmt}{tc:TT}(hc:PT X c tc)(ha:PSs X a t)(hb:PSs X b u):PS X (.If c a b pos) (Zv tc t u):=by
 intro pins s σ H D I h
 refine wpAny_If (thn (hc pins s σ H _ I h) fun d s1 ⟨H1,I1,q1⟩=>?_)
 cases d with
 | true=>exact ha pins s1 σ H1 D I1 q1
 | false=>exact hb pins s1 σ H1 D I1 q1
def Jez:TS:=fun _ _ _=>False
theorem E5{sts:List Stmt}:PSs X sts Jez:=fun _ _ _ _ _ _ h=>h.elim
end
abbrev TG:=V→St→Hp→(St→Hp→Prop)→Prop
abbrev TGs:=List V→St→Hp→(St→Hp→Prop)→Prop
def PG(X:Cx)(target:Expr)(t:TG):Prop :=
 ∀(pins:List (Addr×Obj))(s:Shared)(σ:St)(H:Hp)(v:V)(u:Value)(Q:St→Hp→Prop),Inv X pins σ H s→RelV v u→t v σ H Q →
  wpAny (model X.prog X.w) X.A (assign target X.env u) (fun _ s'=>∃σ' H',Inv X pins σ' H' s'∧Q σ' H') X.xe s
def PGs(X:Cx)(ts:List Expr)(t:TGs):Prop :=
 ∀(pins:List (Addr×Obj))(s:Shared)(σ:St)(H:Hp)(vs:List V)(us:List Value)(Q:St→Hp→Prop),Inv X pins σ H s→Vals vs us→t vs σ H Q →
  wpAny (model X.prog X.w) X.A (assignInOrder ((assignEach ts X.env).map (·.2)) us) (fun _ s'=>∃σ' H',Inv X pins σ' H' s'∧Q σ' H') X.xe s
abbrev Jis:=V→V→V→Hp→(Hp→Prop)→Prop
abbrev TIp:=V→V→Hp→VK→Prop
section
variable {X:Cx}{pos:Pos}
def Jeq(i:Nat):TG:=fun v σ H Q=>Q (σ.set i (some v)) H
theorem Bq{i:Nat}{x:Str}(hN:X.N.Nodup)(hi:X.N[i]?=some x)(hx:Loc X.env.scope x)(hf:X.fn x=true∨X.env.scope.names.lookup x=some .local:=by first|exact .inl rfl|exact .inr rfl|assumption):PG X (.Name x pos) (Jeq i):=by
 intro pins s σ H v u Q I r h
 exact wpAny_assign_Name (Se I hN hi hx r (fun s' I'=>⟨_,H,I',h⟩) hf)
def Jii:TGs:=fun vs σ H Q=>vs=[]∧Q σ H
def Jg0(t:TG)(u:TGs):TGs:=fun vs σ H Q=>∃v r,vs=v::r∧t v σ H fun σ' H'=>u r σ' H' Q
theorem Gj:PGs X [] Jii:=by
 intro pins s σ H vs us Q I r h
 obtain⟨e,h⟩:=h
 subst e
 cases r
 exact assignInOrder_nil ⟨σ,H,I,h⟩
theorem Bs{e:Expr}{es:List Expr}{t:TG}{u:TGs}(h1:PG X e t)(h2:PGs X es u)(hs:(assignEach (e::es) X.env).map (·.2)=assign e X.env::(assignEach es X.env).map (·.2):=by rfl):PGs X (e::es) (Jg0 t u):=by
 intro pins s σ H vs us Q I r h
 obtain⟨v,vr,e1,h⟩:=h
 subst e1
 cases r with
 | cons r rr =>
   rw[hs]
   refine assignInOrder_cons (thn (h1 pins s σ H _ _ _ I r h) fun _ s1 ⟨σ1,H1,I1,q1⟩=>?_)
   exact h2 pins s1 σ1 H1 _ _ Q I1 rr q1
def Jih(K:W.Frag)(n:Nat)(t:TGs):TG:=fun v σ H Q=>∃a xs,v=.ref a∧SqT K H a xs∧xs.length=n∧t xs σ H Q
theorem J0{es:List Expr}{k:Nat}{t:TGs}{n:Nat}(hc:X.calm=true)(h:PGs X es t)(hn:(assignEach es X.env).length=n:=by rfl)(hst:(assignEach es X.env).findIdx? (·.1)=none:=by rfl):PG X (.Tuple es k pos) (Jih X.K n t):=by
 intro pins s σ H v u Q I r hw
 obtain⟨a,xs,e1,hq,hl,hw⟩:=hw
 subst e1
 cases r
 obtain⟨its,rv,ht,hz⟩:=I.tuple hq
 refine assign_Tuple_tuple (I.ok.hd hc) ht (by simp[hn,←hl,rv.length]) hst fun h' hx=>?_
 have I1:Inv X pins σ H { s with heap:=h' }:=I.kept (t':=s.toks) fun b o e=>hx b o (Nat.ne_of_lt (Heap.lt_size e)) e
 exact h pins _ σ H xs _ Q I1 (by simpa using rv) hw
def Jgj(te:TE)(g:TG):TS:=fun D σ H=>te σ H fun x H1=>g x σ H1 D.nx
theorem Vp{tg e:Expr}{te:TE}{g:TG}(he:PE X e te)(hg:PG X tg g)(hs:swapsWithSole [tg] e pos.line X.env=pure false:=by rfl)(hw:swappedStores [tg] e X.env=pure none:=by rfl)(h1:(assignEach [tg] X.env).map (·.2)=[assign tg X.env]:=by rfl):PS X (.Assign [tg] e pos) (Jgj te g):=by
 intro pins s σ H D I h
 refine wpAny_Assign_stores (thn (he pins s σ H _ I h) fun v s1 ⟨x,H1,I1,r1,q1⟩=>?_) hs hw
 rw[h1]
 exact thn (hg pins s1 σ H1 x v _ I1 r1 q1) fun _ s2 q=>q
theorem Az{i:Nat}{x:Str}{e:Expr}{te:TE}{pos':Pos}(hN:X.N.Nodup)(hi:X.N[i]?=some x)(hx:Loc X.env.scope x)(he:PE X e te)(hs:swapsWith e (some (.Name x pos')) pos.line X.env=pure false:=by rfl)(hf:X.fn x=true∨X.env.scope.names.lookup x=some .local:=by first|exact .inl rfl|exact .inr rfl|assumption) :
 PS X (.Assign [.Name x pos'] e pos) (Jgj te (Jeq i)):=by
 intro pins s σ H D I h
 refine wpAny_Assign_Name (thn (he pins s σ H _ I h) fun v s1 ⟨y,H1,I1,r1,q1⟩=>?_) hs
 exact Se I1 hN hi hx r1 (fun s2 I2=>⟨_,H1,I2,q1⟩) hf
def Jex(c:TT)(tb:TS):TS:=fun D σ H=>∃W:Nat→St→Hp→Prop,(∃m,W m σ H)∧∀m σ H,W m σ H →
 c σ H fun b H1=>if b=true then ∃N:St→Hp→Prop,(∀σ' H',N σ' H'→∃m',m'<m∧W m' σ' H')∧tb { D with nx:=N,ct:=N,bk:=D.nx } σ H1 else D.nx σ H1
theorem Jai{c:Expr}{body:List Stmt}{tc:TT}{tb:TS}(hp:PassesOwn (model X.prog X.w) X.A X.env X.xe)(hc:PT X c tc)(hb:PSs X body tb):PS X (.While c body [] pos) (Jex tc tb):=by
 intro pins s σ H D I h
 obtain⟨W,⟨m0,w0⟩,turn⟩:=h
 refine wpAny_While (codeAny_whileLoop (fun n s'=>∃σ' H',Inv X pins σ' H' s'∧W n σ' H') ?_ m0 ⟨σ,H,I,w0⟩)
 rintro n s1 ⟨σ1,H1,I1,w1⟩
 refine wpAny_passesOwn hp (thn (hc pins s1 σ1 H1 _ I1 (turn n σ1 H1 w1)) fun b s2 ⟨H2,I2,q2⟩=>?_)
 cases b with
 | true =>
   obtain⟨N,hN,q2⟩:=q2
   rw[if_pos rfl]
   refine wpAny_passesOwn hp (thn (hb pins s2 σ1 H2 _ I2 q2) fun f s3 q3=>?_)
   cases f with
   | next =>
     obtain⟨σ3,H3,I3,n3⟩:=q3
     obtain⟨m',hm,w3⟩:=hN σ3 H3 n3
     exact⟨m',hm,σ3,H3,I3,w3⟩
   | cont =>
     obtain⟨σ3,H3,I3,n3⟩:=q3
     obtain⟨m',hm,w3⟩:=hN σ3 H3 n3
     exact⟨m',hm,σ3,H3,I3,w3⟩
   | brk=>exact q3
   | ret v=>exact q3
 | false =>
   rw[if_neg Bool.false_ne_true]
   exact wpAny_execs_nil ⟨σ1,H2,I2,q2⟩
end
structure It where
 go:Nat→Hp→Prop
 yld:Nat→Hp→V→Hp→Prop
 stop:Nat→Hp→Prop
def K3(X:Cx)(pins:List (Addr×Obj))(H:Hp)(b:Addr):Prop :=
 H b=none∧b≠X.env.locals∧b∉X.fs∧(b∈X.ex∨X.s₀.heap.objs.size≤b)∧(∀x c,X.env.cells.lookup x=some c→c≠b)∧∀p∈X.pn++pins,p.1≠b
theorem Inv.fpOk{X:Cx}{pins:List (Addr×Obj)}{σ:St}{H H':Hp}{s:Shared}{b:Addr}(I:Inv X pins σ H s)(hb:s.heap.objs.size≤b)(hn:H' b=none):K3 X pins H' b:=by
 refine⟨hn,Nat.ne_of_gt (Nat.lt_of_lt_of_le I.lt hb),I.nofs hb,.inr (Nat.le_trans I.sz hb),fun x c e z=>?_,fun p hp z=>?_⟩
 ·obtain⟨v,q⟩:=I.cell x c e
  exact absurd (Nat.lt_of_lt_of_le q.lt (by rw[z];exact hb)) (Nat.lt_irrefl _)
 ·exact absurd (Nat.lt_of_lt_of_le (Heap.lt_size (I.pin p hp).1) (by rw[z];exact hb)) (Nat.lt_irrefl _)
structure Turn(P:Program)(w:World)(K:W.Frag)(tg:Expr)(J:It)(fp:List Addr)(it:Addr)(tn:Nat→Heap→Prop):Prop where
 mem:it∈fp
 obj:∀i h,tn i h→∀b∈fp,∃o,h.get? b=some o∧∀v,o.data≠.cell v
 keep:∀i h h',tn i h→(∀b∈fp,∀o,h.get? b=some o→h'.get? b=some o)→tn i h'
 item:∀(X:Cx),X.prog=P→X.w=w→X.K=K→X.calm=true→∀(i:Nat)(pins:List (Addr×Obj))(s:Shared)(σ:St)(H:Hp)(E:Value→Shared→Prop),Inv X pins σ H s→(∀b∈fp,K3 X pins H b)→tn i s.heap→J.go i H →
  wpAny (model P w) X.A (pyNext (.ref it)) (fun r s1=>∃u,r=some u ∧
   wpAny (model P w) X.A (letOwnedTupleGo tg (.ref it) u) (fun _ s2=>∃x H',Inv X pins σ H' s2∧RelV x u∧J.yld i H x H'∧tn (i+1) s2.heap∧∀b∈fp,H' b=none) E s1) E s
 done:∀(X:Cx),X.prog=P→X.w=w→X.K=K→X.calm=true→∀(i:Nat)(pins:List (Addr×Obj))(s:Shared)(σ:St)(H:Hp)(E:Value→Shared→Prop),Inv X pins σ H s→(∀b∈fp,K3 X pins H b)→tn i s.heap→J.stop i H →
  wpAny (model P w) X.A (pyNext (.ref it)) (fun r s1=>r=none∧Inv X pins σ H s1) E s
 self:∀(A:Around)(i:Nat)(s:Shared)(Q:Value→Shared→Prop)(E:Value→Shared→Prop),tn i s.heap→Q (.ref it) s→wpAny (model P w) A (pyIter (.ref it)) Q E s
abbrev TI:=St→Hp→(It→Hp→Prop)→Prop
def PIE(X:Cx)(pins:List (Addr×Obj))(σ:St)(tg:Expr)(R:It→Hp→Prop)(itv:Value)(s2:Shared):Prop :=
 ∃(it:Addr)(fp:List Addr)(tn:Nat→Heap→Prop)(J:It)(H':Hp),itv=.ref it∧Inv X pins σ H' s2∧Turn X.prog X.w X.K tg J fp it tn∧tn 0 s2.heap∧(∀b∈fp,K3 X pins H' b)∧R J H'
def PI(X:Cx)(tg iter:Expr)(wi:TI):Prop :=
 ∀(pins:List (Addr×Obj))(s:Shared)(σ:St)(H:Hp)(R:It→Hp→Prop),Inv X pins σ H s→wi σ H R →
  wpAny (model X.prog X.w) X.A (eval iter X.env) (fun v s1=>wpAny (model X.prog X.w) X.A (pyIter v) (PIE X pins σ tg R) X.xe s1) X.xe s
theorem Xy{M:Model}{A:Around}{E:Value→Shared→Prop}{s:Shared}{tg:Expr}{it:Addr}{u:Value}{o:Obj}{n:String}{vs:Array Value}{Q:Unit→Shared→Prop}(ho:s.heap.get? it=some o)(hc:o.cls=.type n)(hd:o.data=.fields vs)(hn:["enumerate","zip","dict_itemiterator","dict_reverseitemiterator","odict_iterator","itertools.zip_longest","itertools.pairwise"].contains n=false)(hQ:Q () s):wpAny M A (letOwnedTupleGo tg (.ref it) u) Q E s:=by
 unfold letOwnedTupleGo
 cases tg<;>first
  | exact ZS hQ
  | (cases u<;>first
   | exact ZS hQ
   | (refine ZR (wpAny_load ho ?_)
      rw[hc,hd]
      show wpAny M A (if(["enumerate","zip","dict_itemiterator","dict_reverseitemiterator","odict_iterator","itertools.zip_longest","itertools.pairwise"].contains n&&vs[0]?==some (rawInt _))=true then _ else _) Q E s
      rw[if_neg (by intro h;rw[hn,Bool.false_and] at h;cases h)]
      exact ZS hQ))
def Itl(K:W.Frag)(a:Addr):It :=
 ⟨fun i H=>∃xs x,SqL K H a xs∧xs[i]?=some x,fun i H x H'=>H'=H∧∀xs,SqL K H a xs→xs[i]?=some x,fun i H=>∃xs,SqL K H a xs∧xs.length≤i⟩
def Itt(K:W.Frag)(a:Addr):It :=
 ⟨fun i H=>∃xs x,SqT K H a xs∧xs[i]?=some x,fun i H x H'=>H'=H∧∀xs,SqT K H a xs→xs[i]?=some x,fun i H=>∃xs,SqT K H a xs∧xs.length≤i⟩
def Itr(lo:Int)(n:Nat):It:=⟨fun i _=>i<n,fun i H x H'=>H'=H∧x=.int (lo+i),fun i _=>n≤i⟩
theorem Yd{P:Program}{w:World}{K:W.Frag}{tg:Expr}(a it:Addr):Turn P w K tg (Itl K a) [it] it (fun i h=>h.IsListIter it a i) where
 mem:=by simp
 obj:=fun i h st b hb=>by
  have e:b=it:=by simpa using hb
  subst e
  obtain⟨o,e,c,d⟩:=st
  exact⟨o,e,fun v z=>by rw[d] at z;cases z⟩
 keep:=fun i h h' st k=>st.at fun o e=>k it (by simp) o e
 item:=by
  intro X hP hw hK hc i pins s σ H E I hf st hg
  subst hP hw hK
  obtain⟨xs,x,hq,hx⟩:=hg
  obtain⟨its,rv,p,hz⟩:=I.list hq
  obtain⟨u,hu,ru⟩:=rv.get hx
  obtain⟨f0,f1,f2,f3,f4,f5⟩:=hf it (by simp)
  refine wpAny_pyNext_list_item st p.isList (x:=u) (by simpa using hu) fun h' st' sb=>?_
  have I1:Inv X pins σ H { s with heap:=h' }:=I.turned (t':=s.toks) (fun b o hb e=>(sb.2 b hb).trans e) f0 f1 f3 f4 f5
  obtain⟨o,e,c,d⟩:=id st'
  exact⟨u,rfl,Xy (s:={ s with heap:=h' }) e c d (by decide) ⟨x,H,I1,ru,⟨rfl,fun ys hy=>by rw[I.list_inj hy hq];exact hx⟩,st',fun b hb=>(hf b hb).1⟩⟩
 done:=by
  intro X hP hw hK hc i pins s σ H E I hf st hg
  subst hP hw hK
  obtain⟨xs,hq,hx⟩:=hg
  obtain⟨its,rv,p,hz⟩:=I.list hq
  obtain⟨f0,f1,f2,f3,f4,f5⟩:=hf it (by simp)
  have hl:=rv.length
  exact wpAny_pyNext_list_end (I.ok.hd hc) st p.isList (by simp;omega) fun h' eb=>⟨rfl,I.turned (t':=s.toks) (fun b o hb e=>eb b o hb e) f0 f1 f3 f4 f5⟩
 self:=fun _ _ _ _ _ st h=>wpAny_pyIter_listiter st h
theorem U9{P:Program}{w:World}{K:W.Frag}{tg:Expr}(a it:Addr):Turn P w K tg (Itt K a) [it] it (fun i h=>h.IsTupleIter it a i) where
 mem:=by simp
 obj:=fun i h st b hb=>by
  have e:b=it:=by simpa using hb
  subst e
  obtain⟨o,e,c,d⟩:=st
  exact⟨o,e,fun v z=>by rw[d] at z;cases z⟩
 keep:=fun i h h' st k=>st.at fun o e=>k it (by simp) o e
 item:=by
  intro X hP hw hK hc i pins s σ H E I hf st hg
  subst hP hw hK
  obtain⟨xs,x,hq,hx⟩:=hg
  obtain⟨its,rv,p,hz⟩:=I.tuple hq
  obtain⟨u,hu,ru⟩:=rv.get hx
  obtain⟨f0,f1,f2,f3,f4,f5⟩:=hf it (by simp)
  refine wpAny_pyNext_tuple_item st (show s.heap.IsTuple a its.toArray from p) (x:=u) (by simpa using hu) fun h' st' sb=>?_
  have I1:Inv X pins σ H { s with heap:=h' }:=I.turned (t':=s.toks) (fun b o hb e=>(sb.2 b hb).trans e) f0 f1 f3 f4 f5
  obtain⟨o,e,c,d⟩:=id st'
  exact⟨u,rfl,Xy (s:={ s with heap:=h' }) e c d (by decide) ⟨x,H,I1,ru,⟨rfl,fun ys hy=>by rw[I.tuple_inj hy hq];exact hx⟩,st',fun b hb=>(hf b hb).1⟩⟩
 done:=by
  intro X hP hw hK hc i pins s σ H E I hf st hg
  subst hP hw hK
  obtain⟨xs,hq,hx⟩:=hg
  obtain⟨its,rv,p,hz⟩:=I.tuple hq
  obtain⟨f0,f1,f2,f3,f4,f5⟩:=hf it (by simp)
  have hl:=rv.length
  exact wpAny_pyNext_tuple_end (I.ok.hd hc) st (show s.heap.IsTuple a its.toArray from p) (by simp;omega) fun h' eb=>⟨rfl,I.turned (t':=s.toks) (fun b o hb e=>eb b o hb e) f0 f1 f3 f4 f5⟩
 self:=fun _ _ _ _ _ st h=>wpAny_pyIter_tupleiter st h
theorem Va{P:Program}{w:World}{K:W.Frag}{tg:Expr}(it:Addr)(lo:Int)(n:Nat):Turn P w K tg (Itr lo n) [it] it (fun i h=>IsRangeIter h it (lo+(i:Nat)*1) ((n:Int)-(i:Nat)) 1) where
 mem:=by simp
 obj:=fun i h st b hb=>by
  have e:b=it:=by simpa using hb
  subst e
  exact⟨_,st,fun v z=>by
   have z':Data.fields _=Data.cell v:=z
   cases z'⟩
 keep:=fun i h h' st k=>k it (by simp) _ st
 item:=by
  intro X hP hw hK hc i pins s σ H E I hf st hg
  subst hP hw hK
  obtain⟨f0,f1,f2,f3,f4,f5⟩:=hf it (by simp)
  have W:=Walks.range (prog:=X.prog) (w:=X.w) (I.ok.hd hc) it lo 1 n
  refine W.item i s _ _ hg st fun v h' tk hv st' kk=>?_
  obtain⟨t,rfl⟩:=hv
  have I1:Inv X pins σ H { s with heap:=h',toks:=tk }:=I.turned (fun b o hb e=>kk b o (by simpa using hb) e) f0 f1 f3 f4 f5
  refine⟨_,rfl,Xy (s:={ s with heap:=h',toks:=tk }) (n:="range_iterator") st' rfl rfl (by decide) ⟨.int (lo+i),H,I1,⟨t,?_⟩,⟨rfl,rfl⟩,st',fun b hb=>(hf b hb).1⟩⟩
  rw[Int.mul_one]
 done:=by
  intro X hP hw hK hc i pins s σ H E I hf st hg
  subst hP hw hK
  obtain⟨f0,f1,f2,f3,f4,f5⟩:=hf it (by simp)
  exact wpAny_pyNext_range_end (I.ok.hd hc) st (by have:n≤i:=hg;omega) fun h' eb=>⟨rfl,I.turned (t':=s.toks) (fun b o hb e=>eb b o hb e) f0 f1 f3 f4 f5⟩
 self:=fun _ _ _ _ _ st h=>wpAny_pyIter_rangeiter st h
section
variable {X:Cx}{tg:Expr}
def Jgw(K:W.Frag)(tl:TE):TI:=fun σ H R=>tl σ H fun x H1=>∃a,x=.ref a∧(∃xs,SqL K H1 a xs)∧R (Itl K a) H1
def Jif(K:W.Frag)(tl:TE):TI:=fun σ H R=>tl σ H fun x H1=>∃a,x=.ref a∧(∃xs,SqT K H1 a xs)∧R (Itt K a) H1
theorem Dq{l:Expr}{tl:TE}(hl:PE X l tl):PI X tg l (Jgw X.K tl):=by
 intro pins s σ H R I h
 refine thn (hl pins s σ H _ I h) fun v s1 ⟨x,H1,I1,r1,q1⟩=>?_
 obtain⟨a,e,⟨xs,hq⟩,q⟩:=q1
 subst e
 cases r1
 obtain⟨its,rv,p,hz⟩:=I1.list hq
 refine wpAny_pyIter_list p.isList ?_
 refine⟨s1.heap.objs.size,[s1.heap.objs.size],_,_,H1,rfl,I1.kept (t':=s1.toks) fun b o e=>ZT _ e,Yd a _,⟨_,ZU _ rfl,rfl,rfl⟩,fun b hb=>?_,q⟩
 have e:b=s1.heap.objs.size:=by simpa using hb
 subst e
 exact I1.fpOk (ZG _) (I1.hok.fresh (ZG _))
theorem Jap{l:Expr}{tl:TE}(hl:PE X l tl):PI X tg l (Jif X.K tl):=by
 intro pins s σ H R I h
 refine thn (hl pins s σ H _ I h) fun v s1 ⟨x,H1,I1,r1,q1⟩=>?_
 obtain⟨a,e,⟨xs,hq⟩,q⟩:=q1
 subst e
 cases r1
 obtain⟨its,rv,p,hz⟩:=I1.tuple hq
 refine wpAny_pyIter_tuple (show s1.heap.IsTuple a its.toArray from p) ?_
 refine⟨s1.heap.objs.size,[s1.heap.objs.size],_,_,H1,rfl,I1.kept (t':=s1.toks) fun b o e=>ZT _ e,U9 a _,⟨_,ZU _ rfl,rfl,rfl⟩,fun b hb=>?_,q⟩
 have e:b=s1.heap.objs.size:=by simpa using hb
 subst e
 exact I1.fpOk (ZG _) (I1.hok.fresh (ZG _))
theorem Jae{pins:List (Addr×Obj)}{σ:St}{H:Hp}{s:Shared}{R:It→Hp→Prop}{E:Value→Shared→Prop}{lo hi:Int}{t u v:Tok}{tk:Nat}(I:Inv X pins σ H s)(h1:-(2 ^ 62)≤lo)(h2:lo<2 ^ 62)(h3:-(2 ^ 62)≤hi)(h4:hi<2 ^ 62)(q:R (Itr lo (hi-lo).toNat) H):wpAny (model X.prog X.w) X.A (pyIter (.ref s.heap.objs.size)) (PIE X pins σ tg R) E { s with heap:=s.heap.push { cls:=.type "range",data:=.fields #[.int lo t,.int hi u,.int 1 v] },toks:=tk }:=by
 refine wpAny_pyIter_range (IsRange.new ..) (small_one h1 h2 h3 h4) ?_
 have I1:Inv X pins σ H { s with heap:=s.heap.push { cls:=.type "range",data:=.fields #[.int lo t,.int hi u,.int 1 v] },toks:=tk }:=I.kept fun b o e=>ZT _ e
 refine⟨(s.heap.push { cls:=.type "range",data:=.fields #[.int lo t,.int hi u,.int 1 v] }).objs.size,[(s.heap.push { cls:=.type "range",data:=.fields #[.int lo t,.int hi u,.int 1 v] }).objs.size],_,_,H,rfl,
  I1.kept (t':=tk) fun b o e=>ZT _ e,Va _ lo (hi-lo).toNat,?_,fun b hb=>?_,q⟩
 ·have e1:lo+((0:Nat):Int)*1=lo:=by simp
  have e2:(((hi-lo).toNat:Nat):Int)-((0:Nat):Int)=Builtin.Range.rangeSize lo hi 1:=by rw[rangeSize_one];split<;>omega
  show IsRangeIter _ _ (lo+((0:Nat):Int)*1) ((((hi-lo).toNat:Nat):Int)-((0:Nat):Int)) 1
  rw[e1,e2]
  exact ZU _ rfl
 ·have e:b=(s.heap.push { cls:=.type "range",data:=.fields #[.int lo t,.int hi u,.int 1 v] }).objs.size:=by simpa using hb
  subst e
  exact I1.fpOk (ZG _) (I1.hok.fresh (ZG _))
def Jgv(ta:TA):TI:=fun σ H R=>ta σ H fun vs H1=>∃j:Int,vs=[.int j]∧-(2 ^ 62)≤j∧j<2 ^ 62∧R (Itr 0 j.toNat) H1
theorem Jz{a:Expr}{ta:TA}{p pos:Pos}(hg:Gl X "range")(hm:X.mg "range"=none)(ha:PA X [a] ta)(hs:starEach [a] X.env=[(false,eval a X.env)]:=by rfl):PI X tg (.Call (.Name "range" p) [a] [] pos) (Jgv ta):=by
 intro pins s σ H R I h
 refine Call_ (Rg I hg hm boot_range (PyProof.Rows.callWith_type1 (thn (ha pos pins s σ H _ I h) fun us s1 ⟨vs,H1,I1,r1,q1⟩=>?_) hs rfl))
 obtain⟨j,e,q1,q2,q⟩:=q1
 subst e
 cases r1 with
 | cons r rr =>
   cases rr
   obtain⟨t,rfl⟩:=r
   exact call_range_1 (Jae I1 (by omega) (by omega) q1 q2 (by simpa using q))
def Jhj(wi:TI)(g:TG)(tb:TS):TS:=fun D σ H=>wi σ H fun J H1=>∃W:Nat→Nat→St→Hp→Prop,(∃m,W 0 m σ H1)∧∀i m σ H,W i m σ H →
 (J.stop i H∧D.nx σ H)∨(J.go i H∧∃N:St→Hp→Prop,(∀σ' H',N σ' H'→∃m',m'<m∧W (i+1) m' σ' H')∧∀x H',J.yld i H x H'→g x σ H' fun σ2 H2=>tb { D with nx:=N,ct:=N,bk:=D.nx } σ2 H2)
def Jy(fp:List Addr)(h:Heap):List (Addr×Obj):=fp.filterMap fun b=>(h.get? b).map fun o=>(b,o)
theorem Dz{fp:List Addr}{h:Heap}{b:Addr}{o:Obj}(hb:b∈fp)(e:h.get? b=some o):(b,o)∈Jy fp h:=List.mem_filterMap.mpr ⟨b,hb,by rw[e];rfl⟩
theorem Yt{fp:List Addr}{h:Heap}{p:Addr×Obj}(hp:p∈Jy fp h):p.1∈fp∧h.get? p.1=some p.2:=by
 obtain⟨b,hb,e⟩:=List.mem_filterMap.mp hp
 cases q:h.get? b with
 | none=>rw[q] at e;cases e
 | some o =>
   rw[q] at e
   have e':(b,o)=p:=ZO e
   subst e'
   exact⟨hb,q⟩
theorem Inv.pinned{pins:List (Addr×Obj)}{σ:St}{H:Hp}{s:Shared}{fp:List Addr}(I:Inv X pins σ H s)(hf:∀b∈fp,K3 X pins H b)(ho:∀b∈fp,∃o,s.heap.get? b=some o∧∀v,o.data≠.cell v):Inv X (pins++Jy fp s.heap) σ H s :=
 I.pins_of fun p hp=>(ZI hp).elim (fun z=>I.pin p (ZC _ z)) fun z=>by
  obtain⟨hb,e⟩:=Yt z
  obtain⟨f0,f1,f2,_⟩:=hf p.1 hb
  obtain⟨o,e',d⟩:=ho p.1 hb
  rw[e] at e';cases e'
  exact⟨e,f0,f1,f2,d⟩
theorem Inv.unpinned{pins pl:List (Addr×Obj)}{σ:St}{H:Hp}{s:Shared}(I:Inv X (pins++pl) σ H s):Inv X pins σ H s:=I.pins_of fun p hp=>I.pin p (ZC _ (ZB _ hp))
theorem Ho{iter:Expr}{body:List Stmt}{wi:TI}{g:TG}{tb:TS}{pos:Pos}(hp:PassesOwn (model X.prog X.w) X.A X.env X.xe)(hc:X.calm=true)(hi:PI X tg iter wi)(hg:PG X tg g)(hb:PSs X body tb)(hs:∀x,foldedSetIterable iter X.env x=pure x:=by intro _;rfl):PS X (.For tg iter body [] pos) (Jhj wi g tb):=by
 intro pins s σ H D I h
 refine wpAny_For (thn (hi pins s σ H _ I h) fun v s1 h1=>thn h1 fun itv s2 h2=>?_) hs
 obtain⟨it,fp,tn,J,H2,e,I2,T,st2,f2,W,⟨m0,w0⟩,turn⟩:=h2
 subst e
 have stat:∀{H':Hp},(∀b∈fp,H' b=none)→∀b∈fp,K3 X pins H' b:=fun hn b hb=>⟨hn b hb,(f2 b hb).2⟩
 refine codeAny_forLoop_any (fun n s'=>∃i σ' H',Inv X pins σ' H' s'∧tn i s'.heap∧(∀b∈fp,H' b=none)∧W i n σ' H') ?_ m0 ⟨0,σ,H2,I2,st2,fun b hb=>(f2 b hb).1,w0⟩
 rintro n s3 ⟨i,σ3,H3,I3,st3,fr3,w3⟩
 rcases turn i n σ3 H3 w3 with⟨stop,qn⟩|⟨go,N,hN,step⟩
 ·refine wpAny_passesOwn hp (thn (T.done X rfl rfl rfl hc i pins s3 σ3 H3 X.xe I3 (stat fr3) st3 stop) fun r s4 ⟨hr,I4⟩=>?_)
  subst hr
  exact wpAny_execs_nil ⟨σ3,H3,I4,qn⟩
 ·refine wpAny_passesOwn hp (thn (T.item X rfl rfl rfl hc i pins s3 σ3 H3 X.xe I3 (stat fr3) st3 go) fun r s4 ⟨u,hr,h4⟩=>?_)
  subst hr
  refine wpAny_passesOwn hp (thn h4 fun _ s5 ⟨x,H5,I5,r5,y5,st5,fr5⟩=>?_)
  have I5':=I5.pinned (stat fr5) (T.obj _ _ st5)
  refine wpAny_passesOwn hp (thn (hg _ s5 σ3 H5 x u _ I5' r5 (step x H5 y5)) fun _ s6 ⟨σ6,H6,I6,q6⟩=>?_)
  refine wpAny_passesOwn hp (thn (hb _ s6 σ6 H6 _ I6 q6) fun f s7 q7=>?_)
  have again:∀{σ7:St} {H7:Hp},Inv X (pins++Jy fp s5.heap) σ7 H7 s7→N σ7 H7→∃m,m<n∧∃i σ' H',Inv X pins σ' H' s7∧tn i s7.heap∧(∀b∈fp,H' b=none)∧W i m σ' H':=fun{σ7 H7} I7 n7=>by
   obtain⟨m',hm,w7⟩:=hN σ7 H7 n7
   refine⟨m',hm,i+1,σ7,H7,I7.unpinned,T.keep _ _ _ st5 fun b hb o e=>(I7.pin (b,o) (ZC _ (ZC _ (Dz hb e)))).1,fun b hb=>?_,w7⟩
   obtain⟨o,e,d⟩:=T.obj _ _ st5 b hb
   exact(I7.pin (b,o) (ZC _ (ZC _ (Dz hb e)))).2.1
  cases f with
  | next=>obtain⟨σ7,H7,I7,n7⟩:=q7;exact again I7 n7
  | cont=>obtain⟨σ7,H7,I7,n7⟩:=q7;exact again I7 n7
  | brk=>obtain⟨σ7,H7,I7,q7⟩:=q7;exact⟨σ7,H7,I7.unpinned,q7⟩
  | ret v=>obtain⟨x7,σ7,H7,I7,r7,q7⟩:=q7;exact⟨x7,σ7,H7,I7.unpinned,r7,q7⟩
end
theorem Jg{K:W.Frag}{a:Addr}{xs:List V}{g:TG}{tb:TS}{D:Ends}{σ:St}{H:Hp}(Pv:Nat→St→Hp→Prop)(h0:Pv 0 σ H)(hl:∀i σ H,i≤xs.length→Pv i σ H→SqL K H a xs)(hs:∀i x σ H,xs[i]?=some x→Pv i σ H→g x σ H fun σ2 H2=>tb { D with nx:=Pv (i+1),ct:=Pv (i+1),bk:=D.nx } σ2 H2)(hd:∀σ H,Pv xs.length σ H→D.nx σ H) :
 ∃W:Nat→Nat→St→Hp→Prop,(∃m,W 0 m σ H)∧∀i m σ H,W i m σ H →
  ((Itl K a).stop i H∧D.nx σ H)∨((Itl K a).go i H∧∃N:St→Hp→Prop,(∀σ' H',N σ' H'→∃m',m'<m∧W (i+1) m' σ' H')∧∀x H',(Itl K a).yld i H x H'→g x σ H' fun σ2 H2=>tb { D with nx:=N,ct:=N,bk:=D.nx } σ2 H2):=by
 refine⟨fun i m σ H=>m=xs.length-i∧i≤xs.length∧Pv i σ H,⟨xs.length,by simp,Nat.zero_le _,h0⟩,?_⟩
 rintro i m σ H ⟨rfl,hi,p⟩
 have q:=hl i σ H hi p
 by_cases hlt:i<xs.length
 ·refine .inr ⟨⟨xs,xs[i],q,by simp[hlt]⟩,Pv (i+1),fun σ' H' p'=>⟨xs.length-(i+1),by omega,rfl,hlt,p'⟩,fun x H' y=>?_⟩
  obtain⟨e,y⟩:=y
  subst e
  exact hs i x σ _ (y xs q) p
 ·have e:i=xs.length:=by omega
  subst e
  exact .inl ⟨⟨xs,q,ZG _⟩,hd σ H p⟩
theorem Jd1{K:W.Frag}{a:Addr}{xs:List V}{g:TG}{tb:TS}{D:Ends}{σ:St}{H:Hp}(Pv:Nat→St→Hp→Prop)(h0:Pv 0 σ H)(hl:∀i σ H,i≤xs.length→Pv i σ H→SqT K H a xs)(hs:∀i x σ H,xs[i]?=some x→Pv i σ H→g x σ H fun σ2 H2=>tb { D with nx:=Pv (i+1),ct:=Pv (i+1),bk:=D.nx } σ2 H2)(hd:∀σ H,Pv xs.length σ H→D.nx σ H) :
 ∃W:Nat→Nat→St→Hp→Prop,(∃m,W 0 m σ H)∧∀i m σ H,W i m σ H →
  ((Itt K a).stop i H∧D.nx σ H)∨((Itt K a).go i H∧∃N:St→Hp→Prop,(∀σ' H',N σ' H'→∃m',m'<m∧W (i+1) m' σ' H')∧∀x H',(Itt K a).yld i H x H'→g x σ H' fun σ2 H2=>tb { D with nx:=N,ct:=N,bk:=D.nx } σ2 H2):=by
 refine⟨fun i m σ H=>m=xs.length-i∧i≤xs.length∧Pv i σ H,⟨xs.length,by simp,Nat.zero_le _,h0⟩,?_⟩
 rintro i m σ H ⟨rfl,hi,p⟩
 have q:=hl i σ H hi p
 by_cases hlt:i<xs.length
 ·refine .inr ⟨⟨xs,xs[i],q,by simp[hlt]⟩,Pv (i+1),fun σ' H' p'=>⟨xs.length-(i+1),by omega,rfl,hlt,p'⟩,fun x H' y=>?_⟩
  obtain⟨e,y⟩:=y
  subst e
  exact hs i x σ _ (y xs q) p
 ·have e:i=xs.length:=by omega
  subst e
  exact .inl ⟨⟨xs,q,ZG _⟩,hd σ H p⟩
theorem Ze{lo:Int}{n:Nat}{g:TG}{tb:TS}{D:Ends}{σ:St}{H:Hp}(Pv:Nat→St→Hp→Prop)(h0:Pv 0 σ H)(hs:∀i σ H,i<n→Pv i σ H→g (.int (lo+i)) σ H fun σ2 H2=>tb { D with nx:=Pv (i+1),ct:=Pv (i+1),bk:=D.nx } σ2 H2)(hd:∀σ H,Pv n σ H→D.nx σ H) :
 ∃W:Nat→Nat→St→Hp→Prop,(∃m,W 0 m σ H)∧∀i m σ H,W i m σ H →
  ((Itr lo n).stop i H∧D.nx σ H)∨((Itr lo n).go i H∧∃N:St→Hp→Prop,(∀σ' H',N σ' H'→∃m',m'<m∧W (i+1) m' σ' H')∧∀x H',(Itr lo n).yld i H x H'→g x σ H' fun σ2 H2=>tb { D with nx:=N,ct:=N,bk:=D.nx } σ2 H2):=by
 refine⟨fun i m σ H=>m=n-i∧i≤n∧Pv i σ H,⟨n,by simp,Nat.zero_le _,h0⟩,?_⟩
 rintro i m σ H ⟨rfl,hi,p⟩
 by_cases hlt:i<n
 ·refine .inr ⟨hlt,Pv (i+1),fun σ' H' p'=>⟨n-(i+1),by omega,rfl,hlt,p'⟩,fun x H' y=>?_⟩
  obtain⟨e,y⟩:=y
  subst e y
  exact hs i σ _ hlt p
 ·have e:i=n:=by omega
  subst e
  exact .inl ⟨ZG _,hd σ H p⟩
abbrev R2:=V→V→Hp→VK→Prop
def OpR(X:Cx)(f:Value→Value→Sem Value)(r:R2):Prop :=
 ∀(pins:List (Addr×Obj))(s:Shared)(σ:St)(H:Hp)(x y:V)(v u:Value)(Q:VK),Inv X pins σ H s→RelV x v→RelV y u→r x y H Q →
  wpAny (model X.prog X.w) X.A (f v u) (EP X pins σ Q) X.xe s
def Em(X:Cx)(f:Value)(r:List V→Hp→VK→Prop):Prop :=
 ∀(pins:List (Addr×Obj))(s:Shared)(σ:St)(H:Hp)(xs:List V)(us:List Value)(Q:VK),Inv X pins σ H s→Vals xs us→r xs H Q →
  wpAny (model X.prog X.w) X.A (call f us) (EP X pins σ Q) X.xe s
def Jil(X:Cx)(r:V→Hp→(Bool→Hp→Prop)→Prop):Prop :=
 ∀(pins:List (Addr×Obj))(s:Shared)(σ:St)(H:Hp)(x:V)(v:Value)(Q:Bool→Hp→Prop),Inv X pins σ H s→RelV x v→r x H Q →
  wpAny (model X.prog X.w) X.A (truthy v) (TP X pins σ Q) X.xe s
def tOp(r:R2)(ta tb:TE):TE:=fun σ H Q=>ta σ H fun x H1=>tb σ H1 fun y H2=>r x y H2 Q
def rI(C:Int→Int→Prop)(g:Int→Int→V):R2:=fun x y H Q=>∃i j,x=.int i∧y=.int j∧C i j∧Q (g i j) H
def rI0(g:Int→Int→V):R2:=fun x y H Q=>∃i j,x=.int i∧y=.int j∧Q (g i j) H
section
variable {X:Cx}{a b c:Expr}{ta tb tc:TE}{pos:Pos}
theorem Jf3(ha:PE X a ta)(hb:PE X b tb){pins:List (Addr×Obj)}{s:Shared}{σ:St}{H:Hp}{R:V→V→Hp→Prop}(I:Inv X pins σ H s)(h:ta σ H fun x H1=>tb σ H1 fun y H2=>R x y H2){Q:Value→Shared→Prop}{f:Value→Value→Sem Value}(hf:∀v u s2 x y H2,Inv X pins σ H2 s2→RelV x v→RelV y u→R x y H2→wpAny (model X.prog X.w) X.A (f v u) Q X.xe s2) :
 wpAny (model X.prog X.w) X.A (eval a X.env) (fun v s₁=>wpAny (model X.prog X.w) X.A (eval b X.env) (fun u s₂=>wpAny (model X.prog X.w) X.A (f v u) Q X.xe s₂) X.xe s₁) X.xe s:=by
 refine thn (ha pins s σ H _ I h) fun v s1 ⟨x,H1,I1,r1,q1⟩=>?_
 refine thn (hb pins s1 σ H1 _ I1 q1) fun u s2 ⟨y,H2,I2,r2,q2⟩=>?_
 exact hf v u s2 x y H2 I2 r1 r2 q2
theorem Bc{op:Operator}{r:R2}(ho:OpR X (binaryOp op) r)(ha:PE X a ta)(hb:PE X b tb):PE X (.BinOp a op b pos) (tOp r ta tb):=by
 intro pins s σ H Q I h
 exact wpAny_BinOp (Jf3 ha hb I h fun v u s2 x y H2 I2 rx ry q=>ho pins s2 σ H2 x y v u Q I2 rx ry q)
theorem opI{f:Value→Value→Sem Value}{C:Int→Int→Prop}{g:Int→Int→Int}(rule:∀(i j:Int) (t u:Tok) (s:Shared) (Q:Value→Shared→Prop) (E:Value→Shared→Prop),C i j→Q (.int (g i j) s.toks) { s with toks:=s.toks+1 }→wpAny (model X.prog X.w) X.A (f (.int i t) (.int j u)) Q E s) :
 OpR X f (rI C fun i j=>.int (g i j)):=by
 intro pins s σ H x y v u Q I rx ry h
 obtain⟨i,j,rfl,rfl,hc,q⟩:=h
 obtain⟨t,rfl⟩:=rx
 obtain⟨t',rfl⟩:=ry
 exact rule i j t t' s _ _ hc ⟨.int (g i j),H,I.tok _,⟨_,rfl⟩,q⟩
theorem Jgs{f:Value→Value→Sem Value}{g:Int→Int→Int}(rule:∀(i j:Int) (t u:Tok) (s:Shared) (Q:Value→Shared→Prop) (E:Value→Shared→Prop),Q (.int (g i j) s.toks) { s with toks:=s.toks+1 }→wpAny (model X.prog X.w) X.A (f (.int i t) (.int j u)) Q E s) :
 OpR X f (rI0 fun i j=>.int (g i j)):=by
 intro pins s σ H x y v u Q I rx ry h
 obtain⟨i,j,rfl,rfl,q⟩:=h
 obtain⟨t,rfl⟩:=rx
 obtain⟨t',rfl⟩:=ry
 exact rule i j t t' s _ _ ⟨.int (g i j),H,I.tok _,⟨_,rfl⟩,q⟩
theorem Jfj{f:Value→Value→Sem Value}{g:Int→Int→Bool}(rule:∀(i j:Int) (t u:Tok) (s:Shared) (Q:Value→Shared→Prop) (E:Value→Shared→Prop),Q (.bool (g i j)) s→wpAny (model X.prog X.w) X.A (f (.int i t) (.int j u)) Q E s) :
 OpR X f (rI0 fun i j=>.bl (g i j)):=by
 intro pins s σ H x y v u Q I rx ry h
 obtain⟨i,j,rfl,rfl,q⟩:=h
 obtain⟨t,rfl⟩:=rx
 obtain⟨t',rfl⟩:=ry
 exact rule i j t t' s _ _ ⟨.bl (g i j),H,I,rfl,q⟩
def Jiq(i j:Int):Prop:=0<j∧j<1073741824
def Jip(i j:Int):Prop:=0≤j∧j≤1000000∧i.natAbs<2 ^ 64
def CMul(i j:Int):Prop:=(-(2 ^ 64)<i∧i<2 ^ 64)∨(-(2 ^ 64)<j∧j<2 ^ 64)
theorem CMul.ok{i j:Int}(h:CMul i j):IntMulOk i j:=by
 rcases h with⟨h1,h2⟩|⟨h1,h2⟩
 ·exact .of_left (intBits_le_64 h1 h2)
 ·exact .of_right (intBits_le_64 h1 h2)
theorem F2:OpR X (binaryOp .Add) (rI0 fun i j=>.int (i+j)):=Jgs fun _ _ _ _ _ _ _ q=>add_int q
theorem Qu:OpR X (binaryOp .Sub) (rI0 fun i j=>.int (i-j)):=Jgs fun _ _ _ _ _ _ _ q=>sub_int q
theorem Ew:OpR X (binaryOp .Mult) (rI CMul fun i j=>.int (i*j)):=opI fun _ _ _ _ _ _ _ hc q=>mul_int q hc.ok
theorem D8:OpR X (binaryOp .FloorDiv) (rI Jiq fun i j=>.int (i / j)):=opI fun i j _ _ _ _ _ hc q=>by
 have h1:(0:Int)<j:=hc.1
 have h2:j<1073741824:=hc.2
 exact floordiv_int (by omega) (by rw[Int.fdiv_eq_ediv_of_nonneg i (by omega)];exact q) (.inl (PyProof.noPylong_small (by omega)))
theorem Cc:OpR X (binaryOp .Mod) (rI (fun _ j=>0<j) fun i j=>.int (i % j)):=opI fun i j _ _ _ _ _ hc q=>by
 have h1:(0:Int)<j:=hc
 exact mod_int' (by omega) (by rw[Int.fmod_eq_emod_of_nonneg i (by omega)];exact q)
theorem Jfg:OpR X (binaryOp .Pow) (rI Jip fun i j=>.int (i ^ j.toNat)):=opI fun _ _ _ _ _ _ _ hc q=>pow_int_small hc.1 hc.2.1 hc.2.2 q
end
def Jgk:V→V→Bool
 | .non,.non=>true|.non,.int _=>true|.int _,.non=>true|.non,.bl _=>true|.bl _,.non=>true|.non,.str _=>true|.str _,.non=>true
 | .int _,.int _=>true|.bl _,.bl _=>true|.str _,.str _=>true|.byt _,.byt _=>true
 | .int _,.str _=>true|.str _,.int _=>true|.bl _,.str _=>true|.str _,.bl _=>true
 | _,_=>false
def rEq:R2:=fun x y H Q=>Jgk x y=true∧Q (.bl (decide (x=y))) H
def rNe:R2:=fun x y H Q=>Jgk x y=true∧Q (.bl (!decide (x=y))) H
theorem X3{i j:Int}:decide (V.int i=V.int j)=(i==j):=by
 rw[Bool.eq_iff_iff]
 simp
theorem Jbz{i j:Bool}:decide (V.bl i=V.bl j)=(i==j):=by
 rw[Bool.eq_iff_iff]
 simp
theorem X2{i j:Str}:decide (V.str i=V.str j)=(i==j):=by
 rw[Bool.eq_iff_iff]
 simp
theorem X4{i j:Array UInt8}:decide (V.byt i=V.byt j)=(i.toList==j.toList):=by
 rw[Bool.eq_iff_iff]
 cases i
 cases j
 simp
section
variable {X:Cx}{a b c:Expr}{ta tb tc:TE}{pos:Pos}
theorem Bt{pins:List (Addr×Obj)}{σ:St}{H:Hp}{s:Shared}{Q:VK}{k k':Bool}(I:Inv X pins σ H s)(q:Q (.bl k) H)(e:k=k'):EP X pins σ Q (.bool k') s:=by
 subst e
 exact⟨.bl k,H,I,rfl,q⟩
theorem Bx:OpR X (compareOp .Eq) rEq:=by
 intro pins s σ H x y v u Q I rx ry h
 obtain⟨hs,q⟩:=h
 cases x with
 | non =>
   cases rx
   cases y with
   | non=>cases ry;exact PySem.EqNone.eq_none_none (Bt I q (by simp))
   | bl j=>cases ry;exact PySem.EqNone.eq_none_bool (Bt I q (by simp))
   | int j=>obtain⟨t',rfl⟩:=ry;exact PySem.EqNone.eq_none_int (Bt I q (by simp))
   | str j=>obtain⟨t',rfl⟩:=ry;exact PySem.EqNone.eq_none_str (Bt I q (by simp))
   | _=>exact absurd (show false=true from hs) Bool.false_ne_true
 | bl i =>
   cases rx
   cases y with
   | non=>cases ry;exact PySem.EqNone.eq_bool_none (Bt I q (by simp))
   | bl j=>cases ry;exact eq_bool (Bt I q Jbz)
   | str j=>obtain⟨t',rfl⟩:=ry;exact PySem.EqMixed.eq_bool_str (Bt I q (by simp))
   | _=>exact absurd (show false=true from hs) Bool.false_ne_true
 | int i =>
   obtain⟨t,rfl⟩:=rx
   cases y with
   | non=>cases ry;exact PySem.EqNone.eq_int_none (Bt I q (by simp))
   | int j=>obtain⟨t',rfl⟩:=ry;exact eq_int (Bt I q X3)
   | str j=>obtain⟨t',rfl⟩:=ry;exact PySem.EqMixed.eq_int_str (Bt I q (by simp))
   | _=>exact absurd (show false=true from hs) Bool.false_ne_true
 | str i =>
   obtain⟨t,rfl⟩:=rx
   cases y with
   | non=>cases ry;exact PySem.EqNone.eq_str_none (Bt I q (by simp))
   | bl j=>cases ry;exact PySem.EqMixed.eq_str_bool (Bt I q (by simp))
   | int j=>obtain⟨t',rfl⟩:=ry;exact PySem.EqMixed.eq_str_int (Bt I q (by simp))
   | str j=>obtain⟨t',rfl⟩:=ry;exact eq_str (Bt I q X2)
   | _=>exact absurd (show false=true from hs) Bool.false_ne_true
 | byt i =>
   obtain⟨t,rfl⟩:=rx
   cases y with
   | byt j=>obtain⟨t',rfl⟩:=ry;exact W.eq_bytes (Bt I q X4)
   | _=>exact absurd (show false=true from hs) Bool.false_ne_true
 | _=>cases y<;>exact absurd (show false=true from hs) Bool.false_ne_true
theorem Xj:OpR X (compareOp .NotEq) rNe:=by
 intro pins s σ H x y v u Q I rx ry h
 obtain⟨hs,q⟩:=h
 cases x with
 | non =>
   cases rx
   cases y with
   | non=>cases ry;exact PySem.EqNone.ne_none_none (Bt I q (by simp))
   | bl j=>cases ry;exact PySem.EqNone.ne_none_bool (Bt I q (by simp))
   | int j=>obtain⟨t',rfl⟩:=ry;exact PySem.EqNone.ne_none_int (Bt I q (by simp))
   | str j=>obtain⟨t',rfl⟩:=ry;exact PySem.EqNone.ne_none_str (Bt I q (by simp))
   | _=>exact absurd (show false=true from hs) Bool.false_ne_true
 | bl i =>
   cases rx
   cases y with
   | non=>cases ry;exact PySem.EqNone.ne_bool_none (Bt I q (by simp))
   | bl j=>cases ry;exact ne_bool (Bt I q (congrArg not Jbz))
   | str j=>obtain⟨t',rfl⟩:=ry;exact PySem.EqMixed.ne_bool_str (Bt I q (by simp))
   | _=>exact absurd (show false=true from hs) Bool.false_ne_true
 | int i =>
   obtain⟨t,rfl⟩:=rx
   cases y with
   | non=>cases ry;exact PySem.EqNone.ne_int_none (Bt I q (by simp))
   | int j=>obtain⟨t',rfl⟩:=ry;exact ne_int (Bt I q (congrArg not X3))
   | str j=>obtain⟨t',rfl⟩:=ry;exact PySem.EqMixed.ne_int_str (Bt I q (by simp))
   | _=>exact absurd (show false=true from hs) Bool.false_ne_true
 | str i =>
   obtain⟨t,rfl⟩:=rx
   cases y with
   | non=>cases ry;exact PySem.EqNone.ne_str_none (Bt I q (by simp))
   | bl j=>cases ry;exact PySem.EqMixed.ne_str_bool (Bt I q (by simp))
   | int j=>obtain⟨t',rfl⟩:=ry;exact PySem.EqMixed.ne_str_int (Bt I q (by simp))
   | str j=>obtain⟨t',rfl⟩:=ry;exact ne_str (Bt I q (congrArg not X2))
   | _=>exact absurd (show false=true from hs) Bool.false_ne_true
 | byt i =>
   obtain⟨t,rfl⟩:=rx
   cases y with
   | byt j=>obtain⟨t',rfl⟩:=ry;exact W.ne_bytes (Bt I q (congrArg not X4))
   | _=>exact absurd (show false=true from hs) Bool.false_ne_true
 | _=>cases y<;>exact absurd (show false=true from hs) Bool.false_ne_true
theorem To:OpR X (compareOp .Lt) (rI0 fun i j=>.bl (decide (i<j))):=Jfj fun _ _ _ _ _ _ _ q=>lt_int q
theorem Ol:OpR X (compareOp .Gt) (rI0 fun i j=>.bl (decide (j<i))):=Jfj fun _ _ _ _ _ _ _ q=>gt_int q
theorem Jgr:OpR X (compareOp .GtE) (rI0 fun i j=>.bl (decide (j≤i))):=Jfj fun _ _ _ _ _ _ _ q=>ge_int q
theorem A0(b:Expr){op:CmpOp}(h:op≠.In:=by decide)(h2:op≠.NotIn:=by decide):behindInMarks op b=false:=by
 have e1:(op==CmpOp.In)=false:=by cases op<;>first|rfl|exact absurd rfl h
 have e2:(op==CmpOp.NotIn)=false:=by cases op<;>first|rfl|exact absurd rfl h2
 cases b<;>simp[behindInMarks,e1,e2]
theorem Lf{op:CmpOp}{r:R2}(ho:OpR X (compareOp op) r)(ha:PE X a ta)(hb:PE X b tb)(hm:behindInMarks op b=false):PE X (.Compare a [op] [b] pos) (tOp r ta tb):=by
 intro pins s σ H Q I h
 exact wpAny_Compare1 (Jf3 ha hb I h fun v u s2 x y H2 I2 rx ry q=>ho pins s2 σ H2 x y v u Q I2 rx ry q) hm
def Kj(t:TE):TT:=fun σ H Q=>t σ H fun x H'=>∃k,x=.bl k∧Q k H'
theorem Au{op:CmpOp}{r:R2}(ho:OpR X (compareOp op) r)(ha:PE X a ta)(hb:PE X b tb)(hm:behindInMarks op b=false):PT X (.Compare a [op] [b] pos) (Kj (tOp r ta tb)):=by
 intro pins s σ H Q I h
 refine wpAny_isTrue_Compare1 (thn (ha pins s σ H _ I h) fun v s1 ⟨x,H1,I1,r1,q1⟩=>thn (hb pins s1 σ H1 _ I1 q1) fun u s2 ⟨y,H2,I2,r2,q2⟩ =>
  thn (ho pins s2 σ H2 x y v u _ I2 r1 r2 q2) fun c s3 ⟨z,H3,I3,r3,k,e,q3⟩=>?_) hm
 subst e
 cases r3
 exact wpAny_truthy_bool ⟨H3,I3,q3⟩
def Jg4(K:W.Frag)(x:V)(H:Hp)(k:Bool):Prop :=
 match x with
 | .non=>k=false
 | .bl b=>k=b
 | .int i=>k=(i != 0)
 | .str y=>y.length≤sizeLine∧k=((y.length:Int) != 0)
 | .byt y=>y.size≤sizeLine∧k=((y.size:Int) != 0)
 | .ref p=>(∃xs,SqL K H p xs∧k=!xs.isEmpty)∨(∃xs,SqT K H p xs∧k=!xs.isEmpty)∨∃kvs,H p=some (.dK kvs)∧k=!kvs.isEmpty
 | _=>False
theorem V2{κ:Type}{kvs:List (κ×V)}{vs:List (κ×Value)}(r:KV kvs vs):(!vs.isEmpty)=!kvs.isEmpty:=by
 cases r<;>rfl
theorem Mv{xs:List V}{its:List Value}(r:Vals xs its):(!its.toArray.isEmpty)=!xs.isEmpty:=by
 cases r<;>simp
theorem Rc:(sizeLine:Nat)<2 ^ 63:=by rw[sizeLine_eq];decide
theorem Jew:Jil X (fun x H Q=>∃k,Jg4 X.K x H k∧Q k H):=by
 intro pins s σ H x v Q I rx h
 obtain⟨k,e,q⟩:=h
 have hl:=Rc
 have hs:sizeLine=16777216:=sizeLine_eq
 cases x with
 | non =>
   cases rx
   have e':k=false:=e
   subst e'
   exact truthy_none ⟨H,I,q⟩
 | bl b =>
   cases rx
   have e':k=b:=e
   subst e'
   exact wpAny_truthy_bool ⟨H,I,q⟩
 | int i =>
   obtain⟨t,rfl⟩:=rx
   have e':k=(i != 0):=e
   subst e'
   exact PySem.P.truthy_int ⟨H,I,q⟩
 | str y =>
   obtain⟨t,rfl⟩:=rx
   obtain⟨hy,e'⟩:y.length≤sizeLine∧k=((y.length:Int) != 0):=e
   subst e'
   exact PySem.P.truthy_str (by omega) ⟨H,I.tok _,q⟩
 | byt y =>
   obtain⟨t,rfl⟩:=rx
   obtain⟨hy,e'⟩:y.size≤sizeLine∧k=((y.size:Int) != 0):=e
   subst e'
   exact W.truthy_bytes (by omega) ⟨H,I.tok _,q⟩
 | ref p =>
   cases rx
   have e':(∃xs,SqL X.K H p xs∧k=!xs.isEmpty)∨(∃xs,SqT X.K H p xs∧k=!xs.isEmpty)∨∃kvs,H p=some (.dK kvs)∧k=!kvs.isEmpty:=e
   rcases e' with⟨xs,hx,e'⟩|⟨xs,hx,e'⟩|⟨kvs,hx,e'⟩
   ·subst e'
    obtain⟨its,r,pl,hz⟩:=I.list hx
    have hlen:=r.length
    exact wpAny_truthy_list pl.isList (by simp only[List.size_toArray];omega) ⟨H,I.tok _,by rw[Mv r];exact q⟩
   ·subst e'
    obtain⟨its,r,pl,hz⟩:=I.tuple hx
    have hlen:=r.length
    exact truthy_tuple pl (by simp only[List.size_toArray];omega) ⟨H,I.tok _,by rw[Mv r];exact q⟩
   ·subst e'
    obtain⟨hz,hS,vs,r,m⟩:kvs.length≤sizeLine∧(p==sysModules)=false∧∃vs,KV kvs vs∧s.heap.DictOf (A8 X.prog X.w) p vs:=I.hok p _ hx
    have hlen:kvs.length=vs.length:=Paired.length r
    exact wpAny_truthy_dict hS m (by omega) ⟨H,I.tok _,by rw[V2 r];exact q⟩
 | _=>exact(show False from e).elim
theorem Jag(ha:PE X a ta)(he:∀whole,isTrue a X.env whole=(do let v ←whole;standAt a.pos;holding [v] (truthy v))) :
 PT X a (fun σ H Q=>ta σ H fun x H'=>∃k,Jg4 X.K x H' k∧Q k H'):=by
 intro pins s σ H Q I h
 exact isTrue_plain (thn (ha pins s σ H _ I h) fun v s1 ⟨x,H1,I1,r1,q1⟩=>Jew pins s1 σ H1 x v Q I1 r1 q1) (he _)
theorem vals1{x:V}{us:List Value}(r:Vals [x] us):∃u,us=[u]∧RelV x u:=by
 cases r with
 | cons r1 r2=>cases r2;exact⟨_,rfl,r1⟩
end
structure ObjM(h:Heap)(x dx C:Addr)(mA:Str→Option Value):Prop where
 obj:h.get? x=some (W.instObj C dx)
 ns:h.Ns1 dx mA
 ne:dx≠x
theorem Yx{h:Heap}{dx:Addr}{mA:Str→Option Value}(n:h.Ns1 dx mA):∃od,h.get? dx=some od∧∀name,W.lookIn name od=some (mA name):=by
 obtain⟨o,es,ep,ho,hd,hk,_,hm⟩:=n
 refine⟨o,ho,fun name=>?_⟩
 have e:=hm name
 unfold nsFind findBy at e
 rw[←Array.find?_toList] at e
 unfold W.lookIn
 rw[hd]
 dsimp only
 split
 ·rename_i y q
  rw[q] at e
  exact congrArg some e
 ·rename_i q
  rw[q] at e
  have a:es.toList.any (·.refKey)=false:=by
   rw[List.any_eq_false]
   intro y hy
   obtain⟨z,t,hkey⟩:=hk y (Array.mem_toList_iff.mp hy)
   simp[DictEntry.refKey,hkey]
  have a':¬es.toList.any (·.refKey)=true:=by rw[a];exact Bool.false_ne_true
  rw[if_neg a']
  exact congrArg some e
theorem ObjM.look{h:Heap}{x dx C:Addr}{mA:Str→Option Value}(I:ObjM h x dx C mA):∃od,W.InstAt h x (W.instObj C dx) C (some od)∧∀name,W.lookIn name od=some (mA name) :=
 let⟨od,ho,hl⟩:=Yx I.ns
 ⟨od,⟨I.obj,rfl,rfl,ho⟩,hl⟩
section
variable {prog:Program}{w:World}{A:Around}{E:Value→Shared→Prop}{s:Shared}{K:W.Frag}{x dx C f:Addr}{mA:Str→Option Value}{name:Str}{v:Value}
theorem Jdz{expr:Bool}{Q:Value→Shared→Prop}(X:K.In s.heap)(I:ObjM s.heap x dx C mA)(hg:W.plainGet K C name=true)(hh:W.hasDictIn K C=true)(ha:W.findIn K (.ref C) name=some none)(hv:mA name=some v)(hv':W.handedIn v=true)(h:Q v { s with toks:=s.toks+1 }) :
 wpAny (model prog w) A (getAttr (.ref x) name expr) Q E s:=by
 obtain⟨od,J,hl⟩:=I.look
 exact W.get_value X J (W.plainGet_of hg).1 (W.findObj_own hh ha rfl (by rw[hl,hv])) hv' h
theorem Jbt{pl:Sem Bool}{Q:Value×List Value→Shared→Prop}(X:K.In s.heap)(I:ObjM s.heap x dx C mA)(hg:W.plainGet K C name=true)(hf:W.findIn K (.ref C) name=some (some (.ref f)))(ht:W.isFn K (.ref f)=true)(hv:mA name=none)(h:Q (.ref f,[.ref x]) s) :
 wpAny (model prog w) A (getMethod (.ref x) name pl) Q E s:=by
 obtain⟨od,J,hl⟩:=I.look
 exact W.method_fn X J (W.plainGet_of hg).1 (W.plainGet_of hg).2 hf (beq_iff_eq.mp ht) (by show(W.lookIn name od).map (·.isSome)=some false;rw[hl,hv];rfl) h
theorem Jck{ns:List Str}{Q:Unit→Shared→Prop}(X:K.In s.heap)(I:ObjM s.heap x dx C mA)(hs:W.findIn K (.ref C) "__setattr__"=some (some (.builtin "object.__setattr__")))(hp:W.plainOver K C=true)(ht:W.takerIn K C name=some none)(hh:W.hasDictIn K C=true)(hw:PySem.Within mA ns)(hsz:ns.length≤sizeLine)(h:∀h',ObjM h' x dx C (fun y=>if y=name then some v else mA y)→Heap.SameBut dx s.heap h'→Q () { s with heap:=h',toks:=s.toks+2 }) :
 wpAny (model prog w) A (setAttr (.ref x) name v) Q E s:=by
 obtain⟨od,J,hl⟩:=I.look
 refine W.set_plain X J hs (W.osa_open (s:={ s with toks:=s.toks+1 }) (r:=none) X J hp ht fun b=>?_)
 obtain⟨cd,hc,hd'⟩:=W.any_some hh
 have hx:s.heap.get? x=some ⟨.ref C,some dx,.plain,#[]⟩:=I.obj
 refine ZR (ZS (ZR (ZR (wpAny_loadPart hx (ZR (W.Looks.here (s:={ s with toks:=s.toks+1 }) (W.looks_clsIn X hc) ?_))))))
 rw[hd']
 refine ZS (a:=some dx) (ZR (ZS (ZR ?_)))
 refine wpAny_nsSet1 (s:={ s with toks:=s.toks+1 }) I.ns fun h' hn2 hs2=>?_
 obtain⟨oD,esD,epD,hoD,hdD,hcD⟩:=hn2.count (PySem.Within.cons name v hw)
 refine ZR (wpAny_lookBehind hoD (by rw[hdD];exact pastItsLine_dict (Nat.le_trans hcD (by rw[List.length_cons];omega))) ?_)
 exact ZS (h _ ⟨(hs2.2 _ (Ne.symm I.ne)).trans I.obj,hn2,I.ne⟩ hs2)
theorem Jbl{R:Result→Shared→Prop}{vs:List Value}{kw:List (Str×Value)}(X:K.In s.heap)(hm:W.makesIn K C=true)(hi:W.findIn K (.ref C) "__init__"=some (some (.ref f)))(hf:W.typeIn K (.ref f)=some (.type "function"))(h:codeAny (model prog w) (A.under (.builtin "type.__call__" ⟨.ref C::vs,kw⟩)) (.call (.ref f) ⟨.ref (s.heap.objs.size+1)::vs,kw⟩) (W.InitBack (s.heap.objs.size+1) R)
  { s with heap:=(s.heap.push W.emptyDict).push (W.instObj C s.heap.objs.size) }) :
 codeAny (model prog w) A (.call (.ref C) ⟨vs,kw⟩) R s:=by
 obtain⟨hh,g,d,t,os⟩:=s
 exact W.make_core (W.makes_of X hm) (W.looks_findIn X hi) (fun self=>W.bind_fn X self hf) (.inl rfl) h
end
def Al(f:Str)(v:V):List (Str×V)→List (Str×V)
 | []=>[(f,v)]
 | (g,x)::r=>if g=f then(g,v)::r else(g,x)::Al f v r
theorem C3(f g:Str)(v:V):∀fs:List (Str×V),(Al f v fs).lookup g=if g=f then some v else fs.lookup g
 | []=>by
   show List.lookup g [(f,v)]=_
   by_cases h:g=f
   ·have hb:(g==f)=true:=beq_iff_eq.mpr h
    simp only[List.lookup,hb,if_pos h]
   ·have hb:(g==f)=false:=beq_eq_false_iff_ne.mpr h
    simp only[List.lookup,hb,if_neg h]
 | (k,x)::r=>by
   have ih:=C3 f g v r
   rw[show Al f v ((k,x)::r)=(if k=f then(k,v)::r else(k,x)::Al f v r) from rfl]
   by_cases hk:k=f
   ·rw[if_pos hk]
    by_cases h:g=k
    ·have hb:(g==k)=true:=beq_iff_eq.mpr h
     simp only[List.lookup,hb,if_pos (h.trans hk)]
    ·have hb:(g==k)=false:=beq_eq_false_iff_ne.mpr h
     simp only[List.lookup,hb,if_neg (fun e:g=f=>h (e.trans hk.symm))]
   ·rw[if_neg hk]
    by_cases h:g=k
    ·have hb:(g==k)=true:=beq_iff_eq.mpr h
     simp only[List.lookup,hb,if_neg (fun e:g=f=>hk (h.symm.trans e))]
    ·have hb:(g==k)=false:=beq_eq_false_iff_ne.mpr h
     simp only[List.lookup,hb]
     exact ih
theorem J9(f:Str)(v:V):∀fs:List (Str×V),f∈(Al f v fs).map (·.1)∧∀g,g∈fs.map (·.1)→g∈(Al f v fs).map (·.1)
 | []=>⟨by simp[Al],fun g h=>by simp at h⟩
 | (k,x)::r=>by
   obtain⟨i1,i2⟩:=J9 f v r
   rw[show Al f v ((k,x)::r)=(if k=f then(k,v)::r else(k,x)::Al f v r) from rfl]
   by_cases hk:k=f
   ·rw[if_pos hk]
    subst hk
    exact⟨by simp,fun g h=>by simpa using h⟩
   ·rw[if_neg hk]
    refine⟨?_,fun g h=>?_⟩
    ·rw[List.map_cons]
     exact ZD _ i1
    ·rw[List.map_cons] at h ⊢
     rcases ZM h with e|e
     ·exact List.mem_cons.mpr (.inl e)
     ·exact ZD _ (i2 g e)
theorem A4(f:Str)(v:V):∀fs:List (Str×V),(Al f v fs).length≤fs.length+1
 | []=>by simp[Al]
 | (k,x)::r=>by
   have ih:=A4 f v r
   rw[show Al f v ((k,x)::r)=(if k=f then(k,v)::r else(k,x)::Al f v r) from rfl]
   by_cases hk:k=f
   ·rw[if_pos hk,List.length_cons,List.length_cons];omega
   ·rw[if_neg hk,List.length_cons,List.length_cons];omega
theorem Ji2{v:V}{o:Option Value}(r:RelO (some v) o):∃u,o=some u∧RelV v u:=by
 cases o with
 | none=>exact(show False from r).elim
 | some u=>exact⟨u,rfl,r⟩
theorem Ji8{o:Option Value}(r:RelO none o):o=none:=by
 cases o with
 | none=>rfl
 | some u=>exact(show False from r).elim
theorem Zc{v:V}{u:Value}(r:RelV v u):W.handedIn u=true:=by
 cases v with
 | non=>cases (show u=Value.none from r);rfl
 | bl b=>cases (show u=Value.bool b from r);rfl
 | int i=>obtain⟨t,e⟩:=(show ∃t,u=Value.int i t from r);cases e;rfl
 | str x=>obtain⟨t,e⟩:=(show ∃t,u=Value.str x t from r);cases e;rfl
 | byt b=>obtain⟨t,e⟩:=(show ∃t,u=Value.bytes b t from r);cases e;rfl
 | flt b=>obtain⟨t,e⟩:=(show ∃t,u=Value.float b t from r);cases e;rfl
 | ref a=>cases (show u=Value.ref a from r);rfl
 | ty n=>cases (show u=Value.type n from r);rfl
section
variable {P:Program}{w:World}{H H':Hp}{h h':Heap}{a C dx:Addr}{fs fs':List (Str×V)}
theorem Li(hok:HOk P w H h)(e:H a=some (.ins C dx fs)):∃mA,ObjM h a dx C mA∧(∀f,RelO (fs.lookup f) (mA f))∧PySem.Within mA (fs.map (·.1))∧fs.length≤1000∧H dx=some (.own a):=by
 obtain⟨d,z,ne,ob,mA,n,r,q⟩:=(show ObjOk P w H h a (.ins C dx fs) from hok a _ e)
 exact⟨mA,⟨ob,n,ne⟩,r,q,z,d⟩
end
structure Cls(K:W.Frag)(C:Addr):Prop where
 pg:W.plainGet K C Str.empty=true
 hd:W.hasDictIn K C=true
 po:W.plainOver K C=true
 sa:W.findIn K (.ref C) "__setattr__"=some (some (.builtin "object.__setattr__"))
theorem Cls.get{K:W.Frag}{C:Addr}(c:Cls K C)(f:Str):W.plainGet K C f=true:=c.pg
def NoAttr(K:W.Frag)(C:Addr)(f:Str):Prop:=W.findIn K (.ref C) f=some none
theorem NoAttr.taker{K:W.Frag}{C:Addr}{f:Str}(n:NoAttr K C f):W.takerIn K C f=some none:=by
 unfold W.takerIn
 rw[show W.findIn K (.ref C) f=some none from n]
 rfl
structure Jcb(K:W.Frag)(C:Addr)(m:Str)(f:Addr):Prop where
 at_:W.findIn K (.ref C) m=some (some (.ref f))
 fn:W.isFn K (.ref f)=true
 kp:W.keepIn K (.ref f)=true
section
variable {X:Cx}{pins:List (Addr×Obj)}{σ:St}{H:Hp}{s:Shared}{a C dx:Addr}{fs:List (Str×V)}{f:Str}{v:V}{A:Around}{E:Value→Shared→Prop}
theorem M8{b:Bool}{Q:Value→Shared→Prop}(I:Inv X pins σ H s)(e:H a=some (.ins C dx fs))(c:Cls X.K C)(n:NoAttr X.K C f)(l:fs.lookup f=some v)(h:∀u s',Inv X pins σ H s'→RelV v u→Q u s'):wpAny (model X.prog X.w) A (getAttr (.ref a) f b) Q E s:=by
 obtain⟨mA,O,r,_,_,_⟩:=Li I.hok e
 obtain⟨u,hu,ru⟩:=Ji2 (v:=v) (o:=mA f) (by rw[←l];exact r f)
 exact Jdz I.kIn O (c.get f) c.hd n hu (Zc ru) (h u _ (I.tok _) ru)
theorem M7{m:Str}{g:Addr}{pl:Sem Bool}{Q:Value×List Value→Shared→Prop}(I:Inv X pins σ H s)(e:H a=some (.ins C dx fs))(c:Cls X.K C)(k:Jcb X.K C m g)(l:fs.lookup m=none)(h:Q (.ref g,[.ref a]) s):wpAny (model X.prog X.w) A (getMethod (.ref a) m pl) Q E s:=by
 obtain⟨mA,O,r,_,_,_⟩:=Li I.hok e
 have hn:mA m=none:=Ji8 (by rw[←l];exact r m)
 exact Jbt I.kIn O (c.get m) k.at_ k.fn hn h
theorem Lx{y:V}{u:Value}{Q:Unit→Shared→Prop}(I:Inv X pins σ H s)(e:H a=some (.ins C dx fs))(c:Cls X.K C)(n:NoAttr X.K C f)(hl:fs.length<1000)(ry:RelV y u)(h:∀s',Inv X pins σ (upd H a (.ins C dx (Al f y fs))) s'→Q () s'):wpAny (model X.prog X.w) A (setAttr (.ref a) f u) Q E s:=by
 obtain⟨mA,O,r,wi,_,ho⟩:=Li I.hok e
 have hz:(fs.map (·.1)).length≤sizeLine:=by rw[ZA,sizeLine_eq];omega
 refine Jck I.kIn O c.sa c.po n.taker c.hd wi hz fun h' O' sb=>h _ ?_
 have hd:∃o,h'.get? dx=some o:=let⟨o,_,_,e',_⟩:=O'.ns;⟨o,e'⟩
 refine I.write (x:=a) (e:=dx) (by rw[e];exact True.intro) (.inr ho) (fun b q hb z=>(sb.2 b hb).trans z) hd ?_
 refine⟨by rw[Ad O.ne];exact ho,?_,O.ne,O'.obj,_,O'.ns,fun g=>?_,fun g hg=>?_⟩
 ·have:=A4 f y fs;omega
 ·show RelO ((Al f y fs).lookup g) (if g=f then some u else mA g)
  rw[C3]
  by_cases q:g=f
  ·rw[if_pos q,if_pos q];exact ry
  ·rw[if_neg q,if_neg q];exact r g
 ·by_cases q:g=f
  ·rw[q];exact(J9 f y fs).1
  ·refine(J9 f y fs).2 g (wi g fun z=>hg ?_)
   show(if g=f then some u else mA g)=none
   rw[if_neg q];exact z
theorem Inv.made(I:Inv X pins σ H s):Inv X pins σ (upd (upd H s.heap.objs.size (.own (s.heap.objs.size+1))) (s.heap.objs.size+1) (.ins C s.heap.objs.size []))
 { s with heap:=(s.heap.push W.emptyDict).push (W.instObj C s.heap.objs.size) }:=by
 have e1:(s.heap.push W.emptyDict).get? s.heap.objs.size=some W.emptyDict:=ZU s.heap rfl
 have e2:((s.heap.push W.emptyDict).push (W.instObj C s.heap.objs.size)).get? (s.heap.objs.size+1)=some (W.instObj C s.heap.objs.size):=by
  have:=ZU (s.heap.push W.emptyDict) (o:=W.instObj C s.heap.objs.size) rfl
  rwa [Heap.size_push] at this
 have e3:(s.heap.push W.emptyDict).Ns s.heap.objs.size (fun _=>none):=⟨W.emptyDict,#[],_,e1,rfl,(fun e he=>absurd he (by simp)),fun _=>rfl⟩
 have I1:=I.laid (a:=s.heap.objs.size) (o:=.own (s.heap.objs.size+1)) (h':=s.heap.push W.emptyDict) (t':=s.toks) (fun b u q=>ZT _ q) (ZG _) ⟨_,e1⟩
 refine I1.laid (a:=s.heap.objs.size+1) (o:=.ins C s.heap.objs.size []) (t':=s.toks) (fun b u q=>ZT _ q) (Nat.le_of_eq (Heap.size_push _ _)) ?_
 have ne:s.heap.objs.size≠s.heap.objs.size+1:=Nat.ne_of_lt (Nat.lt_succ_self _)
 refine⟨by rw[Ad ne,Ab],Nat.zero_le _,ne,e2,fun _=>none,(Heap.Ns1.of_empty e3).at fun o q=>ZT _ q,fun _=>True.intro,fun y hy=>absurd rfl hy⟩
theorem Jec{prog:Program}{w:World}{env:Env}{e:Expr}{f:Str}{pos:Pos}{s:Shared}{Q:Value→Shared→Prop}(hb:attributeBase e f env (eval e env)=eval e env)(h:wpAny (model prog w) A (eval e env) (fun o s₁=>wpAny (model prog w) A (getAttr o f true) Q E s₁) E s):wpAny (model prog w) A (eval (.Attribute e f pos) env) Q E s :=
 Attribute_any_ h (by rw[arm_eval_Attribute,hb])
end
def Zw(K:W.Frag)(ta:TE)(f:Str):TE:=fun σ H Q=>ta σ H fun x H1=>∃a C dx fs v,x=.ref a∧H1 a=some (.ins C dx fs)∧Cls K C∧NoAttr K C f∧fs.lookup f=some v∧Q v H1
def Jh4(K:W.Frag)(ta tv:TE)(f:Str):TS:=fun D σ H=>tv σ H fun y H1=>ta σ H1 fun x H2=>∃a C dx fs,x=.ref a∧H2 a=some (.ins C dx fs)∧Cls K C∧NoAttr K C f∧fs.length<1000 ∧
 D.nx σ (upd H2 a (.ins C dx (Al f y fs)))
def Jej(X:Cx)(op:Operator)(rd:V→V→Hp→VK→Prop):Prop :=
 ∀(pins:List (Addr×Obj))(s:Shared)(σ:St)(H:Hp)(x y:V)(u v:Value)(Q:VK),Inv X pins σ H s→RelV x u→RelV y v→rd x y H Q→wpAny (model X.prog X.w) X.A (inplaceOp op u v) (EP X pins σ Q) X.xe s
def Jct(K:W.Frag)(ta tv:TE)(rd:V→V→Hp→VK→Prop)(f:Str):TS:=fun D σ H=>ta σ H fun x H1=>∃a C dx fs v,x=.ref a∧H1 a=some (.ins C dx fs)∧Cls K C∧NoAttr K C f∧fs.lookup f=some v ∧
 tv σ H1 fun y H2=>rd v y H2 fun z H3=>∃dx' fs',H3 a=some (.ins C dx' fs')∧fs'.length<1000∧D.nx σ (upd H3 a (.ins C dx' (Al f z fs')))
section
variable {X:Cx}{o e value:Expr}{f:Str}{pos pos' tpos:Pos}{ta tv:TE}
theorem Aw(he:PE X e ta)(hb:attributeBase e f X.env (eval e X.env)=eval e X.env):PE X (.Attribute e f pos) (Zw X.K ta f):=by
 intro pins s σ H Q I h
 refine Jec hb (thn (he pins s σ H _ I h) fun u s1 ⟨x,H1,I1,rx,a,C,dx,fs,v,ex,ea,c,n,l,q⟩=>?_)
 subst ex
 obtain rfl:u=Value.ref a:=rx
 exact M8 I1 ea c n l fun u' s2 I2 ru=>⟨v,H1,I2,ru,q⟩
theorem Dh(ha:PE X o ta)(hv:PE X value tv)(hs:swapsWith value (some (.Attribute o f pos')) pos.line X.env=pure false):PS X (.Assign [.Attribute o f pos'] value pos) (Jh4 X.K ta tv f):=by
 intro pins s σ H D I h
 refine plainObj_wpAny_Assign_Attribute (thn (hv pins s σ H _ I h) fun u s1 ⟨y,H1,I1,ry,q⟩=>thn (ha pins s1 σ H1 _ I1 q) fun ov s2 ⟨x,H2,I2,rx,a,C,dx,fs,ex,ea,c,n,l,q2⟩=>?_) hs
 subst ex
 obtain rfl:ov=Value.ref a:=rx
 exact Lx I2 ea c n l ry fun s3 I3=>⟨σ,_,I3,q2⟩
theorem Ca{op:Operator}{rd:V→V→Hp→VK→Prop}(ha:PE X o ta)(hv:PE X value tv)(hop:Jej X op rd):PS X (.AugAssign (.Attribute o f tpos) op value pos) (Jct X.K ta tv rd f):=by
 intro pins s σ H D I h
 refine wpAny_AugAssign_AttributeAny (thn (ha pins s σ H _ I h) fun ov s1 ⟨x,H1,I1,rx,a,C,dx,fs,v,ex,ea,c,n,l,q⟩=>?_)
 subst ex
 obtain rfl:ov=Value.ref a:=rx
 refine M8 I1 ea c n l fun u s2 I2 ru=>thn (hv pins s2 σ H1 _ I2 q) fun w3 s3 ⟨y,H2,I3,ry,q3⟩=>thn (hop pins s3 σ H2 v y u w3 _ I3 ru ry q3) fun w4 s4 ⟨z,H3,I4,rz,dx',fs',ea',l',q4⟩=>?_
 exact Lx I4 ea' c n l' rz fun s5 I5=>⟨σ,_,I5,q4⟩
def Jie:V→V→Hp→VK→Prop:=fun x y H Q=>∃i j,x=.int i∧y=.int j∧Q (.int (i+j)) H
def Jh5:V→V→Hp→VK→Prop:=fun x y H Q=>∃i j,x=.int i∧y=.int j∧Q (.int (i-j)) H
theorem C9:Jej X .Add Jie:=by
 rintro pins s σ H x y u v Q I rx ry ⟨i,j,rfl,rfl,q⟩
 obtain⟨t,rfl⟩:=(show ∃t,u=Value.int i t from rx)
 obtain⟨t',rfl⟩:=(show ∃t',v=Value.int j t' from ry)
 exact PyProof.Rows.iadd_int ⟨.int (i+j),H,I.tok _,⟨_,rfl⟩,q⟩
theorem Jbr:Jej X .Sub Jh5:=by
 rintro pins s σ H x y u v Q I rx ry ⟨i,j,rfl,rfl,q⟩
 obtain⟨t,rfl⟩:=(show ∃t,u=Value.int i t from rx)
 obtain⟨t',rfl⟩:=(show ∃t',v=Value.int j t' from ry)
 exact PyProof.Rows.isub_int ⟨.int (i-j),H,I.tok _,⟨_,rfl⟩,q⟩
end
section
variable {X:Cx}{pins:List (Addr×Obj)}{σ:St}{H:Hp}{s:Shared}{A:Around}{E:Value→Shared→Prop}{Q:Value→Shared→Prop}{c:Value}{b:Bool}
inductive Kh(K:W.Frag)(H:Hp):V→Value→Prop where
 | non:Kh K H .non (.type "NoneType")
 | bl (x:Bool):Kh K H (.bl x) (.type "bool")
 | int (i:Int):Kh K H (.int i) (.type "int")
 | str (x:Str):Kh K H (.str x) (.type "str")
 | flt (x:UInt64):Kh K H (.flt x) (.type "float")
 | lst {a:Addr} {xs:List V} (e:H a=some (.lst xs)):Kh K H (.ref a) (.type "list")
 | frz {a:Addr} {o:Obj} {xs:List V} (e:H a=some (.frz o (.lst xs))):Kh K H (.ref a) (.type "list")
 | tup {a:Addr} {xs:List V} (e:H a=some (.tup xs)):Kh K H (.ref a) (.type "tuple")
 | dK {a:Addr} {kvs:List (Key×V)} (e:H a=some (.dK kvs)):Kh K H (.ref a) (.type "dict")
 | dT {a:Addr} {kvs:List (List Key×V)} (e:H a=some (.dT kvs)):Kh K H (.ref a) (.type "dict")
 | ins {a C dx:Addr} {fs:List (Str×V)} (e:H a=some (.ins C dx fs)) (cl:Cls K C) (ha:W.findIn K (.ref C) "__class__"=some (some (.builtin "object.__class__")))
  (hn:W.specialIn K (.builtin "object.__class__") "__get__"=some (some (.builtin "getset_descriptor.__get__"))) (htk:W.takesIn K (.builtin "object.__class__")=some true)
  (hm:W.mroIn K C (.type "object")=some true):Kh K H (.ref a) (.ref C)
theorem Y5{x:V}{u t:Value}(I:Inv X pins σ H s)(rx:RelV x u)(ty:Kh X.K H x t)(e:W.kitOne X.K t c=some b)(h:∀tk,Q (.bool b) { s with toks:=tk }) :
 wpAny (model X.prog X.w) A (call (.builtin "isinstance") [u,c]) Q E s:=by
 cases ty with
 | non=>cases (show u=Value.none from rx);exact W.kia_one W.kitx_none I.kIn True.intro e (fun z=>nomatch z) h
 | bl y=>cases (show u=Value.bool y from rx);exact W.kia_one W.kitx_bool I.kIn True.intro e (fun z=>nomatch z) h
 | int i=>obtain⟨t,q⟩:=(show ∃t,u=Value.int i t from rx);cases q;exact W.kia_one W.kitx_int I.kIn True.intro e (fun z=>nomatch z) h
 | str y=>obtain⟨t,q⟩:=(show ∃t,u=Value.str y t from rx);cases q;exact W.kia_one W.kitx_str I.kIn True.intro e (fun z=>nomatch z) h
 | flt y=>obtain⟨t,q⟩:=(show ∃t,u=Value.float y t from rx);cases q;exact W.kia_one W.kitx_float I.kIn True.intro e (fun z=>nomatch z) h
 | @lst a xs ea =>
   cases (show u=Value.ref a from rx)
   obtain⟨_,_,n,_,h1⟩:=(show ObjOk X.prog X.w H s.heap a (.lst xs) from I.hok a _ ea)
   exact W.kia_one W.kitx_list I.kIn ⟨_,h1,rfl⟩ e (fun z=>nomatch z) h
 | @frz a ob xs ea =>
   cases (show u=Value.ref a from rx)
   obtain⟨_,_,_,n,_,h1⟩:=(show ObjOk X.prog X.w H s.heap a (.frz ob (.lst xs)) from I.hok a _ ea)
   exact W.kia_one W.kitx_list I.kIn ⟨_,h1,rfl⟩ e (fun z=>nomatch z) h
 | @tup a xs ea =>
   cases (show u=Value.ref a from rx)
   obtain⟨_,_,_,p⟩:=(show ObjOk X.prog X.w H s.heap a (.tup xs) from I.hok a _ ea)
   obtain⟨o,h1,h2,_⟩:=p
   exact W.kia_one W.kitx_tuple I.kIn ⟨o,h1,h2⟩ e (fun z=>nomatch z) h
 | @dK a kvs ea =>
   cases (show u=Value.ref a from rx)
   obtain⟨_,_,vs,_,p⟩:=(show ObjOk X.prog X.w H s.heap a (.dK kvs) from I.hok a _ ea)
   obtain⟨o,es,ep,h1,h2,_⟩:=p
   exact W.kia_one W.kitx_dict I.kIn ⟨o,h1,h2.1⟩ e (fun z=>nomatch z) h
 | @dT a kvs ea =>
   cases (show u=Value.ref a from rx)
   obtain⟨_,_,xs,_,o,es,ep,h1,h2,_⟩:=(show ObjOk X.prog X.w H s.heap a (.dT kvs) from I.hok a _ ea)
   exact W.kia_one W.kitx_dict I.kIn ⟨o,h1,h2.1⟩ e (fun z=>nomatch z) h
 | @ins a C dx fs ea cl ha hn htk hm =>
   cases (show u=Value.ref a from rx)
   obtain⟨mA,O,_⟩:=Li I.hok ea
   obtain⟨od,J,_⟩:=O.look
   exact W.kia_one (W.kitx_own (cl.get _) cl.hd ha hn htk hm) I.kIn J e (fun z=>nomatch z) h
end
structure Room(k:Nat)(A:Around):Prop where
 hd:A.handled=none
 dp:A.depth+3*k+5<recursionLimit
 un:A.units+16*k+200<cLine
theorem Room.mono{j k:Nat}{A:Around}(r:Room k A)(h:j≤k):Room j A:=⟨r.hd,by have:=r.dp;omega,by have:=r.un;omega⟩
theorem Room.deeper{k:Nat}{A:Around}(r:Room (k+1) A)(env:Env):Room k (A.deeper env) :=
 ⟨r.hd,by have:=r.dp;show A.depth+1+3*k+5<_;omega,by have:=r.un;show A.units+3+16*k+200<_;omega⟩
theorem Vw{A:Around}{C:Addr}{us:List Value}{kw:List (Str×Value)}:(A.under (.builtin "type.__call__" ⟨.ref C::us,kw⟩)).depth=A.depth+1:=by
 first|rfl|simp[Around.under,Code.weight,Code.isCreation,Code.isGuard,Code.isCaller,Code.frames,Code.isFrame,guardIds]
theorem Vv{A:Around}{C:Addr}{us:List Value}{kw:List (Str×Value)}:(A.under (.builtin "type.__call__" ⟨.ref C::us,kw⟩)).units=A.units+1:=by
 first|rfl|simp[Around.under,Code.cUnits,Code.frames,Code.isFrame]
theorem Room.make{k:Nat}{A:Around}(r:Room (k+1) A)(C:Addr)(us:List Value)(kw:List (Str×Value)):Room k (A.under (.builtin "type.__call__" ⟨.ref C::us,kw⟩)) :=
 ⟨r.hd,by have:=r.dp;rw[Vw];omega,by have:=r.un;rw[Vv];omega⟩
theorem Room.depth{k:Nat}{A:Around}(r:Room k A):A.depth<recursionLimit:=by have:=r.dp;omega
theorem Room.units{k:Nat}{A:Around}(r:Room k A):A.units+64<cLine:=by have:=r.un;omega
def Jo:TA:=fun _ H Q=>Q [] H
def Dk(ta:TE)(tr:TA):TA:=fun σ H Q=>ta σ H fun x H1=>tr σ H1 fun xs H2=>Q (x::xs) H2
section
variable {X:Cx}{e:Expr}{es:List Expr}{te:TE}{t:TA}{pos:Pos}
theorem Ae:PA X [] Jo:=fun _ _ _ _ H Q I h=>Calls.spliced_nil ⟨[],H,I,.nil,h⟩
theorem Aa(ha:PE X e te)(hr:PA X es t)(hs:starEach (e::es) X.env=(false,eval e X.env)::starEach es X.env:=by rfl):PA X (e::es) (Dk te t):=by
 intro pos pins s σ H Q I h
 rw[hs]
 show wpAny _ _ (spliced ((false,eval e X.env)::backTo pos (starEach es X.env))) _ _ s
 refine Calls.spliced_cons (thn (ha pins s σ H _ I h) fun u s1 ⟨x,H1,I1,r1,q1⟩=>?_)
 exact thn (hr pos pins s1 σ H1 _ I1 q1) fun us s2 ⟨xs,H2,I2,r2,q2⟩=>⟨x::xs,H2,I2,.cons r1 r2,q2⟩
def Jey(t:TA):TE:=fun σ H Q=>t σ H fun xs H1=>xs.length≤sizeLine∧∀p,H1 p=none→Q (.ref p) (upd H1 p (.tup xs))
def Jhh(t:TA):TE:=fun σ H Q=>t σ H fun xs H1=>xs.length≤sizeLine∧∀p,H1 p=none→Q (.ref p) (upd H1 p (.lst xs))
theorem Bn{x1}(h:PA X es t):PE X (.Tuple es x1 pos) (Jey t):=by
 intro pins s σ H Q I hq
 refine wpAny_Tuple_spliced (thn (h pos pins s σ H _ I hq) fun us s1 ⟨xs,H1,I1,r,z,q⟩=>⟨by rw[←r.length];exact z,?_⟩)
 have hf:H1 s1.heap.objs.size=none:=I1.hok.fresh (ZG _)
 refine⟨.ref s1.heap.objs.size,upd H1 s1.heap.objs.size (.tup xs),I1.laid (t':=s1.toks) (fun b u e=>ZT _ e) (ZG _) ?_,rfl,q _ hf⟩
 exact⟨z,us,r,⟨_,ZU _ rfl,rfl,_,rfl⟩⟩
theorem Fi(h:PA X es t):PE X (.List es pos) (Jhh t):=by
 intro pins s σ H Q I hq
 refine wpAny_List_spliced (thn (h pos pins s σ H _ I hq) fun us s1 ⟨xs,H1,I1,r,z,q⟩=>⟨by rw[←r.length];exact z,?_⟩)
 have hf:H1 s1.heap.objs.size=none:=I1.hok.fresh (ZG _)
 refine⟨.ref s1.heap.objs.size,upd H1 s1.heap.objs.size (.lst xs),I1.laid (t':=s1.toks) (fun b u e=>ZT _ e) (ZG _) ?_,rfl,q _ hf⟩
 exact⟨z,us,0,r,ZU _ rfl⟩
end
abbrev Sp:=List V→Hp→VK→XK→Prop
abbrev CXT:=List Env→Hp→Shared→XK→Value→Shared→Prop
structure Env0(P:Program)(w:World)(K:W.Frag)(mg:Str→Option Value)(base:Heap)(A:Around)(outer:List Env)(s:Shared)(H:Hp):Prop where
 frames:A.frames=some outer
 mod:Mod K mg base
 bs:∀b o,base.get? b=some o→s.heap.get? b=some o∧H b=none
 bsz:base.objs.size≤s.heap.objs.size
 funs:s.heap.FunFrames base outer
 frf:∀b∈frs outer,H b=none
 hok:HOk P w H s.heap
 bare:AllBare s.gens
def CE(outer:List Env)(P:Program)(w:World)(H:Hp)(s:Shared)(Q:VK)(u:Value)(s':Shared):Prop :=
 ∃v H',s'.os=s.os∧AllBare s'.gens∧Un (frs outer) [] H H' s.heap s'.heap∧HOk P w H' s'.heap∧RelV v u∧Q v H'
def CR(CX:CXT)(outer:List Env)(P:Program)(w:World)(H:Hp)(s:Shared)(Q:VK)(E:XK)(r:Result)(s':Shared):Prop :=
 match r with
 | .ok (.ret u)=>CE outer P w H s Q u s'
 | .ok _=>False
 | .error e=>CX outer H s E e s'
structure FnOk(P:Program)(w:World)(K:W.Frag)(mg:Str→Option Value)(base:Heap)(CX:CXT)(k:Nat)(f:Addr)(fd:FuncData)(ps:List Str)(sp:Sp):Prop where
 len:∀vs H Q E,sp vs H Q E→vs.length=ps.length
 run:∀(A:Around)(outer:List Env)(s:Shared)(H:Hp)(args:Args)(us:List Value)(vs:List V)(Q:VK)(E:XK),Room k A→Env0 P w K mg base A outer s H→BindsTo s fd args (ps.zip us)→Vals vs us→sp vs H Q E →
  codeAny (model P w) A (.call (.ref f) args) (CR CX outer P w H s Q E) s
theorem FnOk.mono{P:Program}{w:World}{K:W.Frag}{mg:Str→Option Value}{base:Heap}{CX:CXT}{j k:Nat}{f:Addr}{fd:FuncData}{ps:List Str}{sp:Sp}(F:FnOk P w K mg base CX j f fd ps sp)(h:j≤k) :
 FnOk P w K mg base CX k f fd ps sp:=⟨F.len,fun A outer s H args us vs Q E hr=>F.run A outer s H args us vs Q E (hr.mono h)⟩
theorem Env0.make{P:Program}{w:World}{K:W.Frag}{mg:Str→Option Value}{base:Heap}{A:Around}{outer:List Env}{s:Shared}{H:Hp}(e:Env0 P w K mg base A outer s H)(C:Addr)(us:List Value)(kw:List (Str×Value)) :
 Env0 P w K mg base (A.under (.builtin "type.__call__" ⟨.ref C::us,kw⟩)) outer s H:=⟨by first|exact e.frames|(simpa [Around.under,Code.envs,Code.isFrame,pushEnvs] using e.frames),e.mod,e.bs,e.bsz,e.funs,e.frf,e.hok,e.bare⟩
section
variable {X:Cx}{pins:List (Addr×Obj)}{σ:St}{H:Hp}{s s':Shared}
theorem Inv.env0(I:Inv X pins σ H s):Env0 X.prog X.w X.K X.mg X.base X.A X.stack s H :=
 ⟨I.ok.frames,I.ok.mod,I.bs,Nat.le_trans I.ok.bsz I.sz,I.stack,I.stkFree,I.hok,I.bare⟩
theorem Inv.after{Q:VK}{u:Value}(I:Inv X pins σ H s)(h:CE X.stack X.prog X.w H s Q u s'):EP X pins σ Q u s':=by
 obtain⟨v,H',os,bare,un,hok,r,q⟩:=h
 obtain⟨hh,g,d,t,os'⟩:=s'
 obtain rfl:os'=s.os:=os
 exact⟨v,H',I.call (h':=hh) (g':=g) (d':=d) (t':=t) (ch:=[]) un hok bare (fun b z=>absurd z (by simp)),r,q⟩
end
def Jel(sp:Sp)(dvs:List V)(E:XK)(t:TA):TE:=fun σ H Q=>t σ H fun vs H1=>sp (vs++dvs) H1 Q E
def Wo(C:Addr)(m:Str)(sp:Sp)(dvs:List V)(E:XK)(ta:TE)(t:TA):TE:=fun σ H Q=>ta σ H fun x H1=>∃a dx fs,x=.ref a∧H1 a=some (.ins C dx fs)∧fs.lookup m=none ∧
 t σ H1 fun vs H2=>sp (x::(vs++dvs)) H2 Q E
def Oa(C:Addr)(sp:Sp)(dvs:List V)(E:XK)(t:TA):TE:=fun σ H Q=>t σ H fun vs H1=>∀x dx,H1 x=none→H1 dx=none→dx≠x →
 sp (.ref x::(vs++dvs)) (upd (upd H1 dx (.own x)) x (.ins C dx [])) (fun v H2=>v=.non∧Q (.ref x) H2) E
def Binds(K:W.Frag)(fd:FuncData)(ps:List Str)(ds:List Value):Prop :=
 ∀(s:Shared)(us:List Value),K.In s.heap→(us++ds).length=ps.length→BindsTo s fd ⟨us,[]⟩ (ps.zip (us++ds))
theorem Binds.all{K:W.Frag}{fd:FuncData}{ps:List Str}(h:∀us:List Value,us.length=ps.length→bindArgs fd ⟨us,[]⟩=pure (ps.zip us)):Binds K fd ps []:=fun s us _ hl=>by
 rw[List.append_nil] at hl ⊢
 exact .of_eq (h us hl)
def Fn(CX:CXT)(X:Cx)(E:XK):Prop:=∀(pins:List (Addr×Obj))(σ:St)(H:Hp)(s:Shared)(e:Value)(s':Shared),Inv X pins σ H s→CX X.stack H s E e s'→X.xe e s'
section
variable {X:Cx}{CX:CXT}{k:Nat}{f C:Addr}{fd:FuncData}{ps:List Str}{sp:Sp}{dvs:List V}{ds:List Value}{E:XK}{x m:Str}{p pos apos:Pos}{e o:Expr}{es:List Expr}{ta:TE}{t:TA}
theorem Vn{pins:List (Addr×Obj)}{σ:St}{H:Hp}{s:Shared}{Q:VK}{us:List Value}{vs:List V}(F:FnOk X.prog X.w X.K X.mg X.base CX k f fd ps sp)(hr:Room k X.A)(hb:Binds X.K fd ps ds)(hd:Vals dvs ds)(hx:Fn CX X E)(I:Inv X pins σ H s)(r:Vals vs us)(h:sp (vs++dvs) H Q E):wpAny (model X.prog X.w) X.A (call (.ref f) us) (EP X pins σ Q) X.xe s:=by
 have r2:Vals (vs++dvs) (us++ds):=r.append hd
 have hl:(us++ds).length=ps.length:=by rw[←r2.length];exact F.len _ _ _ _ h
 refine wpAny_call (codeAny_mono (F.run X.A X.stack s H ⟨us,[]⟩ (us++ds) (vs++dvs) Q E hr I.env0 (hb s us I.kIn hl) r2 h) fun r s' hq=>?_)
 cases r with
 | error e=>exact hx pins σ H s e s' I hq
 | ok fl =>
   cases fl with
   | ret u=>exact I.after hq
   | next=>exact False.elim hq
   | brk=>exact False.elim hq
   | cont=>exact False.elim hq
theorem Bw(F:FnOk X.prog X.w X.K X.mg X.base CX k f fd ps sp)(hr:Room k X.A)(hg:Gl X x)(hm:X.mg x=some (.ref f))(hk:W.keepIn X.K (.ref f)=true)(hb:Binds X.K fd ps ds)(hd:Vals dvs ds)(hx:Fn CX X E)(ha:PA X (e::es) t)(hdb:(x==("__debug__":Str))=false:=by decide)(he:starEach (e::es) X.env=(false,eval e X.env)::starEach es X.env:=by rfl)(hpl:(backTo pos (starEach es X.env)).any (·.1)=false:=by rfl) :
 PE X (.Call (.Name x p) (e::es) [] pos) (Jel sp dvs E t):=by
 intro pins s σ H Q I h
 refine wpAny_Call_Name_kw (Gp I hg hm ?_ hdb)
 refine W.callWith_K (h₀:=X.base) I.ok.mod.kin hk (thn (ha pos pins s σ H _ I h) fun us s1 ⟨vs,H1,I1,r,q⟩=>⟨I1.kIn,?_⟩) he hpl
 exact Vn F hr hb hd hx I1 r q
theorem Ap{pl:Sem Bool}(he:PE X o ta)(c:Cls X.K C)(hm:Jcb X.K C m f)(F:FnOk X.prog X.w X.K X.mg X.base CX k f fd ps sp)(hr:Room k X.A)(hb:Binds X.K fd ps ds)(hd:Vals dvs ds)(hx:Fn CX X E)(ha:PA X (e::es) t)(hst:starEach (e::es) X.env=(false,eval e X.env)::starEach es X.env:=by rfl)(hpl:(backTo pos (starEach es X.env)).any (·.1)=false:=by rfl)(ht:eval (.Call (.Attribute o m apos) (e::es) [] pos) X.env=(do
  let ov ←eval o X.env
  standAt apos.atName
  let(f,first) ←holding [ov] (getMethod ov m pl)
  callWith pos f first (backTo pos (starEach (e::es) X.env)) (backToKw pos (keywordEach [] X.env))):=by rfl) :
 PE X (.Call (.Attribute o m apos) (e::es) [] pos) (Wo C m sp dvs E ta t):=by
 intro pins s σ H Q I h
 refine W.methodCall_KW (pl:=pl) (thn (he pins s σ H _ I h) fun u s1 ⟨x,H1,I1,rx,a,dx,fs,ex,ea,l,q⟩=>?_) ht
 subst ex
 obtain rfl:u=Value.ref a:=rx
 refine M7 I1 ea c hm l ?_
 refine W.callWith_K (first:=[.ref a]) (h₀:=X.base) I.ok.mod.kin hm.kp (thn (ha pos pins s1 σ H1 _ I1 q) fun us s2 ⟨vs,H2,I2,r,q2⟩=>⟨I2.kIn,?_⟩) hst hpl
 exact Vn (us:=.ref a::us) (vs:=.ref a::vs) F hr hb hd hx I2 (.cons rfl r) q2
theorem Cg{pl:Sem Bool}(he:PE X o ta)(c:Cls X.K C)(hm:Jcb X.K C m f)(F:FnOk X.prog X.w X.K X.mg X.base CX k f fd ps sp)(hr:Room k X.A)(hb:Binds X.K fd ps ds)(hd:Vals dvs ds)(hx:Fn CX X E)(ht:eval (.Call (.Attribute o m apos) [] [] pos) X.env=(do
  let ov ←eval o X.env
  standAt apos.atName
  let(f,first) ←holding [ov] (getMethod ov m pl)
  callWith pos f first (backTo pos (starEach [] X.env)) (backToKw pos (keywordEach [] X.env))):=by rfl) :
 PE X (.Call (.Attribute o m apos) [] [] pos) (Wo C m sp dvs E ta Jo):=by
 intro pins s σ H Q I h
 refine W.methodCall_KW (pl:=pl) (thn (he pins s σ H _ I h) fun u s1 ⟨x,H1,I1,rx,a,dx,fs,ex,ea,l,q⟩=>?_) ht
 subst ex
 obtain rfl:u=Value.ref a:=rx
 refine M7 I1 ea c hm l ?_
 exact W.callWith_K0 (first:=[.ref a]) I1.kIn hm.kp (Vn (us:=[.ref a]) (vs:=[.ref a]) F hr hb hd hx I1 (.cons rfl .nil) q)
structure Mk(K:W.Frag)(C f:Addr):Prop where
 makes:W.makesIn K C=true
 init:W.findIn K (.ref C) "__init__"=some (some (.ref f))
 fn:W.isFn K (.ref f)=true
 kp:W.keepIn K (.ref C)=true
theorem Tb{pins:List (Addr×Obj)}{σ:St}{H:Hp}{s:Shared}{Q:VK}{us:List Value}{vs:List V}(M:Mk X.K C f)(F:FnOk X.prog X.w X.K X.mg X.base CX k f fd ps sp)(hr:Room (k+1) X.A)(hb:Binds X.K fd ps ds)(hd:Vals dvs ds)(hx:Fn CX X E)(I:Inv X pins σ H s)(r:Vals vs us)(h:∀x dx,H x=none→H dx=none→dx≠x→sp (.ref x::(vs++dvs)) (upd (upd H dx (.own x)) x (.ins C dx [])) (fun v H2=>v=.non∧Q (.ref x) H2) E) :
 wpAny (model X.prog X.w) X.A (call (.ref C) us) (EP X pins σ Q) X.xe s:=by
 have hq:=h (s.heap.objs.size+1) s.heap.objs.size (I.hok.fresh (Nat.le_succ _)) (I.hok.fresh (ZG _)) (Nat.ne_of_lt (Nat.lt_succ_self _))
 have I2:=Inv.made (C:=C) I
 have r2:Vals (V.ref (s.heap.objs.size+1)::(vs++dvs)) (Value.ref (s.heap.objs.size+1)::(us++ds)):=.cons rfl (r.append hd)
 have hl:(Value.ref (s.heap.objs.size+1)::us++ds).length=ps.length:=by
  have e:=r2.length
  rw[F.len _ _ _ _ hq] at e
  exact e.symm
 refine wpAny_call (Jbl (f:=f) I.kIn M.makes M.init (beq_iff_eq.mp M.fn) (codeAny_mono (F.run _ X.stack _ _ ⟨Value.ref (s.heap.objs.size+1)::us,[]⟩ (Value.ref (s.heap.objs.size+1)::(us++ds)) _ _ E (hr.make C us [])
  (I2.env0.make C us []) (hb _ (Value.ref (s.heap.objs.size+1)::us) I2.kIn hl) r2 hq) fun r s' hq'=>?_))
 cases r with
 | error e=>exact hx pins σ _ _ e s' I2 hq'
 | ok fl =>
   cases fl with
   | ret u =>
     obtain⟨v,H',I3,rv,ev,q3⟩:=I2.after hq'
     subst ev
     exact⟨rv,⟨V.ref (s.heap.objs.size+1),H',I3,rfl,q3⟩⟩
   | next=>exact False.elim hq'
   | brk=>exact False.elim hq'
   | cont=>exact False.elim hq'
theorem Qr(M:Mk X.K C f)(F:FnOk X.prog X.w X.K X.mg X.base CX k f fd ps sp)(hr:Room (k+1) X.A)(hg:Gl X x)(hm:X.mg x=some (.ref C))(hb:Binds X.K fd ps ds)(hd:Vals dvs ds)(hx:Fn CX X E)(ha:PA X (e::es) t)(hdb:(x==("__debug__":Str))=false:=by decide)(he:starEach (e::es) X.env=(false,eval e X.env)::starEach es X.env:=by rfl)(hpl:(backTo pos (starEach es X.env)).any (·.1)=false:=by rfl) :
 PE X (.Call (.Name x p) (e::es) [] pos) (Oa C sp dvs E t):=by
 intro pins s σ H Q I h
 refine wpAny_Call_Name_kw (Gp I hg hm ?_ hdb)
 refine W.callWith_K (h₀:=X.base) I.ok.mod.kin M.kp (thn (ha pos pins s σ H _ I h) fun us s1 ⟨vs,H1,I1,r,q⟩=>⟨I1.kIn,?_⟩) he hpl
 exact Tb M F hr hb hd hx I1 r q
theorem Jar(M:Mk X.K C f)(F:FnOk X.prog X.w X.K X.mg X.base CX k f fd ps sp)(hr:Room (k+1) X.A)(hg:Gl X x)(hm:X.mg x=some (.ref C))(hb:Binds X.K fd ps ds)(hd:Vals dvs ds)(hx:Fn CX X E)(hdb:(x==("__debug__":Str))=false:=by decide):PE X (.Call (.Name x p) [] [] pos) (Oa C sp dvs E Jo):=by
 intro pins s σ H Q I h
 refine wpAny_Call_Name_kw (Gp I hg hm ?_ hdb)
 exact W.callWith_K0 I.kIn M.kp (Tb (us:=[]) M F hr hb hd hx I .nil h)
end
section
variable {X:Cx}{CX:CXT}{k:Nat}{f C:Addr}{fd:FuncData}{ps ks:List Str}{sp:Sp}{E:XK}{x m:Str}{p pos apos kpos:Pos}{e o:Expr}{es:List Expr}{kws:List Keyword}{te ta:TE}{t tk:TA}{nm:Option Str}
variable {g:List Value→List Value→List Value}{gV:List V→List V→List V}
end
structure Ao(N P:List Str)(sc:Scope):Prop where
 kind:sc.kind=.function:=by rfl
 co:sc.isCoroutine=false:=by rfl
 gen:sc.isGenerator=false:=by rfl
 nd:N.Nodup:=by decide +kernel
 pre:N.take P.length=P:=by rfl
 par:∀x∈P,sc.names.lookup x=some .local∨sc.names.lookup x=some .cell:=by decide +kernel
 nofree:∀y∈sc.names,y.2≠.free:=by decide +kernel
theorem Pb{kindOf:Str→Option NameKind}{x:Str}:∀{binds:List (Str×Value)} {m:Str→Option Value},(∀v,(x,v)∉binds)→bindL kindOf binds m x=m x
 | [],_,_=>rfl
 | (n,v)::r,m,h=>by
   unfold bindL
   rw[Pb fun w hw=>h w (ZD _ hw)]
   split
   ·have:x≠n:=by rintro rfl;exact h v ZL
    simp[this]
   ·rfl
theorem Pd{kindOf:Str→Option NameKind}{x:Str}:∀{binds:List (Str×Value)} {m:Str→Option Value},(∀v,(x,v)∉binds)→bindC kindOf binds m x=m x
 | [],_,_=>rfl
 | (n,v)::r,m,h=>by
   unfold bindC
   rw[Pd fun w hw=>h w (ZD _ hw)]
   split
   ·rfl
   ·have:x≠n:=by rintro rfl;exact h v ZL
    simp[this]
theorem Pc{kindOf:Str→Option NameKind}{x:Str}{v:Value}:∀{P:List Str} {vs:List Value} {i:Nat} {m:Str→Option Value},P.Nodup→P[i]?=some x→vs[i]?=some v→kindOf x=some .local →
 bindL kindOf (P.zip vs) m x=some v
 | [],_,_,_,_,h,_,_=>by simp at h
 | _::_,[],_,_,_,_,h,_=>by simp at h
 | p::P,w::vs,0,m,nd,h1,h2,hk=>by
   simp at h1 h2;subst h1;subst h2
   show bindL kindOf ((p,w)::P.zip vs) m p=_
   unfold bindL
   rw[Pb fun v hv=>(List.nodup_cons.mp nd).1 (List.of_mem_zip hv).1,if_pos hk]
   simp
 | p::P,w::vs,i+1,m,nd,h1,h2,hk=>by
   show bindL kindOf ((p,w)::P.zip vs) m x=_
   unfold bindL
   exact Pc (i:=i) (List.nodup_cons.mp nd).2 (by simpa using h1) (by simpa using h2) hk
theorem Pe{kindOf:Str→Option NameKind}{x:Str}{v:Value}:∀{P:List Str} {vs:List Value} {i:Nat} {m:Str→Option Value},P.Nodup→P[i]?=some x→vs[i]?=some v→kindOf x≠some .local →
 bindC kindOf (P.zip vs) m x=some v
 | [],_,_,_,_,h,_,_=>by simp at h
 | _::_,[],_,_,_,_,h,_=>by simp at h
 | p::P,w::vs,0,m,nd,h1,h2,hk=>by
   simp at h1 h2;subst h1;subst h2
   show bindC kindOf ((p,w)::P.zip vs) m p=_
   unfold bindC
   rw[Pd fun v hv=>(List.nodup_cons.mp nd).1 (List.of_mem_zip hv).1,if_neg hk]
   simp
 | p::P,w::vs,i+1,m,nd,h1,h2,hk=>by
   show bindC kindOf ((p,w)::P.zip vs) m x=_
   unfold bindC
   exact Pe (i:=i) (List.nodup_cons.mp nd).2 (by simpa using h1) (by simpa using h2) hk
def start(N:List Str)(vs:List V):St:=vs.map some++List.replicate (N.length-vs.length) none
def Ke(CX:CXT)(P:Program)(w:World)(K:W.Frag)(mg:Str→Option Value)(base:Heap)(N:List Str)(qual:Str)(scope:Scope)(f:Addr)(cd:Value)(A:Around)(outer:List Env)(s:Shared)(H:Hp)(E:XK):Cx where
 prog:=P
 w:=w
 K:=K
 mg:=mg
 base:=base
 A:=A.deeper (envOfC qual scope s.heap.objs.size f cd)
 N:=N
 s₀:=s
 H₀:=H
 env:=envOfC qual scope s.heap.objs.size f cd
 outer:=outer
 stack:=envOfC qual scope s.heap.objs.size f cd::outer
 ex:=[]
 calm:=true
 fn:=fun _=>true
 pn:=[]
 xe:=fun e s'=>wpAny (model P w) (A.deeper (envOfC qual scope s.heap.objs.size f cd)) (leaving (envOfC qual scope s.heap.objs.size f cd) e) (fun _ s''=>CX outer H s E e s'') (fun e' s''=>CX outer H s E e' s'') s'
theorem Ux{sc:Scope}{n:Nat}{x:Str}(h:sc.names.lookup x=some .cell):∃c,(cellsFrom n sc.names []).lookup x=some c:=by
 have q:=W.cellsFrom_some sc.names n [] (.inl h)
 exact Option.isSome_iff_exists.mp q
theorem Y8{CX:CXT}{P:Program}{w:World}{K:W.Frag}{mg:Str→Option Value}{base:Heap}{N ps:List Str}{qual:Str}{scope:Scope}{f:Addr}{cd:Value}{A:Around}{outer:List Env}{s s1:Shared}{H:Hp}{E:XK}{us:List Value}{vs:List V}(S:Ao N ps scope)(hd:A.handled=none)(e0:Env0 P w K mg base A outer s H)(hl:vs.length=ps.length)(r:Vals vs us)(x:InCallC s s.heap.objs.size (bindL (envOfC qual scope s.heap.objs.size f cd).kindOf (ps.zip us) fun _=>none) (cellsFrom (s.heap.objs.size+1) scope.names []) (bindC (envOfC qual scope s.heap.objs.size f cd).kindOf (ps.zip us) fun _=>none) s1) :
 Inv (Ke CX P w K mg base N qual scope f cd A outer s H E) [] (start N vs) H s1:=by
 have hpl:ps.length≤N.length:=by have:=congrArg List.length S.pre;rw[List.length_take] at this;omega
 obtain⟨h1,tk,rfl,hk⟩:=x.done
 have noA:∀b:Addr,b∉(Ke CX P w K mg base N qual scope f cd A outer s H E).ex:=fun b z=>absurd (show b∈([]:List Addr) from z) (by simp)
 refine⟨⟨e0.mod,S.kind,rfl,rfl,ZG _,fun y z c h1 h2=>?_,fun y hy=>?_,fun y c _ h=>?_,fun _=>hd,Around.frames_deeper e0.frames,.inr ⟨rfl,rfl⟩,fun b z=>absurd z (noA b),e0.bs,e0.bsz,fun b _ _=>noA b,fun b z=>absurd z (noA b),e0.funs,e0.frf⟩,
  rfl,e0.bare,Un.kept hk,⟨_,x.toInCall.ns,fun i y v h1 h2 h3=>?_⟩,fun y c h=>⟨_,x.cell y c h⟩,e0.hok.fresh (ZG _),fun y c h=>?_,fun p hp=>absurd (show p∈([]:List (Addr×Obj)) from hp) (by simp),e0.hok.kept hk,?_⟩
 ·exact name_of_addr x.apart (PySem.mem_of_lookup h1) (PySem.mem_of_lookup h2)
 ·have hy:scope.names.lookup y=some .cell∨scope.names.lookup y=some .free:=hy
  rcases hy with hy|hy
  ·exact Ux hy
  ·exact absurd rfl (S.nofree _ (PySem.mem_of_lookup hy))
 ·exact Nat.le_of_lt (x.above y c (PySem.mem_of_lookup h))
 ·have hi:i<vs.length:=by
   unfold start at h2
   by_cases hi:i<vs.length
   ·exact hi
   ·rw[List.getElem?_append_right (by simpa using hi)] at h2
    rw[List.getElem?_replicate] at h2
    split at h2<;>cases h2
  have ha:vs[i]?=some v:=by
   unfold start at h2
   rw[List.getElem?_append_left (by simpa using hi),ZH] at h2
   cases e:vs[i]? with
   | none=>rw[e] at h2;cases h2
   | some a=>rw[e] at h2;cases h2;rfl
  obtain⟨u,hu,rv⟩:=r.get ha
  have hp:ps[i]?=some y:=by
   rw[←S.pre,List.getElem?_take_of_lt (by omega)];exact h1
  have ndP:ps.Nodup:=by rw[←S.pre];exact S.nd.sublist (List.take_sublist _ _)
  refine⟨u,rv,?_⟩
  rcases S.par y (ZP hp) with k|k
  ·exact .inl ⟨k,Pc ndP hp hu k⟩
  ·obtain⟨c,e⟩:=Ux (n:=s.heap.objs.size+1) k
   refine .inr ⟨.inl k,c,e,?_⟩
   have q:=x.cell y c e
   rw[Pe ndP hp hu (by show scope.names.lookup y≠_;rw[k];decide)] at q
   exact q
 ·exact e0.hok.fresh (Nat.le_of_lt (x.above y c (PySem.mem_of_lookup h)))
 ·unfold start
  show _=N.length
  rw[ZE,ZA,List.length_replicate]
  omega
theorem Jer{CX:CXT}{P:Program}{w:World}{K:W.Frag}{mg:Str→Option Value}{base:Heap}{k:Nat}{f:Addr}{name qual:Str}{params:Arguments}{body:List Stmt}{scope:Scope}{dV kV doc pm cdv ct oc:Value}{an od:Option Addr}{osl:Array (Option Value)}{N ps:List Str}{sp:Sp}(lk:K.lookup f=some ⟨oc,od,.func (W.fnOf name qual params body scope dV kV doc pm an cdv ct),osl⟩)(hcd:W.codeIn K cdv qual=true)(S:Ao N ps scope)(len:∀vs H Q E,sp vs H Q E→vs.length=ps.length)(hbody:∀(A:Around) (outer:List Env) (s:Shared) (H:Hp) (vs:List V) (Q:VK) (E:XK),Room k (A.deeper (envOfC qual scope s.heap.objs.size f cdv))→sp vs H Q E →
  ∃t,PSs (Ke CX P w K mg base N qual scope f cdv A outer s H E) body t∧t { nx:=fun _ H'=>Q .non H',rt:=Q } (start N vs) H) :
 FnOk P w K mg base CX (k+1) f (W.fnOf name qual params body scope dV kV doc pm an cdv ct) ps sp:=by
 refine⟨len,fun A outer s H args us vs Q E hr e0 hb r hsp=>?_⟩
 have hl:=len _ _ _ _ hsp
 have KX:K.In s.heap:=e0.mod.kin.keeps fun b o e=>(e0.bs b o e).1
 have lim:s.heap.NoLimit:=e0.mod.nolimit.keeps fun b o e=>(e0.bs b o e).1
 have hkind:∀y∈ps.zip us,scope.names.lookup y.1=some .local∨(scope.names.lookup y.1=some .cell∧((cellsFrom (s.heap.objs.size+1) scope.names []).lookup y.1).isSome=true):=fun⟨n,v⟩ hy=>by
  rcases S.par n (List.of_mem_zip hy).1 with q|q
  ·exact .inl q
  ·exact .inr ⟨q,W.cellsFrom_some _ _ _ (.inl q)⟩
 refine codeAny_call_function hr.depth (KX _ _ lk) rfl S.co S.gen rfl (W.codeRec_of KX hcd) (hb _ _ _ _ ?_)
 refine wpAny_newFunctionEnv_cells S.kind hkind fun env he s1 x=>?_
 subst he
 refine⟨lim.keeps x.toInCall.keep,codeAny_func ?_⟩
 obtain⟨t,ht,hq⟩:=hbody A outer s H vs Q E (hr.deeper _) hsp
 have I:Inv (Ke CX P w K mg base N qual scope f cdv A outer s H E) [] (start N vs) H s1:=Y8 S hr.hd e0 hl r x
 refine wpAny_mono (ht [] s1 (start N vs) H _ I hq) (fun fl s' hs=>?_) fun e s' hs=>hs
 have fin:∀{σ':St} {H':Hp} {v:V} {u:Value},Inv (Ke CX P w K mg base N qual scope f cdv A outer s H E) [] σ' H' s'→RelV v u→Q v H'→CE outer P w H s Q u s' :=
  fun{σ' H' v u} J rv q=>⟨v,H',J.os,J.bare,J.base,J.hok,rv,q⟩
 cases fl with
 | ret u =>
   obtain⟨v,σ',H',J,rv,q⟩:=hs
   exact fin J rv q
 | next =>
   obtain⟨σ',H',J,q⟩:=hs
   exact fin (v:=V.non) (u:=Value.none) J rfl q
 | brk =>
   obtain⟨_,_,_,q⟩:=hs
   exact False.elim q
 | cont =>
   obtain⟨_,_,_,q⟩:=hs
   exact False.elim q
section
variable {X:Cx}{x:Str}{p pos:Pos}{e:Expr}{es:List Expr}{t:TA}{id T:String}{r:List V→Hp→VK→Prop}
def tCB(r:List V→Hp→VK→Prop)(t:TA):TE:=fun σ H Q=>t σ H fun vs H1=>r vs H1 Q
theorem Bv(hc:Em X (.builtin id) r)(hg:Gl X x)(hm:X.mg x=none)(hv:bootBuiltins x=some (.builtin id))(ha:PA X (e::es) t)(hn:x≠"__name__":=by decide)(hdb:(x==("__debug__":Str))=false:=by decide)(he:starEach (e::es) X.env=(false,eval e X.env)::starEach es X.env:=by rfl)(hpl:(backTo pos (starEach es X.env)).any (·.1)=false:=by rfl):PE X (.Call (.Name x p) (e::es) [] pos) (tCB r t):=by
 intro pins s σ H Q I h
 refine wpAny_Call_Name_kw (Rg I hg hm hv ?_ hn hdb)
 exact PyProof.Rows.callWith_builtin1 (thn (ha pos pins s σ H _ I h) fun us s1 ⟨vs,H1,I1,r1,q1⟩=>hc pins s1 σ H1 vs us Q I1 r1 q1) he hpl
theorem Cu(hc:Em X (.type T) r)(hg:Gl X x)(hm:X.mg x=none)(hv:bootBuiltins x=some (.type T))(ha:PA X (e::es) t)(hn:x≠"__name__":=by decide)(hdb:(x==("__debug__":Str))=false:=by decide)(he:starEach (e::es) X.env=(false,eval e X.env)::starEach es X.env:=by rfl)(hpl:(backTo pos (starEach es X.env)).any (·.1)=false:=by rfl):PE X (.Call (.Name x p) (e::es) [] pos) (tCB r t):=by
 intro pins s σ H Q I h
 refine wpAny_Call_Name_kw (Rg I hg hm hv ?_ hn hdb)
 exact PyProof.Rows.callWith_type1 (thn (ha pos pins s σ H _ I h) fun us s1 ⟨vs,H1,I1,r1,q1⟩=>hc pins s1 σ H1 vs us Q I1 r1 q1) he hpl
end
section
variable {κ:Type}[DecidableEq κ]
def Cw(kvs:List (κ×V))(k:κ):Option V:=(kvs.find? fun kv=>decide (kv.1=k)).map (·.2)
def putK(kvs:List (κ×V))(k:κ)(v:V):List (κ×V) :=
 if(kvs.any fun kv=>decide (kv.1=k))=true then kvs.map (fun kv=>if kv.1=k then(kv.1,v) else kv) else kvs++[(k,v)]
def C4(kvs:List (κ×V))(k:κ):List (κ×V):=kvs.filter fun kv=>decide (kv.1≠k)
theorem Zp{k:κ}:Cw ([]:List (κ×V)) k=none:=rfl
theorem D2{p:κ×V}{r:List (κ×V)}{k:κ}(e:p.1=k):Cw (p::r) k=some p.2:=by simp[Cw,List.find?_cons,e]
theorem B6{p:κ×V}{r:List (κ×V)}{k:κ}(e:¬p.1=k):Cw (p::r) k=Cw r k:=by simp[Cw,List.find?_cons,e]
theorem Fu(k:κ):∀kvs:List (κ×V),(kvs.any fun kv=>decide (kv.1=k))=(Cw kvs k).isSome
 | []=>rfl
 | p::r=>by
   rw[List.any_cons]
   by_cases e:p.1=k
   ·simp only[D2 e,decide_eq_true e,Bool.true_or,Option.isSome_some]
   ·rw[B6 e,decide_eq_false e,Bool.false_or];exact Fu k r
theorem Es(kvs:List (κ×V))(k:κ)(v:V):(putK kvs k v).length≤kvs.length+1:=by
 unfold putK
 split
 ·rw[ZA];omega
 ·rw[ZE,List.length_cons,List.length_nil];omega
theorem Ef{kvs:List (κ×V)}{k:κ}(v:V)(h:Cw kvs k=none):putK kvs k v=kvs++[(k,v)]:=by
 unfold putK
 rw[Fu,h]
 exact if_neg (by decide)
theorem RelO.isSome_eq{o:Option V}{u:Option Value}(r:RelO o u):o.isSome=u.isSome:=by
 cases o with
 | none=>cases u with
   | none=>rfl
   | some _=>exact(show False from r).elim
 | some _=>cases u with
   | none=>exact(show False from r).elim
   | some _=>rfl
theorem RelO.getD{o:Option V}{u:Option Value}{d:V}{d':Value}(r:RelO o u)(rd:RelV d d'):RelV (o.getD d) (u.getD d'):=by
 cases o with
 | none=>cases u with
   | none=>exact rd
   | some _=>exact(show False from r).elim
 | some _=>cases u with
   | none=>exact(show False from r).elim
   | some _=>exact r
theorem KV.val{kvs:List (κ×V)}{vs:List (κ×Value)}(r:KV kvs vs)(k:κ):RelO (Cw kvs k) (valueAt vs k):=by
 unfold KV at r
 induction r with
 | nil=>exact True.intro
 | @cons p q ps qs h t ih =>
   obtain⟨h1,h2⟩:=h
   by_cases e:p.1=k
   ·have e':q.1=k:=h1.symm.trans e
    have b:valueAt (q::qs) k=some q.2:=by simp[valueAt,List.find?_cons,e']
    rw[D2 e,b];exact h2
   ·have e':¬q.1=k:=fun z=>e (h1.trans z)
    have b:valueAt (q::qs) k=valueAt qs k:=by simp[valueAt,List.find?_cons,e']
    rw[B6 e,b];exact ih
theorem KV.any{kvs:List (κ×V)}{vs:List (κ×Value)}(r:KV kvs vs)(k:κ):(kvs.any fun kv=>decide (kv.1=k))=vs.any fun kv=>decide (kv.1=k):=by
 unfold KV at r
 induction r with
 | nil=>rfl
 | cons h t ih=>rw[List.any_cons,List.any_cons,ih,h.1]
theorem KV.repl{kvs:List (κ×V)}{vs:List (κ×Value)}(r:KV kvs vs)(k:κ){y:V}{u:Value}(ry:RelV y u) :
 KV (kvs.map fun kv=>if kv.1=k then(kv.1,y) else kv) (vs.map fun kv=>if kv.1=k then(kv.1,u) else kv):=by
 unfold KV at r ⊢
 induction r with
 | nil=>exact .nil
 | @cons p q ps qs h t ih =>
   rw[List.map_cons,List.map_cons]
   refine .cons ?_ ih
   obtain⟨h1,h2⟩:=h
   by_cases e:p.1=k
   ·rw[if_pos e,if_pos (h1.symm.trans e)];exact⟨h1,ry⟩
   ·rw[if_neg e,if_neg (fun z=>e (h1.trans z))];exact⟨h1,h2⟩
theorem KV.put{kvs:List (κ×V)}{vs:List (κ×Value)}(r:KV kvs vs)(k:κ){y:V}{u:Value}(ry:RelV y u):KV (putK kvs k y) (stored vs k u):=by
 unfold putK stored
 rw[r.any k]
 by_cases e:(vs.any fun kv=>decide (kv.1=k))=true
 ·rw[if_pos e,if_pos e];exact r.repl k ry
 ·rw[if_neg e,if_neg e];exact Paired.snoc r ⟨rfl,ry⟩
theorem KV.drop{kvs:List (κ×V)}{vs:List (κ×Value)}(r:KV kvs vs)(k:κ):KV (C4 kvs k) (without vs k):=by
 unfold KV at r ⊢
 unfold C4 without
 induction r with
 | nil=>exact .nil
 | @cons p q ps qs h t ih =>
   obtain⟨h1,h2⟩:=h
   rw[List.filter_cons,List.filter_cons]
   by_cases e:p.1=k
   ·have a:¬decide (p.1≠k)=true:=by simp[e]
    have b:¬decide (q.1≠k)=true:=by simp[h1.symm.trans e]
    rw[if_neg a,if_neg b];exact ih
   ·have e':¬q.1=k:=fun z=>e (h1.trans z)
    have a:decide (p.1≠k)=true:=by simp[e]
    have b:decide (q.1≠k)=true:=by simp[e']
    rw[if_pos a,if_pos b];exact .cons ⟨h1,h2⟩ ih
theorem KV.length{kvs:List (κ×V)}{vs:List (κ×Value)}(r:KV kvs vs):kvs.length=vs.length:=Paired.length r
theorem Jby(kvs:List (κ×V))(k:κ):(C4 kvs k).length≤kvs.length:=List.length_filter_le _ _
end
theorem Jc{P:Program}{w:World}{k:Key}{u:Value}(r:RelV (kV k) u):(A8 P w).is k u=true:=by
 cases k with
 | inl i=>obtain⟨t,e⟩:=(show ∃t,u=Value.int i t from r);subst e;exact T7 P w i t
 | inr x=>obtain⟨t,e⟩:=(show ∃t,u=Value.str x t from r);subst e;exact T6 P w x t
theorem Ou{P:Program}{w:World}:∀{ks:List Key} {us:List Value},Vals (ks.map kV) us→ItemsAre (A8 P w) ks us
 | [],_,r=>by rw[List.map_nil] at r;cases r;exact .nil
 | k::ks,_,r=>by
   rw[List.map_cons] at r
   cases r with
   | cons h t=>exact .cons (Jc h) (Ou t)
abbrev KT(H:Hp):List (List Key×V)→List (List Key×Addr×Value)→Prop:=Paired fun p q=>p.1=q.1∧H q.2.1=some (.tup (p.1.map kV))∧RelV p.2 q.2.2
theorem KT.val{H:Hp}{kvs:List (List Key×V)}{xs:List (List Key×Addr×Value)}(r:KT H kvs xs)(k:List Key):RelO (Cw kvs k) ((atKey xs k).map (·.2)):=by
 induction r with
 | nil=>exact True.intro
 | @cons p q ps qs h t ih =>
   obtain⟨h1,_,h2⟩:=h
   by_cases e:p.1=k
   ·have e':q.1=k:=h1.symm.trans e
    have b:atKey (q::qs) k=some q.2:=by simp[atKey,List.find?_cons,e']
    rw[D2 e,b];exact h2
   ·have e':¬q.1=k:=fun z=>e (h1.trans z)
    have b:atKey (q::qs) k=atKey qs k:=by simp[atKey,List.find?_cons,e']
    rw[B6 e,b];exact ih
theorem KT.repl{H:Hp}{kvs:List (List Key×V)}{xs:List (List Key×Addr×Value)}(r:KT H kvs xs)(k:List Key){y:V}{u:Value}(ry:RelV y u) :
 KT H (kvs.map fun kv=>if kv.1=k then(kv.1,y) else kv) (xs.map (putAt k u)):=by
 induction r with
 | nil=>exact .nil
 | @cons p q ps qs h t ih =>
   rw[List.map_cons,List.map_cons]
   refine .cons ?_ ih
   obtain⟨h1,h2,h3⟩:=h
   unfold putAt
   by_cases e:p.1=k
   ·rw[if_pos e,if_pos (h1.symm.trans e)];exact⟨h1,h2,ry⟩
   ·rw[if_neg e,if_neg (fun z=>e (h1.trans z))];exact⟨h1,h2,h3⟩
theorem KT.put{H:Hp}{kvs:List (List Key×V)}{xs:List (List Key×Addr×Value)}(r:KT H kvs xs)(k:List Key){b:Addr}{y:V}{u:Value}(hb:H b=some (.tup (k.map kV)))(ry:RelV y u) :
 KT H (putK kvs k y) (storedH xs k b u):=by
 have e:(kvs.any fun kv=>decide (kv.1=k))=(atKey xs k).isSome:=by
  rw[Fu,(r.val k).isSome_eq,Option.isSome_map]
 unfold putK storedH
 rw[e]
 by_cases q:(atKey xs k).isSome=true
 ·rw[if_pos q,if_pos q];exact r.repl k ry
 ·rw[if_neg q,if_neg q];exact Paired.snoc r ⟨rfl,hb,ry⟩
theorem KT.keeps{H H':Hp}{kvs:List (List Key×V)}{xs:List (List Key×Addr×Value)}(r:KT H kvs xs)(ht:∀b ys,H b=some (.tup ys)→H' b=some (.tup ys)):KT H' kvs xs :=
 Ji3 r fun _ _ z=>⟨z.1,ht _ _ z.2.1,z.2.2⟩
section
variable {P:Program}{w:World}{H:Hp}{h:Heap}{a:Addr}
theorem Jem{u:HO}(ok:HOk P w H h)(e:Rd H a u):ObjOk P w H h a u:=e.ok ok
theorem Ku{kvs:List (Key×V)}(ok:HOk P w H h)(e:Rd H a (.dK kvs)):kvs.length≤sizeLine∧(a==sysModules)=false∧∃vs,KV kvs vs∧h.DictOf (A8 P w) a vs :=
 show ObjOk P w H h a (.dK kvs) from Jem ok e
theorem Ut{kvs:List (Key×V)}(ok:HOk P w H h)(e:H a=some (.dK kvs)):kvs.length≤sizeLine∧(a==sysModules)=false∧∃vs,KV kvs vs∧h.DictOf (A8 P w) a vs:=Ku ok (.inl e)
theorem Fk{ks:List Key}(ok:HOk P w H h)(e:H a=some (.tup (ks.map kV))):(tupleKind (A8 P w)).is h ks a:=by
 obtain⟨_,its,r,o,h1,h2,n,h3⟩:=(show ObjOk P w H h a (.tup (ks.map kV)) from ok a _ e)
 exact⟨o,its.toArray,n,h1,h2,h3,by simpa using Ou r⟩
theorem Jh{kvs:List (List Key×V)}(ok:HOk P w H h)(e:Rd H a (.dT kvs)):kvs.length≤sizeLine∧(a==sysModules)=false ∧
 ∃xs,KT H kvs xs∧h.DictOfH (tupleKind (A8 P w)) a xs:=by
 obtain⟨z,y,xs,r,o,es,ep,h1,h2,h3,h4,h5⟩:=(show ObjOk P w H h a (.dT kvs) from Jem ok e)
 refine⟨z,y,xs,r,o,es,ep,h1,h2,h3,h4,fun x hx=>?_,h5⟩
 have all:∀{l:List (List Key×V)} {m:List (List Key×Addr×Value)},KT H l m→∀x∈m,(tupleKind (A8 P w)).is h x.1 x.2.1:=by
  intro l m q
  induction q with
  | nil=>intro x hx;exact nomatch hx
  | @cons p q ps qs hq t ih =>
    intro x hx
    rcases ZM hx with e|hx
    ·subst e
     exact Fk ok (by rw[←hq.1];exact hq.2.1)
    ·exact ih x hx
 exact all r x hx
theorem Ni{kvs:List (List Key×V)}(ok:HOk P w H h)(e:H a=some (.dT kvs)):kvs.length≤sizeLine∧(a==sysModules)=false ∧
 ∃xs,KT H kvs xs∧h.DictOfH (tupleKind (A8 P w)) a xs:=Jh ok (.inl e)
end
def DGet(H:Hp)(a:Addr)(y:V)(r:Option V):Prop :=
 (∃kvs k,Rd H a (.dK kvs)∧y=kV k∧r=Cw kvs k)∨∃kvs k b,Rd H a (.dT kvs)∧y=.ref b∧H b=some (.tup (k.map kV))∧r=Cw kvs k
def DPut(H:Hp)(a:Addr)(y v:V)(H':Hp):Prop :=
 (∃kvs k,H a=some (.dK kvs)∧y=kV k∧kvs.length<sizeLine∧H'=upd H a (.dK (putK kvs k v))) ∨
 ∃kvs k b,H a=some (.dT kvs)∧y=.ref b∧H b=some (.tup (k.map kV))∧kvs.length<sizeLine∧H'=upd H a (.dT (putK kvs k v))
theorem DGet.k{H:Hp}{a:Addr}{kvs:List (Key×V)}{k:Key}(e:H a=some (.dK kvs)):DGet H a (kV k) (Cw kvs k):=.inl ⟨kvs,k,.inl e,rfl,rfl⟩
theorem DGet.t{H:Hp}{a b:Addr}{kvs:List (List Key×V)}{k:List Key}(e:H a=some (.dT kvs))(eb:H b=some (.tup (k.map kV))):DGet H a (.ref b) (Cw kvs k):=.inr ⟨kvs,k,b,.inl e,rfl,eb,rfl⟩
theorem DPut.k{H:Hp}{a:Addr}{kvs:List (Key×V)}{k:Key}{v:V}(e:H a=some (.dK kvs))(hl:kvs.length<sizeLine):DPut H a (kV k) v (upd H a (.dK (putK kvs k v))):=.inl ⟨kvs,k,e,rfl,hl,rfl⟩
theorem DPut.t{H:Hp}{a b:Addr}{kvs:List (List Key×V)}{k:List Key}{v:V}(e:H a=some (.dT kvs))(eb:H b=some (.tup (k.map kV)))(hl:kvs.length<sizeLine) :
 DPut H a (.ref b) v (upd H a (.dT (putK kvs k v))):=.inr ⟨kvs,k,b,e,rfl,eb,hl,rfl⟩
section
variable {X:Cx}{pins:List (Addr×Obj)}{σ:St}{H:Hp}{s:Shared}{a:Addr}{y v:V}{u r:Value}{o:Option V}{A:Around}{E:Value→Shared→Prop}
theorem Inv.big(I:Inv X pins σ H s):sysModules<s.heap.objs.size:=by
 have h:mainGlobals<s.heap.objs.size:=(I.mod.glob.keeps I.bk).lt
 exact Nat.lt_trans (by decide) h
theorem O8{Q:Value→Shared→Prop}(hu:A.units+1<cLine)(I:Inv X pins σ H s)(g:DGet H a y (some v))(ry:RelV y u)(h:∀w' s',Inv X pins σ H s'→RelV v w'→Q w' s') :
 wpAny (model X.prog X.w) A (getItem (.ref a) u) Q E s:=by
 rcases g with⟨kvs,k,e,ey,l⟩|⟨kvs,k,b,e,ey,eb,l⟩
 ·subst ey
  obtain⟨z,hd,vs,rel,dd⟩:=Ku I.hok e
  obtain⟨w',hw,rw'⟩:=Ji2 (v:=v) (o:=valueAt vs k) (by rw[l];exact rel.val k)
  exact wpAny_getItem_of (Jc ry) dd.mapOf hw (h w' _ (I.tok _) rw')
 ·subst ey
  cases (show u=Value.ref b from ry)
  obtain⟨z,hd,xs,rel,dd⟩:=Jh I.hok e
  obtain⟨w',hw,rw'⟩:=Ji2 (v:=v) (o:=(atKey xs k).map (·.2)) (by rw[l];exact rel.val k)
  obtain⟨p,hp,hp2⟩:=Option.map_eq_some_iff.mp hw
  refine wpAny_getItem_heap (tupleKind_room_in1 hu) (Fk I.hok eb) dd hp ?_
  rw[hp2]
  exact h w' _ (I.tok _) rw'
theorem Jij{Q:Value→Shared→Prop}(hu:A.units+1<cLine)(I:Inv X pins σ H s)(g:DGet H a y o)(ry:RelV y u)(h:∀s',Inv X pins σ H s'→Q (.bool o.isSome) s') :
 wpAny (model X.prog X.w) A (compareOp .In u (.ref a)) Q E s:=by
 rcases g with⟨kvs,k,e,ey,l⟩|⟨kvs,k,b,e,ey,eb,l⟩
 ·subst ey
  obtain⟨z,hd,vs,rel,dd⟩:=Ku I.hok e
  refine wpAny_in_of (Jc ry) hd dd.mapOf ?_
  rw[←(rel.val k).isSome_eq,←l]
  exact h _ (I.tok _)
 ·subst ey
  cases (show u=Value.ref b from ry)
  obtain⟨z,hd,xs,rel,dd⟩:=Jh I.hok e
  refine wpAny_in_heap (tupleKind_room_in1 hu) (Fk I.hok eb) hd dd ?_
  have q:=(rel.val k).isSome_eq
  rw[Option.isSome_map] at q
  rw[←q,←l]
  exact h _ (I.tok _)
theorem Jd9{Q:Value→Shared→Prop}(hu:A.units+1<cLine)(I:Inv X pins σ H s)(g:DGet H a y o)(ry:RelV y u)(h:∀s',Inv X pins σ H s'→Q (.bool (!o.isSome)) s') :
 wpAny (model X.prog X.w) A (compareOp .NotIn u (.ref a)) Q E s:=by
 rcases g with⟨kvs,k,e,ey,l⟩|⟨kvs,k,b,e,ey,eb,l⟩
 ·subst ey
  obtain⟨z,hd,vs,rel,dd⟩:=Ku I.hok e
  refine wpAny_notIn_of (Jc ry) hd dd.mapOf ?_
  rw[←(rel.val k).isSome_eq,←l]
  exact h _ (I.tok _)
 ·subst ey
  cases (show u=Value.ref b from ry)
  obtain⟨z,hd,xs,rel,dd⟩:=Jh I.hok e
  refine wpAny_notIn_heap (tupleKind_room_in1 hu) (Fk I.hok eb) hd dd ?_
  have q:=(rel.val k).isSome_eq
  rw[Option.isSome_map] at q
  rw[←q,←l]
  exact h _ (I.tok _)
theorem Gw{h':Heap}{t':Nat}{ob:HO}(I:Inv X pins σ H s)(mu:Mut (H a))(hs:Heap.SameBut a s.heap h')(he:∃q,h'.get? a=some q)(new:ObjOk X.prog X.w (upd H a ob) h' a ob) :
 Inv X pins σ (upd H a ob) { s with heap:=h',toks:=t' } :=
 I.write (x:=a) (e:=a) mu (.inl rfl) (fun b q hb z=>(hs.2 b hb).trans z) he new
theorem V9{P:Program}{w:World}{H':Hp}{h':Heap}{kvs:List (Key×V)}{vs:List (Key×Value)}(z:kvs.length≤sizeLine)(hd:(a==sysModules)=false)(rel:KV kvs vs)(dd:h'.DictOf (A8 P w) a vs) :
 ObjOk P w H' h' a (.dK kvs):=⟨z,hd,vs,rel,dd⟩
theorem O7{H':Hp}{Q:Unit→Shared→Prop}(hu:A.units+1<cLine)(I:Inv X pins σ H s)(g:DPut H a y v H')(ry:RelV y u)(rv:RelV v r)(h:∀s',Inv X pins σ H' s'→Q () s') :
 wpAny (model X.prog X.w) A (setItem (.ref a) u r) Q E s:=by
 rcases g with⟨kvs,k,e,ey,l,eH⟩|⟨kvs,k,b,e,ey,eb,l,eH⟩
 ·subst ey eH
  obtain⟨z,hd,vs,rel,dd⟩:=Ut I.hok e
  have hz:vs.length≤sizeLine:=by rw[←rel.length];exact z
  have hl:(putK kvs k v).length≤sizeLine:=by have:=Es kvs k v;omega
  refine wpAny_setItem_pairs (hsz:=hz) (Jc ry) dd fun h' dd' hs=>h _ ?_
  have he:∃q,h'.get? a=some q:=let⟨q,_,_,hq,_⟩:=dd';⟨q,hq⟩
  exact Gw I (by rw[e];exact True.intro) hs he (V9 hl hd (rel.put k rv) dd')
 ·subst ey eH
  cases (show u=Value.ref b from ry)
  obtain⟨z,hd,xs,rel,dd⟩:=Ni I.hok e
  have hz:xs.length≤sizeLine:=by rw[←Paired.length rel];exact z
  have hl:(putK kvs k v).length≤sizeLine:=by have:=Es kvs k v;omega
  refine wpAny_setItem_heap (hsz:=hz) (tupleKind_room_in1 hu) (Fk I.hok eb) dd fun h' dd' hs=>h _ ?_
  obtain⟨q,es,ep,hq,h2,h3,h4,_,h5⟩:=dd'
  refine Gw I (by rw[e];exact True.intro) hs ⟨q,hq⟩ ⟨hl,hd,_,(rel.put k eb rv).keeps fun c ys ec=>?_,q,es,ep,hq,h2,h3,h4,h5⟩
  rw[Ad (L9 ec e (fun z=>nomatch z))]
  exact ec
end
section
variable {X:Cx}{pins:List (Addr×Obj)}{σ:St}{H:Hp}{s:Shared}{a:Addr}{kvs:List (Key×V)}{k:Key}{u:Value}{A:Around}{E:Value→Shared→Prop}
theorem Jg2{v:V}{more:List Value}{Q:Value→Shared→Prop}(I:Inv X pins σ H s)(e:H a=some (.dK kvs))(ry:RelV (kV k) u)(l:Cw kvs k=some v)(hm:more=[]∨∃x,more=[x])(h:∀w' s',Inv X pins σ (upd H a (.dK (C4 kvs k))) s'→RelV v w'→Q w' s'):wpAny (model X.prog X.w) A (call (.builtin "dict.pop") (.ref a::u::more)) Q E s:=by
 obtain⟨z,hd,vs,rel,dd⟩:=Ut I.hok e
 obtain⟨w',hw,rw'⟩:=Ji2 (v:=v) (o:=valueAt vs k) (by rw[←l];exact rel.val k)
 have hp:(keyPart u).isSome=true:=by
  cases k with
  | inl i=>obtain⟨t,q⟩:=(show ∃t,u=Value.int i t from ry);subst q;rfl
  | inr x=>obtain⟨t,q⟩:=(show ∃t,u=Value.str x t from ry);subst q;rfl
 have ha:argsOk "dict.pop" ⟨.ref a::u::more,[]⟩:=by
  rcases hm with q|⟨x,q⟩
  ·subst q;exact PySem.F.args_dict_pop_2 _ _
  ·subst q;exact PySem.F.args_dict_pop_3 _ _ _
 refine call_meetsIn PySem.F.slot_dict_pop dd.typeIs PySem.F.entry_dict_pop ha (meets_dict_pop_there (A8 X.prog X.w) a (Jc ry) more hm hp)
  ⟨vs,w',dd,by rw[←rel.length];exact z,hw,fun h' dd' hs=>h w' _ ?_ rw'⟩
 have he:∃q,h'.get? a=some q:=let⟨q,_,_,hq,_⟩:=dd';⟨q,hq⟩
 exact Gw I (by rw[e];exact True.intro) hs he (V9 (Nat.le_trans (Jby kvs k) z) hd (rel.drop k) dd')
end
def Jg9(i:Expr):Prop:=∀ov iv,subscripted i false ov iv=operate [ov,iv] (getItem ov iv)
theorem Jcg{prog:Program}{w:World}{A:Around}{E:Value→Shared→Prop}{s:Shared}{env:Env}{value slice:Expr}{pos:Pos}{T id:String}{Q:Value→Shared→Prop}(hl:typeLookup (.type T) "__getitem__"=pure (some (.builtin id)))(hs:Jg9 slice)(h:wpAny (model prog w) A (eval value env) (fun o s₁=>wpAny (model prog w) A (eval slice env) (fun i s₂=>s₂.TypeIs o T∧wpAny (model prog w) A (getItem o i) Q E s₂) E s₁) E s) :
 wpAny (model prog w) A (eval (.Subscript value slice pos) env) Q E s:=by
 refine Subscript_ (wpAny_mono h (fun o s₁ h₁=>wpAny_mono h₁ (fun i s₂ h₂=>?_) fun _ _ x=>x) fun _ _ x=>x)
 obtain⟨hT,h₂⟩:=h₂
 unfold subscriptTail
 refine ZR ?_
 rw[getitemInPython_of_ne hT.not_modules]
 refine ZR (wpAny_specialOf hT hl ?_)
 have fin:wpAny (model prog w) A (subscripted slice false o i) (fun r s₃=>wpAny (model prog w) A (letTemporaryGo value o r >>= fun _=>pure r) Q E s₃) E s₂:=by
  rw[hs o i]
  exact wpAny_operating (wpAny_mono h₂ (fun r s₃ h₃=>ZR (wpAny_letTemporaryGo (ZS h₃))) fun _ _ x=>x)
 first
  | exact ZS (ZR fin)
  | exact ZR (ZS (ZR fin))
  | exact ZR fin
theorem Uv{X:Cx}{pins:List (Addr×Obj)}{σ:St}{H:Hp}{s:Shared}{a:Addr}{y:V}{o:Option V}(I:Inv X pins σ H s)(g:DGet H a y o):s.TypeIs (.ref a) "dict":=by
 rcases g with⟨kvs,k,e,_,_⟩|⟨kvs,k,b,e,_,_,_⟩
 ·obtain⟨_,_,vs,_,dd⟩:=Ku I.hok e
  exact dd.typeIs
 ·obtain⟨_,_,xs,_,dd⟩:=Jh I.hok e
  exact dd.typeIs
def Ob(td ty:TE):TE:=fun σ H Q=>td σ H fun x H1=>ty σ H1 fun y H2=>∃a v,x=.ref a∧DGet H2 a y (some v)∧Q v H2
def Jhl(ty td:TE):TE:=fun σ H Q=>ty σ H fun y H1=>td σ H1 fun x H2=>∃a o,x=.ref a∧DGet H2 a y o∧Q (.bl o.isSome) H2
def Jcf(ty td:TE):TE:=fun σ H Q=>ty σ H fun y H1=>td σ H1 fun x H2=>∃a o,x=.ref a∧DGet H2 a y o∧Q (.bl (!o.isSome)) H2
def Jgn(td ty tv:TE):TS:=fun D σ H=>tv σ H fun v H1=>td σ H1 fun x H2=>ty σ H2 fun y H3=>∃a H4,x=.ref a∧DPut H3 a y v H4∧D.nx σ H4
def Jgo(td ty tv:TE)(rd:V→V→Hp→VK→Prop):TS:=fun D σ H=>td σ H fun x H1=>ty σ H1 fun y H2=>∃a v,x=.ref a∧DGet H2 a y (some v) ∧
 tv σ H2 fun y2 H3=>rd v y2 H3 fun z H4=>∃H5,DPut H4 a y z H5∧D.nx σ H5
section
variable {X:Cx}{o i e value:Expr}{pos pos' tpos:Pos}{td ty tv:TE}
theorem Be(hu:X.A.units+1<cLine)(ho:PE X o td)(hi:PE X i ty)(hs:Jg9 i:=by exact fun _ _=>rfl):PE X (.Subscript o i pos) (Ob td ty):=by
 intro pins s σ H Q I h
 refine Jcg PySem.F.slot_dict_getitem.lookup hs (thn (ho pins s σ H _ I h) fun u s1 ⟨x,H1,I1,rx,q1⟩=>thn (hi pins s1 σ H1 _ I1 q1) fun iv s2 ⟨y,H2,I2,ry,a,v,ex,g,q2⟩=>?_)
 subst ex
 obtain rfl:u=Value.ref a:=rx
 exact⟨Uv I2 g,O8 hu I2 g ry fun w' s3 I3 rw'=>⟨v,H2,I3,rw',q2⟩⟩
theorem Qt(hu:X.A.units+1<cLine)(hi:PE X i ty)(ho:PE X o td):PC X .In i o (Jhl ty td):=by
 intro pins s σ H Q I h
 refine thn (hi pins s σ H _ I h) fun iv s1 ⟨y,H1,I1,ry,q1⟩=>thn (ho pins s1 σ H1 _ I1 q1) fun u s2 ⟨x,H2,I2,rx,a,ov,ex,g,q2⟩=>?_
 subst ex
 obtain rfl:u=Value.ref a:=rx
 exact Jij hu I2 g ry fun s3 I3=>⟨.bl ov.isSome,H2,I3,rfl,q2⟩
theorem Ec(hu:X.A.units+1<cLine)(hi:PE X i ty)(ho:PE X o td):PC X .NotIn i o (Jcf ty td):=by
 intro pins s σ H Q I h
 refine thn (hi pins s σ H _ I h) fun iv s1 ⟨y,H1,I1,ry,q1⟩=>thn (ho pins s1 σ H1 _ I1 q1) fun u s2 ⟨x,H2,I2,rx,a,ov,ex,g,q2⟩=>?_
 subst ex
 obtain rfl:u=Value.ref a:=rx
 exact Jd9 hu I2 g ry fun s3 I3=>⟨.bl (!ov.isSome),H2,I3,rfl,q2⟩
theorem C5(hu:X.A.units+1<cLine)(ho:PE X o td)(hi:PE X i ty)(hv:PE X value tv)(hs:swapsWith value (some (.Subscript o i pos')) pos.line X.env=pure false) :
 PS X (.Assign [.Subscript o i pos'] value pos) (Jgn td ty tv):=by
 intro pins s σ H D I h
 refine wpAny_Assign_Subscript (thn (hv pins s σ H _ I h) fun r s1 ⟨v,H1,I1,rv,q1⟩=>thn (ho pins s1 σ H1 _ I1 q1) fun u s2 ⟨x,H2,I2,rx,q2⟩=>thn (hi pins s2 σ H2 _ I2 q2) fun iv s3 ⟨y,H3,I3,ry,a,H4,ex,g,q3⟩=>?_) hs
 subst ex
 obtain rfl:u=Value.ref a:=rx
 exact O7 hu I3 g ry rv fun s4 I4=>⟨σ,H4,I4,q3⟩
theorem Iq{op:Operator}{rd:V→V→Hp→VK→Prop}(hu:X.A.units+1<cLine)(ho:PE X o td)(hi:PE X i ty)(hv:PE X value tv)(hop:Jej X op rd)(ha:∀ov iv new,augStore i ov iv new=(do holding [new,ov,iv] (setItem ov iv new);release [new,ov,iv] [];pure .next)):PS X (.AugAssign (.Subscript o i tpos) op value pos) (Jgo td ty tv rd):=by
 intro pins s σ H D I h
 refine wpAny_AugAssign_SubscriptAny (thn (ho pins s σ H _ I h) fun u s1 ⟨x,H1,I1,rx,q1⟩=>thn (hi pins s1 σ H1 _ I1 q1) fun iv s2 ⟨y,H2,I2,ry,a,v,ex,g,q2⟩=>?_) ha
 subst ex
 obtain rfl:u=Value.ref a:=rx
 refine O8 hu I2 g ry fun w' s3 I3 rw'=>thn (hv pins s3 σ H2 _ I3 q2) fun w2 s4 ⟨y2,H3,I4,ry2,q3⟩=>thn (hop pins s4 σ H3 v y2 w' w2 _ I4 rw' ry2 q3) fun w3 s5 ⟨z,H4,I5,rz,H5,g5,q4⟩=>?_
 exact O7 hu I5 g5 ry rz fun s6 I6=>⟨σ,H5,I6,q4⟩
end
theorem Uu{P:Program}{w:World}{H:Hp}(h:Heap)(hb:sysModules<h.objs.size):ObjOk P w H (h.push { cls:=.type "dict",data:=.dict #[] }) h.objs.size (.dK []) :=
 ⟨Nat.zero_le _,beq_eq_false_iff_ne.mpr (Ne.symm (Nat.ne_of_lt hb)),[],.nil,Heap.DictOf.new h⟩
theorem Nj{P:Program}{w:World}{H:Hp}(h:Heap)(hb:sysModules<h.objs.size):ObjOk P w H (h.push { cls:=.type "dict",data:=.dict #[] }) h.objs.size (.dT []) :=
 ⟨Nat.zero_le _,beq_eq_false_iff_ne.mpr (Ne.symm (Nat.ne_of_lt hb)),[],.nil,_,#[],0,ZU _ rfl,⟨rfl,rfl,rfl⟩,rfl,rfl,List.nodup_nil⟩
def Je3:TE:=fun _ H Q=>∀p,H p=none→Q (.ref p) (upd H p (.dK []))
def Je2:TE:=fun _ H Q=>∀p,H p=none→Q (.ref p) (upd H p (.dT []))
section
variable {X:Cx}{pos:Pos}
theorem F0:PE X (.Dict [] [] pos) Je3:=fun pins s σ H Q I h =>
 wpAny_Dict_empty ⟨.ref s.heap.objs.size,_,I.laid (a:=s.heap.objs.size) (o:=.dK []) (t':=s.toks) (fun _ _ q=>ZT _ q) (ZG _) (Uu s.heap I.big),rfl,h _ (I.hok.fresh (ZG _))⟩
theorem E7:PE X (.Dict [] [] pos) Je2:=fun pins s σ H Q I h =>
 wpAny_Dict_empty ⟨.ref s.heap.objs.size,_,I.laid (a:=s.heap.objs.size) (o:=.dT []) (t':=s.toks) (fun _ _ q=>ZT _ q) (ZG _) (Nj s.heap I.big),rfl,h _ (I.hok.fresh (ZG _))⟩
end
def Vd:List (TE×TE)→St→Hp→(List (V×V)→Hp→Prop)→Prop
 | [],_,H,Q=>Q [] H
 | (tk,tv)::r,σ,H,Q=>tk σ H fun x H1=>tv σ H1 fun y H2=>Vd r σ H2 fun ps H3=>Q ((x,y)::ps) H3
abbrev VV:List (V×V)→List (Value×Value)→Prop:=Paired fun p q=>RelV p.1 q.1∧RelV p.2 q.2
def PPs(X:Cx)(pos:Pos)(keys:List (Option Expr))(values:List Expr)(trs:List (TE×TE)):Prop :=
 ∀(pins:List (Addr×Obj))(s:Shared)(σ:St)(H:Hp)(Q:List (V×V)→Hp→Prop),Inv X pins σ H s→Vd trs σ H Q →
  wpAny (model X.prog X.w) X.A (evalPairs (pairTrees keys values X.env pos)) (fun vs s'=>∃ps H',Inv X pins σ H' s'∧VV ps vs∧Q ps H') X.xe s
theorem Jc0{X:Cx}{pos:Pos}:PPs X pos [] [] []:=fun pins s σ H Q I h=>pairTrees_nil_walk ⟨[],H,I,.nil,h⟩
theorem Iu{X:Cx}{pos:Pos}{k v:Expr}{ks:List (Option Expr)}{vs:List Expr}{tk tv:TE}{trs:List (TE×TE)}(hk:PE X k tk)(hv:PE X v tv)(hr:PPs X pos ks vs trs) :
 PPs X pos (some k::ks) (v::vs) ((tk,tv)::trs):=fun pins s σ H Q I h =>
 pairTrees_cons_walk (thn (hk pins s σ H _ I h) fun u s1 ⟨x,H1,I1,rx,q1⟩=>thn (hv pins s1 σ H1 _ I1 q1) fun w2 s2 ⟨y,H2,I2,ry,q2⟩ =>
  thn (hr pins s2 σ H2 _ I2 q2) fun ws s3 ⟨ps,H3,I3,rel,q3⟩=>⟨(x,y)::ps,H3,I3,.cons ⟨rx,ry⟩ rel,q3⟩)
def Hq(kvs more:List (Key×V)):List (Key×V):=more.foldl (fun acc kv=>putK acc kv.1 kv.2) kvs
theorem KV.merge:∀{more:List (Key×V)} {rs:List (Key×Value)} {kvs:List (Key×V)} {vs:List (Key×Value)},KV more rs→KV kvs vs→KV (Hq kvs more) (merged vs rs):=by
 intro more rs kvs vs r
 unfold KV at r
 induction r generalizing kvs vs with
 | nil=>intro q;exact q
 | @cons p q ps qs h t ih =>
   intro r0
   have e:KV (putK kvs p.1 p.2) (stored vs q.1 q.2):=by
    have:=r0.put p.1 h.2
    rw[←h.1];exact this
   exact ih e
theorem G9:∀(more kvs:List (Key×V)),(Hq kvs more).length≤kvs.length+more.length
 | [],kvs=>by show kvs.length≤kvs.length+0;omega
 | p::r,kvs=>by
   have h1:=G9 r (putK kvs p.1 p.2)
   have h2:=Es kvs p.1 p.2
   show(Hq (putK kvs p.1 p.2) r).length≤_
   rw[List.length_cons];omega
theorem Nn{P:Program}{w:World}:∀{kvs:List (Key×V)} {ws:List (Value×Value)},VV (kvs.map fun kv=>(kV kv.1,kv.2)) ws→∃rs,Carries (A8 P w) ws rs∧KV kvs rs
 | [],_,r=>by rw[List.map_nil] at r;cases r;exact⟨[],True.intro,.nil⟩
 | p::kvs,_,r=>by
   rw[List.map_cons] at r
   cases r with
   | @cons a b as bs h t =>
     obtain⟨rs,c,q⟩:=Nn (P:=P) (w:=w) t
     obtain⟨b1,b2⟩:=b
     exact⟨(p.1,b2)::rs,⟨Jc h.1,rfl,c⟩,.cons ⟨rfl,h.2⟩ q⟩
def Jgi(trs:List (TE×TE)):TE:=fun σ H Q=>∀p,H p=none→Vd trs σ (upd H p (.dK [])) fun ps H2=>H2 p=some (.dK [])∧∃kvs:List (Key×V),ps=kvs.map (fun kv=>(kV kv.1,kv.2))∧kvs.length≤15∧Q (.ref p) (upd H2 p (.dK (Hq [] kvs)))
theorem Jc3{X:Cx}{pos:Pos}{keys:List (Option Expr)}{values:List Expr}{trs:List (TE×TE)}(h:PPs X pos keys values trs)(hall:keys.all (·.isSome)=true)(hl:keys.length=values.length)(h0:keys≠[])(h15:keys.length≤15):PE X (.Dict keys values pos) (Jgi trs):=by
 intro pins s σ H Q I q
 have hn:=I.hok.fresh (ZG s.heap.objs.size)
 have I1:=I.laid (a:=s.heap.objs.size) (o:=.dK []) (h':=s.heap.push { cls:=.type "dict",data:=.dict #[] }) (t':=s.toks) (fun _ _ q=>ZT _ q) (ZG _) (Uu s.heap I.big)
 refine wpAny_Dict_walk (knd:=A8 X.prog X.w) hall hl h0 h15 (thn (h pins _ σ _ _ I1 (q _ hn)) fun ws s2 ⟨ps,H2,I2,rel,e,kvs,ep,lk,q2⟩=>?_)
 subst ep
 obtain⟨rs,c,rk⟩:=Nn (P:=X.prog) (w:=X.w) rel
 obtain⟨z,hd,vs0,r0,dd⟩:=Ut I2.hok e
 cases r0
 refine⟨rs,c,dd,fun h' dd' hs=>⟨.ref s.heap.objs.size,_,?_,rfl,q2⟩⟩
 have hz:(Hq [] kvs).length≤sizeLine:=by
  have h1:=G9 kvs []
  rw[List.length_nil] at h1
  rw[sizeLine_eq];omega
 have he:∃q,h'.get? s.heap.objs.size=some q:=let⟨q,_,_,hq,_⟩:=dd';⟨q,hq⟩
 exact Gw I2 (by rw[e];exact True.intro) hs he (V9 hz hd (rk.merge .nil) dd')
structure M1(X:Cx)(o:Expr)(m:Str)(apos:Pos)(e:Expr)(cpos:Pos):Prop where
 base:attributeBase o m X.env (eval o X.env)=eval o X.env
 few:((backTo cpos (starEach [e] X.env)).all (fun x=>!x.1)&&(backToKw cpos (keywordEach [] X.env)).all (fun x=>x.1.isSome)
  && decide (([e]:List Expr).length+([]:List Keyword).length+(if([]:List Keyword).isEmpty then 0 else 1)<30))=true
 line:(apos.endLine==cpos.line)=true
 trees:backTo cpos (starEach [e] X.env)=[(false,eval e X.env)]
structure M2(X:Cx)(o:Expr)(m:Str)(apos:Pos)(e f:Expr)(cpos:Pos):Prop where
 base:attributeBase o m X.env (eval o X.env)=eval o X.env
 few:((backTo cpos (starEach [e,f] X.env)).all (fun x=>!x.1)&&(backToKw cpos (keywordEach [] X.env)).all (fun x=>x.1.isSome)
  && decide (([e,f]:List Expr).length+([]:List Keyword).length+(if([]:List Keyword).isEmpty then 0 else 1)<30))=true
 line:(apos.endLine==cpos.line)=true
 trees:backTo cpos (starEach [e,f] X.env)=[(false,eval e X.env),(false,eval f X.env)]
def IsD(H:Hp)(a:Addr):Prop:=(∃kvs,Rd H a (.dK kvs))∨∃kvs,Rd H a (.dT kvs)
theorem Rj{X:Cx}{pins:List (Addr×Obj)}{σ:St}{H:Hp}{s:Shared}{a:Addr}(I:Inv X pins σ H s)(d:IsD H a) :
 s.TypeIs (.ref a) "dict"∧(∀b,Value.ref a=.ref b→∃ob,s.heap.get? b=some ob∧ob.dict=none)∧(a==sysModules)=false:=by
 rcases d with⟨kvs,e⟩|⟨kvs,e⟩
 ·obtain⟨_,hd,vs,_,dd⟩:=Ku I.hok e
  refine⟨dd.typeIs,fun b q=>?_,hd⟩
  cases q
  obtain⟨ob,_,_,h1,h2,_⟩:=dd
  exact⟨ob,h1,h2.2.1⟩
 ·obtain⟨_,hd,xs,_,dd⟩:=Jh I.hok e
  refine⟨dd.typeIs,fun b q=>?_,hd⟩
  cases q
  obtain⟨ob,_,_,h1,h2,_⟩:=dd
  exact⟨ob,h1,h2.2.1⟩
section
variable {X:Cx}{pins:List (Addr×Obj)}{σ:St}{H:Hp}{s:Shared}{a:Addr}{y d:V}{u r:Value}{o:Option V}{A:Around}{E:Value→Shared→Prop}
theorem Jf0{Q:Value→Shared→Prop}(hu:A.units+1<cLine)(I:Inv X pins σ H s)(g:DGet H a y o)(ry:RelV y u)(h:∀w' s',Inv X pins σ H s'→RelV (o.getD .non) w'→Q w' s') :
 wpAny (model X.prog X.w) A (call (.builtin "dict.get") [.ref a,u]) Q E s:=by
 rcases g with⟨kvs,k,e,ey,l⟩|⟨kvs,k,b,e,ey,eb,l⟩
 ·subst ey
  obtain⟨z,hd,vs,rel,dd⟩:=Ku I.hok e
  refine call_meetsIn PySem.F.slot_dict_get dd.typeIs PySem.F.entry_dict_get (PySem.F.args_dict_get_2 _ _) (meets_dict_get (A8 X.prog X.w) a (Jc ry) hd) ⟨_,dd.mapOf,h _ _ (I.tok _) ?_⟩
  rw[l]
  exact(rel.val k).getD rfl
 ·subst ey
  cases (show u=Value.ref b from ry)
  obtain⟨z,hd,xs,rel,dd⟩:=Jh I.hok e
  refine call_meetsIn PySem.F.slot_dict_get dd.typeIs PySem.F.entry_dict_get (PySem.F.args_dict_get_2 _ _) (meetsH_dict_get (tupleKind (A8 X.prog X.w)) a b hd) ⟨tupleKind_room_in1 hu,k,xs,Fk I.hok eb,dd,h _ _ (I.tok _) ?_⟩
  rw[l]
  exact(rel.val k).getD rfl
theorem Jfz{Q:Value→Shared→Prop}(hu:A.units+1<cLine)(I:Inv X pins σ H s)(g:DGet H a y o)(ry:RelV y u)(rd:RelV d r)(h:∀w' s',Inv X pins σ H s'→RelV (o.getD d) w'→Q w' s') :
 wpAny (model X.prog X.w) A (call (.builtin "dict.get") [.ref a,u,r]) Q E s:=by
 rcases g with⟨kvs,k,e,ey,l⟩|⟨kvs,k,b,e,ey,eb,l⟩
 ·subst ey
  obtain⟨z,hd,vs,rel,dd⟩:=Ku I.hok e
  refine call_meetsIn PySem.F.slot_dict_get dd.typeIs PySem.F.entry_dict_get (PySem.F.args_dict_get_3 _ _ _) (meets_dict_get_default (A8 X.prog X.w) a (Jc ry) hd r) ⟨_,dd.mapOf,h _ _ (I.tok _) ?_⟩
  rw[l]
  exact(rel.val k).getD rd
 ·subst ey
  cases (show u=Value.ref b from ry)
  obtain⟨z,hd,xs,rel,dd⟩:=Jh I.hok e
  refine call_meetsIn PySem.F.slot_dict_get dd.typeIs PySem.F.entry_dict_get (PySem.F.args_dict_get_3 _ _ _) (meetsH_dict_get_default (tupleKind (A8 X.prog X.w)) a b hd r) ⟨tupleKind_room_in1 hu,k,xs,Fk I.hok eb,dd,h _ _ (I.tok _) ?_⟩
  rw[l]
  exact(rel.val k).getD rd
end
def Je5(td ty:TE):TE:=fun σ H Q=>td σ H fun x H1=>∃a,x=.ref a∧IsD H1 a∧ty σ H1 fun y H2=>∃o,DGet H2 a y o∧Q (o.getD .non) H2
def Je4(td ty tx:TE):TE:=fun σ H Q=>td σ H fun x H1=>∃a,x=.ref a∧IsD H1 a∧ty σ H1 fun y H2=>tx σ H2 fun z H3=>∃o,DGet H3 a y o∧Q (o.getD z) H3
def Je1(td ty:TE):TE:=fun σ H Q=>td σ H fun x H1=>∃a,x=.ref a∧IsD H1 a∧ty σ H1 fun y H2=>∃kvs k v,H2 a=some (.dK kvs)∧y=kV k∧Cw kvs k=some v∧Q v (upd H2 a (.dK (C4 kvs k)))
section
variable {X:Cx}{o e f:Expr}{apos cpos:Pos}{td ty tx:TE}
theorem Jas(hu:X.A.units+1<cLine)(ho:PE X o td)(he:PE X e ty)(m:M1 X o "get" apos e cpos):PE X (.Call (.Attribute o "get" apos) [e] [] cpos) (Je5 td ty):=by
 intro pins s σ H Q I h
 refine wpAny_Call_method m.base m.few m.line PySem.F.plainAttrs_dict PySem.F.slot_dict_get PySem.F.type_dict_get (thn (ho pins s σ H _ I h) fun u s1 ⟨x,H1,I1,rx,a,ex,d,q1⟩=>?_)
 subst ex
 obtain rfl:u=Value.ref a:=rx
 obtain⟨t1,t2,_⟩:=Rj I1 d
 refine⟨t1,t2,?_⟩
 rw[m.trees]
 refine Calls.callWith_builtin rfl (Calls.evalArgs_plain (Calls.spliced_cons (thn (he pins s1 σ H1 _ I1 q1) fun iv s2 ⟨y,H2,I2,ry,ov,g,q2⟩=>Calls.spliced_nil ?_)))
 exact Jf0 hu I2 g ry fun w' s3 I3 rw'=>⟨_,H2,I3,rw',q2⟩
theorem Tl(hu:X.A.units+1<cLine)(ho:PE X o td)(he:PE X e ty)(hf:PE X f tx)(m:M2 X o "get" apos e f cpos):PE X (.Call (.Attribute o "get" apos) [e,f] [] cpos) (Je4 td ty tx):=by
 intro pins s σ H Q I h
 refine wpAny_Call_method m.base m.few m.line PySem.F.plainAttrs_dict PySem.F.slot_dict_get PySem.F.type_dict_get (thn (ho pins s σ H _ I h) fun u s1 ⟨x,H1,I1,rx,a,ex,d,q1⟩=>?_)
 subst ex
 obtain rfl:u=Value.ref a:=rx
 obtain⟨t1,t2,_⟩:=Rj I1 d
 refine⟨t1,t2,?_⟩
 rw[m.trees]
 refine Calls.callWith_builtin rfl (Calls.evalArgs_plain (Calls.spliced_cons (thn (he pins s1 σ H1 _ I1 q1) fun iv s2 ⟨y,H2,I2,ry,q2⟩ =>
  Calls.spliced_cons (thn (hf pins s2 σ H2 _ I2 q2) fun fv s3 ⟨z,H3,I3,rz,ov,g,q3⟩=>Calls.spliced_nil ?_))))
 exact Jfz hu I3 g ry rz fun w' s4 I4 rw'=>⟨_,H3,I4,rw',q3⟩
theorem Tj(ho:PE X o td)(he:PE X e ty)(m:M1 X o "pop" apos e cpos):PE X (.Call (.Attribute o "pop" apos) [e] [] cpos) (Je1 td ty):=by
 intro pins s σ H Q I h
 refine wpAny_Call_method m.base m.few m.line PySem.F.plainAttrs_dict PySem.F.slot_dict_pop PySem.F.type_dict_pop (thn (ho pins s σ H _ I h) fun u s1 ⟨x,H1,I1,rx,a,ex,d,q1⟩=>?_)
 subst ex
 obtain rfl:u=Value.ref a:=rx
 obtain⟨t1,t2,_⟩:=Rj I1 d
 refine⟨t1,t2,?_⟩
 rw[m.trees]
 refine Calls.callWith_builtin rfl (Calls.evalArgs_plain (Calls.spliced_cons (thn (he pins s1 σ H1 _ I1 q1) fun iv s2 ⟨y,H2,I2,ry,kvs,k,v,ea,ey,l,q2⟩=>Calls.spliced_nil ?_)))
 subst ey
 exact Jg2 I2 ea ry l (.inl rfl) fun w' s3 I3 rw'=>⟨v,_,I3,rw',q2⟩
end
section
variable {X:Cx}{pins:List (Addr×Obj)}{σ:St}{H:Hp}{s:Shared}{a:Addr}{kvs:List (Key×V)}{A:Around}{E:Value→Shared→Prop}
end
section
variable {X:Cx}{pins:List (Addr×Obj)}{σ:St}{H:Hp}{s:Shared}{a:Addr}{y:V}{u:Value}{A:Around}{E:Value→Shared→Prop}
end
end L2
namespace HT
open PySem PyProof.Rows
def lexLt:List Int→List Int→Bool
 | [],[]=>false
 | [],_::_=>true
 | _::_,[]=>false
 | x::xs,y::ys=>if x=y then lexLt xs ys else decide (x<y)
theorem lexLt_cons(x y:Int)(xs ys:List Int):lexLt (x::xs) (y::ys)=if x=y then lexLt xs ys else decide (x<y):=rfl
theorem lexLt_nil_nil:lexLt [] []=false:=rfl
theorem Mp(y:Int)(ys:List Int):lexLt [] (y::ys)=true:=rfl
theorem Mq(x:Int)(xs:List Int):lexLt (x::xs) []=false:=rfl
theorem Jbx(A:Around)(s:Shared)(a:Int)(t:Tok)(c:Int)(u:Tok):∃e,SeqAt.EqAt A s (.int a t) (.int c u) e∧(e=true↔a=c) :=
 ⟨(a==c),SeqAt.EqAt.int_int a t c u,by simp⟩
theorem Jad(A:Around)(s:Shared)(a:Int)(t:Tok)(c:Int)(u:Tok)(prog:Program)(w:World)(E:Value→Shared→Prop)(Q:Value→Shared→Prop)(h:Q (.bool (decide (a<c))) s) :
 wpAny (model prog w) A (richCompare .Lt (.int a t) (.int c u)) Q E s :=
 (PyProof.Rows.lt_int h:wpAny (model prog w) A (compareOp .Lt (.int a t) (.int c u)) Q E s)
section
open PySem.SeqAt
open PySem.AutoSeq1 (wpAny_loadPart')
open PySem.MeetsSeq PySem.MeetsSeq2 PySem.MeetsSeq3
theorem Nx(l b:Addr)(items items2:Array Value)(n n2:Nat)(dd dd2:Option Addr)(sl sl2:Array (Option Value))(ns ms:List Int)(hi:IntsAre items.toList ns)(hj:IntsAre items2.toList ms) :
 Meets (Builtin.«tuple.__lt__» ⟨[.ref l,.ref b],[]⟩)
  (fun _ R s=>s.heap.get? l=some { cls:=.type "tuple",dict:=dd,data:=.seq items n,slots:=sl }∧s.heap.get? b=some { cls:=.type "tuple",dict:=dd2,data:=.seq items2 n2,slots:=sl2 } ∧
   R (.ok (.ret (.bool (lexLt ns ms)))) s) :=
 .of_wp fun prog w A R s h=>by
  obtain⟨hp,g,d,tk,os⟩:=s;obtain⟨hl,hb,h⟩:=h
  have f2:=AutoSeq1.sub_tuple_tuple
  have z1:items.size=ns.length:=by rw[←hi.length];simp
  have z2:items2.size=ms.length:=by rw[←hj.length];simp
  wp_walk using wpAny_loadPart' hl,wpAny_loadPart' hb,wpAny_forIn_list _ (fun rest b s'=>b.1=none∧s'=⟨hp,g,d,tk,os⟩∧∃(vs ws:List Value)(ns' ms':List Int),rest=vs.zip ws ∧
   IntsAre vs ns'∧IntsAre ws ms'∧ns'.length+items2.size=ms'.length+items.size∧R (.ok (.ret (.bool (lexLt ns' ms')))) ⟨hp,g,d,tk,os⟩) _
  case turn =>
   rintro⟨y,x⟩ rest b s' ⟨hb',rfl,vs,ws,ns',ms',hz,hvi,hwi,hlen,hR⟩
   cases hvi with
   | nil=>rw[List.zip_nil_left] at hz;cases hz
   | cons a t hvi' =>
     cases hwi with
     | nil=>rw[List.zip_nil_right] at hz;cases hz
     | cons c u hwi' =>
       rw[List.zip_cons_cons] at hz
       injection hz with hyx hrest
       injection hyx with hy hx
       subst hy hx
       rw[lexLt_cons] at hR
       simp only[List.length_cons] at hlen
       obtain⟨e,he,hiff⟩:=Jbx A.in1 ⟨hp,g,d,tk,os⟩ a t c u
       refine ZR (he prog w _ _ ?_)
       cases e with
       | true =>
         rw[if_pos (hiff.mp rfl)] at hR
         wp_walk
         exact⟨rfl,rfl,_,_,_,_,hrest,hvi',hwi',by omega,hR⟩
       | false =>
         rw[if_neg (fun q=>absurd (hiff.mpr q) Bool.false_ne_true)] at hR
         have hri:=Jad A.in1 ⟨hp,g,d,tk,os⟩ a t c u prog w
         wp_walk using hri
         exact⟨_,rfl,by simpa using hR⟩
  case fin =>
   rintro⟨b1,b2⟩ s' ⟨hb',rfl,vs,ws,ns',ms',hz,hvi,hwi,hlen,hR⟩
   simp only at hb'
   subst hb'
   have hv:lexLt ns' ms'=decide (items.size<items2.size):=by
    cases hvi with
    | nil =>
      cases hwi with
      | nil =>
        simp only[List.length_nil] at hlen
        rw[lexLt_nil_nil]
        exact(decide_eq_false (by omega)).symm
      | cons c u hw =>
        simp only[List.length_nil,List.length_cons] at hlen
        rw[Mp]
        exact(decide_eq_true (by omega)).symm
    | cons a t hv =>
      cases hwi with
      | nil =>
        simp only[List.length_nil,List.length_cons] at hlen
        rw[Mq]
        exact(decide_eq_false (by omega)).symm
      | cons c u hw =>
        rw[List.zip_cons_cons] at hz
        cases hz
   rw[hv] at hR
   wp_walk
   exact⟨_,rfl,by simpa [Builtin.Tuple.tupleCompareSizes] using hR⟩
  case h =>
   exact⟨rfl,rfl,items.toList,items2.toList,ns,ms,rfl,hi,hj,by omega,h⟩
end
section
variable {prog:Program}{w:World}{A:Around}{E:Value→Shared→Prop}{s:Shared}
theorem lt_tupInts{l b:Addr}{items items2:Array Value}{ns ms:List Int}{Q:Value→Shared→Prop}(hl:IsTup s.heap l items)(hb:IsTup s.heap b items2)(hi:IntsAre items.toList ns)(hj:IntsAre items2.toList ms)(hu:A.units<cLine)(h:Q (.bool (lexLt ns ms)) s):wpAny (model prog w) A (compareOp .Lt (.ref l) (.ref b)) Q E s:=by
 obtain⟨⟨cls,dd,data,sl⟩,ho,hc,n,hd⟩:=id hl
 obtain⟨⟨cls2,dd2,data2,sl2⟩,ho2,hc2,n2,hd2⟩:=id hb
 simp only at hc hd hc2 hd2
 subst hc hd hc2 hd2
 exact richCompare_meets_room (op:=.Lt) ⟨_,ho,rfl⟩ ⟨_,ho2,rfl⟩ PySem.F.slot_tuple_lt PySem.F.entry_tuple_lt (PySem.F.args_tuple_lt_2 _ _) (Nx l b items items2 n n2 dd dd2 sl sl2 ns ms hi hj)
  ⟨ho,ho2,show Value.bool (lexLt ns ms)≠Value.notImplemented∧Q (.bool (lexLt ns ms)) s from⟨(fun x=>nomatch x),h⟩⟩ hu
def sIx(n d:Nat):Option Int→Nat
 | none=>d
 | some v=>if v<0 then(v+(n:Int)).toNat else min v.toNat n
theorem sIx_nat(n d k:Nat):sIx n d (some (k:Int))=min k n:=by
 show(if(k:Int)<0 then((k:Int)+(n:Int)).toNat else min (k:Int).toNat n)=min k n
 rw[if_neg (by omega),Int.toNat_natCast]
end
end HT
namespace L2
open PySem PySem.Spec PyProof.Rows
abbrev TO:=St→Hp→(Option Int→Hp→Prop)→Prop
def PO(X:Cx)(e:Option Expr)(t:TO):Prop :=
 ∀(pins:List (Addr×Obj))(s:Shared)(σ:St)(H:Hp)(Q:Option Int→Hp→Prop),Inv X pins σ H s→t σ H Q →
  wpAny (model X.prog X.w) X.A (evalPart e X.env) (fun u s'=>∃o H',Inv X pins σ H' s'∧IsPart u o∧Q o H') X.xe s
def Jgf(t:TE):TO:=fun σ H Q=>t σ H fun x H1=>∃i,x=.int i∧Q (some i) H1
theorem intsAre_of{ns:List Int}:∀{us:List Value},Vals (ns.map V.int) us→IntsAre us ns:=by
 induction ns with
 | nil=>intro us r;rw[List.map_nil] at r;cases r;exact .nil
 | cons n ns ih =>
   intro us r
   rw[List.map_cons] at r
   cases r with
   | cons r1 r2 =>
     obtain⟨t,e⟩:=r1
     subst e
     exact .cons n t (ih r2)
section
variable {X:Cx}{e:Expr}{te:TE}{lo hi:Option Expr}{tl th:TO}{pos p2:Pos}
theorem Xi(h:PE X e te):PO X (some e) (Jgf te):=by
 intro pins s σ H Q I hw
 rw[evalPart_some]
 refine thn (h pins s σ H _ I hw) fun u s1 ⟨x,H1,I1,r1,q1⟩=>?_
 obtain⟨i,rfl,q⟩:=q1
 obtain⟨t,rfl⟩:=r1
 exact⟨some i,H1,I1,.int i t,q⟩
def SlR(X:Cx)(r:V→Option Int→Option Int→Hp→VK→Prop):Prop :=
 ∀(pins:List (Addr×Obj))(s:Shared)(σ:St)(H:Hp)(x:V)(v vl vu:Value)(lo hi:Option Int)(sl:Addr)(Q:VK),Inv X pins σ H s→RelV x v→s.heap.IsSliceOf sl vl vu .none→IsPart vl lo→IsPart vu hi→r x lo hi H Q →
  ∃T id,typeLookup (.type T) "__getitem__"=pure (some (.builtin id))∧s.TypeIs v T∧wpAny (model X.prog X.w) X.A (getItem v (.ref sl)) (EP X pins σ Q) X.xe s
def tSl(r:V→Option Int→Option Int→Hp→VK→Prop)(te:TE)(tl th:TO):TE:=fun σ H Q=>te σ H fun x H1=>tl σ H1 fun l H2=>th σ H2 fun u H3=>r x l u H3 Q
theorem Jaq{r:V→Option Int→Option Int→Hp→VK→Prop}(hr:SlR X r)(he:PE X e te)(hl:PO X lo tl)(hu:PO X hi th):PE X (.Subscript e (.Slice lo hi none p2) pos) (tSl r te tl th):=by
 intro pins s σ H Q I h
 refine Subscript_ (thn (he pins s σ H _ I h) fun v s1 ⟨x,H1,I1,r1,q1⟩=>?_)
 refine wpAny_Slice (thn (hl pins s1 σ H1 _ I1 q1) fun vl s2 ⟨l,H2,I2,pl,q2⟩=>thn (hu pins s2 σ H2 _ I2 q2) fun vu s3 ⟨u,H3,I3,pu,q3⟩=>?_)
 rw[evalPart_none]
 refine ZS ?_
 have I4:Inv X pins σ H3 { s3 with heap:=s3.heap.push { cls:=.type "slice",data:=.fields #[vl,vu,.none] } }:=I3.kept (t':=s3.toks) fun b ob q=>ZT _ q
 obtain⟨T,id,hT,ht,hg⟩:=hr pins { s3 with heap:=s3.heap.push { cls:=.type "slice",data:=.fields #[vl,vu,.none] } } σ H3 x v vl vu l u s3.heap.objs.size Q I4 r1 (Heap.IsSliceOf.new ..) pl pu q3
 show wpAny (model X.prog X.w) X.A (subscriptTail e (.Slice lo hi none p2) v (.ref s3.heap.objs.size)) (EP X pins σ Q) X.xe { s3 with heap:=s3.heap.push { cls:=.type "slice",data:=.fields #[vl,vu,.none] } }
 exact tail_any (ops:=[.ref s3.heap.objs.size,v]) ht hT hg (by with_unfolding_all rfl)
def Ht(xs:List V)(lo hi:Option Int):List V:=(xs.drop (HT.sIx xs.length 0 lo)).take (HT.sIx xs.length xs.length hi-HT.sIx xs.length 0 lo)
theorem Uw(xs:List V)(lo hi:Option Int):(Ht xs lo hi).length≤xs.length:=by
 unfold Ht
 rw[List.length_take,List.length_drop]
 omega
end
def ixN(n:Nat)(i:Int):Option Nat:=if 0≤i then(if i<n then some i.toNat else none) else if -(n:Int)≤i then some (i+n).toNat else none
def atI{α:Type}(xs:List α)(i:Int):Option α:=(ixN xs.length i).bind fun j=>xs[j]?
theorem Jdx{n:Nat}{i:Int}{j:Nat}(h:ixN n i=some j):seqIndex? i n=some j∧j<n∧-(n:Int)≤i∧i<n:=by
 unfold ixN at h
 by_cases h0:0≤i
 ·rw[if_pos h0] at h
  by_cases h1:i<n
  ·rw[if_pos h1] at h
   have e:i.toNat=j:=ZO h
   exact⟨by rw[seqIndex_of h0 h1,e],by omega,by omega,h1⟩
  ·rw[if_neg h1] at h;cases h
 ·rw[if_neg h0] at h
  by_cases h1:-(n:Int)≤i
  ·rw[if_pos h1] at h
   have e:(i+n).toNat=j:=ZO h
   exact⟨by rw[seqIndex_neg (by omega) h1,e],by omega,h1,by omega⟩
  ·rw[if_neg h1] at h;cases h
theorem Ya{α:Type}{xs:List α}{i:Int}{v:α}(h:atI xs i=some v):∃j,seqIndex? i xs.length=some j∧xs[j]?=some v∧j<xs.length∧-(xs.length:Int)≤i∧i<xs.length:=by
 unfold atI at h
 cases e:ixN xs.length i with
 | none=>rw[e] at h;cases h
 | some j =>
   rw[e] at h
   obtain⟨h1,h2,h3,h4⟩:=Jdx e
   exact⟨j,h1,h,h2,h3,h4⟩
theorem Jed{α:Type}{xs:List α}{j:Nat}{v:α}(h:xs[j]?=some v):atI xs (j:Int)=some v:=by
 have hj:j<xs.length:=(ZJ h).1
 have e:ixN xs.length (j:Int)=some j:=by
  unfold ixN
  rw[if_pos (by omega),if_pos (by omega)];simp
 unfold atI;rw[e];exact h
def Jeh(b:Expr):Prop:=∀o i,subscripted b false o i=operate [o,i] (getItem o i)
def IxR(X:Cx)(r:R2):Prop :=
 ∀(value slice:Expr)(pins:List (Addr×Obj))(s:Shared)(σ:St)(H:Hp)(x y:V)(v u:Value)(Q:VK),Inv X pins σ H s→RelV x v→RelV y u→r x y H Q →
  subscripted slice false v u=operate [v,u] (getItem v u)→wpAny (model X.prog X.w) X.A (subscriptTail value slice v u) (EP X pins σ Q) X.xe s
def MtR(X:Cx)(id:String)(r:V→List V→Hp→VK→Prop):Prop :=
 ∀(pins:List (Addr×Obj))(s:Shared)(σ:St)(H:Hp)(x:V)(xs:List V)(v:Value)(us:List Value)(Q:VK),Inv X pins σ H s→RelV x v→Vals xs us→r x xs H Q →
  wpAny (model X.prog X.w) X.A (call (.builtin id) (v::us)) (EP X pins σ Q) X.xe s
section
variable {X:Cx}{a b:Expr}{ta tb:TE}{pos:Pos}
theorem Av{r:R2}(hr:IxR X r)(ha:PE X a ta)(hb:PE X b tb)(hs:Jeh b:=by exact fun _ _=>rfl):PE X (.Subscript a b pos) (tOp r ta tb):=by
 intro pins s σ H Q I h
 exact Subscript_ (Jf3 ha hb I h fun v u s2 x y H2 I2 rx ry q=>hr a b pins s2 σ H2 x y v u Q I2 rx ry q (hs _ _))
def Jia(K:W.Frag):R2:=fun x y H Q=>∃p xs i v,x=.ref p∧y=.int i∧SqL K H p xs∧atI xs i=some v∧Q v H
def Vo(K:W.Frag):R2:=fun x y H Q=>∃p xs i v,x=.ref p∧y=.int i∧SqT K H p xs∧atI xs i=some v∧Q v H
theorem Cz:IxR X (Jia X.K):=by
 intro value slice pins s σ H x y v u Q I rx ry h hs
 obtain⟨p,xs,i,z,rfl,rfl,hq,he,q⟩:=h
 cases rx
 obtain⟨t,rfl⟩:=ry
 obtain⟨its,r,pl,hz⟩:=I.list hq
 obtain⟨j,h1,h2,h3,h4,h5⟩:=Ya he
 obtain⟨w,ew,rw'⟩:=r.get h2
 have hl:=r.length
 have hn:=Rc
 have fin:EP X pins σ Q w s:=⟨z,H,I,rw',q⟩
 by_cases h0:0≤i
 ·have hj:i.toNat=j:=by
   rw[seqIndex_of h0 h5] at h1
   exact ZO h1
  exact item_listR pl.isList h0 (by omega) (by rw[hj];simpa using ew) fin hs
 ·have hj:(i+(its.toArray.size:Int)).toNat=j:=by
   rw[seqIndex_neg (by omega) h4] at h1
   rw[List.size_toArray,←hl]
   exact ZO h1
  exact subscriptTail_builtinR (x:=w) pl.isList.typeIs slot_list_getitem.lookup
   (wpAny_getItem_list_neg (Q:=fun r s'=>r=w∧EP X pins σ Q r s') pl.isList (by omega) (by rw[List.size_toArray]<;>omega) (by omega) (by rw[hj];simpa using ew) ⟨rfl,fin⟩) hs
theorem Aq:IxR X (Vo X.K):=by
 intro value slice pins s σ H x y v u Q I rx ry h hs
 obtain⟨p,xs,i,z,rfl,rfl,hq,he,q⟩:=h
 cases rx
 obtain⟨t,rfl⟩:=ry
 obtain⟨its,r,pl,hz⟩:=I.tuple hq
 obtain⟨j,h1,h2,h3,h4,h5⟩:=Ya he
 obtain⟨w,ew,rw'⟩:=r.get h2
 have hl:=r.length
 have hn:=Rc
 have fin:EP X pins σ Q w s:=⟨z,H,I,rw',q⟩
 exact subscriptTail_builtinR (x:=w) pl.typeIs slot_tuple_getitem.lookup
  (getItem_tuple (j:=j) (Q:=fun r s'=>r=w∧EP X pins σ Q r s') pl (by omega) (by omega) (by rw[List.size_toArray,←hl];exact h1) (by simpa using ew) ⟨rfl,fin⟩) hs
theorem P8(lo hi:Option Int)(n:Nat):(sliceBounds lo hi none n).1=((HT.sIx n 0 lo:Nat):Int)∧(sliceBounds lo hi none n).2.1=((HT.sIx n n hi:Nat):Int)∧(sliceBounds lo hi none n).2.2=1:=by
 refine⟨?_,?_,rfl⟩
 ·cases lo with
  | none=>simp[sliceBounds,HT.sIx]
  | some i =>
    simp only[sliceBounds,HT.sIx,Option.getD_none,show(1:Int) > 0 by decide,if_true]
    by_cases h:i<0
    ·simp only[h,if_true]<;>omega
    ·simp only[h,if_false]<;>omega
 ·cases hi with
  | none=>simp[sliceBounds,HT.sIx]
  | some i =>
    simp only[sliceBounds,HT.sIx,Option.getD_none,show(1:Int) > 0 by decide,if_true]
    by_cases h:i<0
    ·simp only[h,if_true]<;>omega
    ·simp only[h,if_false]<;>omega
theorem Ny(its:List Value)(lo hi:Option Int):slicePick its.toArray lo hi none=((its.drop (HT.sIx its.length 0 lo)).take (HT.sIx its.length its.length hi-HT.sIx its.length 0 lo)).toArray:=by
 obtain⟨h1,h2,h3⟩:=P8 lo hi its.toArray.size
 unfold slicePick
 rw[h1,h2,h3]
 simp only[sliceRange_one,pick_run,List.size_toArray]<;>rfl
def Jh6(K:W.Frag):V→Option Int→Option Int→Hp→VK→Prop:=fun x lo hi H Q=>∃a xs,x=.ref a∧SqL K H a xs∧∀p,H p=none→Q (.ref p) (upd H p (.lst (Ht xs lo hi)))
theorem Jcj:SlR X (Jh6 X.K):=by
 intro pins s σ H x v vl vu lo hi sl Q I rx hs pl pu h
 obtain⟨a,xs,rfl,hx,q⟩:=h
 cases rx
 obtain⟨its,r,ht,hz⟩:=I.list hx
 have hlen:=r.length
 refine⟨"list",_,slot_list_getitem.lookup,ht.isList.typeIs,?_⟩
 refine wpAny_getItem_list_slice ht.isList hs pl pu .none (by simp) ?_ (by rw[List.size_toArray]<;>omega)
 rw[Ny,←hlen]
 refine⟨.ref s.heap.objs.size,_,I.laid (t':=s.toks) (o:=.lst (Ht xs lo hi)) (fun b ob q=>ZT _ q) (ZG _) ?_,rfl,q _ (I.hok.fresh (ZG _))⟩
 exact⟨Nat.le_trans (Uw xs lo hi) hz,_,0,(r.drop (HT.sIx xs.length 0 lo)).take (HT.sIx xs.length xs.length hi-HT.sIx xs.length 0 lo),ZU _ rfl⟩
theorem Br:Em X (.builtin "len") (fun xs H Q=>∃p ys,xs=[.ref p]∧(SqL X.K H p ys∨SqT X.K H p ys)∧Q (.int ys.length) H):=by
 intro pins s σ H xs us Q I r h
 obtain⟨p,ys,rfl,hq,q⟩:=h
 obtain⟨u,rfl,rx⟩:=vals1 r
 cases rx
 have hn:=Rc
 rcases hq with hq|hq
 ·obtain⟨its,r',pl,hz⟩:=I.list hq
  have hlen:=r'.length
  exact Calls.call_len_list pl.isList (by simp only[List.size_toArray]<;>omega) ⟨.int ys.length,H,I.tok _,⟨s.toks+1,by rw[List.size_toArray,hlen]⟩,q⟩
 ·obtain⟨its,r',pl,hz⟩:=I.tuple hq
  have hlen:=r'.length
  exact len_tuple pl (by simp only[List.size_toArray]<;>omega) ⟨.int ys.length,H,I.tok _,⟨s.toks+1,by rw[List.size_toArray,hlen]⟩,q⟩
theorem Jl:Em X (.type "list") (fun xs H Q=>∃p ys,xs=[.ref p]∧(SqL X.K H p ys∨SqT X.K H p ys)∧∀l,H l=none→Q (.ref l) (upd H l (.lst ys))):=by
 intro pins s σ H xs us Q I r h
 obtain⟨p,ys,rfl,hq,q⟩:=h
 obtain⟨u,rfl,rx⟩:=vals1 r
 cases rx
 have fin:∀(its:List Value),Vals ys its→ys.length≤sizeLine→∀(h':Heap)(c':Nat),(∀b o',s.heap.get? b=some o'→h'.get? b=some o') →
  h'.get? s.heap.objs.size=some { cls:=.type "list",dict:=none,data:=.seq its.toArray c',slots:=#[] }→EP X pins σ Q (.ref s.heap.objs.size) { s with heap:=h' }:=fun its r' hz h' c' kp e =>
  ⟨.ref s.heap.objs.size,_,I.laid (t':=s.toks) kp (ZG _) (show ObjOk X.prog X.w _ h' _ (.lst ys) from⟨hz,its,c',r',e⟩),rfl,q _ (I.hok.fresh (ZG _))⟩
 rcases hq with hq|hq
 ·obtain⟨its,r',pl,hz⟩:=I.list hq
  have hlen:=r'.length
  obtain⟨o,ho,hc,n,hd⟩:=pl.isList
  exact call_list_seq p (.inl rfl) ho hc hd (fun h' c' kp e=>fin its r' hz h' c' kp e) (by simp only[List.size_toArray]<;>omega)
 ·obtain⟨its,r',pl,hz⟩:=I.tuple hq
  have hlen:=r'.length
  obtain⟨o,ho,hc,n,hd⟩:=pl
  exact call_list_seq p (.inr rfl) ho hc hd (fun h' c' kp e=>fin its r' hz h' c' kp e) (by simp only[List.size_toArray]<;>omega)
theorem Ey:Em X (.type "tuple") (fun xs H Q=>∃p ys,xs=[.ref p]∧((SqL X.K H p ys∧∀l,H l=none→Q (.ref l) (upd H l (.tup ys)))∨(SqT X.K H p ys∧Q (.ref p) H))):=by
 intro pins s σ H xs us Q I r h
 obtain⟨p,ys,rfl,h⟩:=h
 obtain⟨u,rfl,rx⟩:=vals1 r
 cases rx
 rcases h with⟨hq,q⟩|⟨hq,q⟩
 ·obtain⟨its,r',pl,hz⟩:=I.list hq
  have hlen:=r'.length
  refine call_tuple_list pl.isList (fun h' kp=>?_) (by simp only[List.size_toArray]<;>omega)
  have I1:Inv X pins σ H { s with heap:=h' }:=I.kept (t':=s.toks) kp
  have I2:Inv X pins σ (upd H h'.objs.size (.tup ys)) { s with heap:=h'.push { cls:=.type "tuple",data:=.seq its.toArray } } :=
   I1.laid (t':=s.toks) (fun b o e=>ZT _ e) (ZG _) (show ObjOk X.prog X.w _ _ _ (.tup ys) from⟨hz,its,r',IsTup.new _ _⟩)
  exact⟨.ref h'.objs.size,_,I2,rfl,q _ (I1.hok.fresh (ZG _))⟩
 ·obtain⟨its,r',pl,hz⟩:=I.tuple hq
  exact call_tuple_same pl ⟨.ref p,H,I,rfl,q⟩
def tyV(K:W.Frag)(T:String)(x:V)(H:Hp):Prop:=match x with
 | .str _=>T="str"
 | .int _=>T="int"
 | .ref p=>(T="list"∧∃xs,SqL K H p xs)∨(T="tuple"∧∃o,K.lookup p=some o∧o.cls=.type "tuple"∧o.dict=none) ∨
  (T="dict"∧((∃kvs,H p=some (.dK kvs))∨∃kvs,H p=some (.dT kvs)))∨(T="set"∧∃S n,H p=some (.set S n))
 | _=>False
theorem Zs{pins:List (Addr×Obj)}{σ:St}{H:Hp}{s:Shared}{T:String}{x:V}{v:Value}(I:Inv X pins σ H s)(r:RelV x v)(ty:tyV X.K T x H) :
 s.TypeIs v T∧∀a,v=.ref a→∃ob,s.heap.get? a=some ob∧ob.dict=none:=by
 cases x with
 | str z =>
   obtain⟨t,rfl⟩:=r
   cases (show T="str" from ty)
   exact⟨typeIs_str s z t,fun _ e=>nomatch e⟩
 | int i =>
   obtain⟨t,rfl⟩:=r
   cases (show T="int" from ty)
   exact⟨typeIs_int s i t,fun _ e=>nomatch e⟩
 | ref p =>
   cases r
   rcases ty with⟨rfl,xs,hq⟩|⟨rfl,o,hk,hc,hd⟩|⟨rfl,hk⟩|⟨rfl,S,n,hk⟩
   ·obtain⟨its,_,pl,_⟩:=I.list hq
    refine⟨pl.isList.typeIs,fun a e=>?_⟩
    cases e
    obtain⟨o,n,e,c,hd,_⟩:=pl
    exact⟨o,e,hd⟩
   ·refine⟨⟨o,I.kIn p o hk,hc⟩,fun a e=>?_⟩
    cases e
    exact⟨o,I.kIn _ o hk,hd⟩
   ·have z:∃o,s.heap.get? p=some o∧o.ExactDict:=by
     rcases hk with⟨kvs,hk⟩|⟨kvs,hk⟩
     ·obtain⟨_,_,_,_,o,_,_,e,ex,_⟩:=I.hok p _ hk
      exact⟨o,e,ex⟩
     ·obtain⟨_,_,_,_,o,_,_,e,ex,_⟩:=I.hok p _ hk
      exact⟨o,e,ex⟩
    obtain⟨o,e,ex⟩:=z
    refine⟨⟨o,e,ex.1⟩,fun a e2=>?_⟩
    cases e2
    exact⟨o,e,ex.2.1⟩
   ·obtain⟨o,_,_,_,e,ex,_⟩:=I.hok p _ hk
    refine⟨⟨o,e,ex.1⟩,fun a e2=>?_⟩
    cases e2
    exact⟨o,e,ex.2.1⟩
 | _=>exact False.elim ty
def Jhm(K:W.Frag)(T:String)(r:V→List V→Hp→VK→Prop)(to:TE):TE:=fun σ H Q=>to σ H fun x H1=>tyV K T x H1∧r x [] H1 Q
def tBM(K:W.Frag)(T:String)(r:V→List V→Hp→VK→Prop)(to:TE)(t:TA):TE:=fun σ H Q=>to σ H fun x H1=>tyV K T x H1∧t σ H1 fun xs H2=>r x xs H2 Q
variable {o e:Expr}{es:List Expr}{to:TE}{t:TA}{name:Str}{apos cpos:Pos}{T id:String}{r:V→List V→Hp→VK→Prop}
theorem Qs(pa:PlainAttrs T)(slot:Slot T name id)(hty:typeOf (.builtin id)=pure (.type "method_descriptor"))(hm:MtR X id r)(ho:PE X o to)(hbase:attributeBase o name X.env (eval o X.env)=eval o X.env:=by rfl)(hline:(apos.endLine==cpos.line)=true:=by rfl):PE X (.Call (.Attribute o name apos) [] [] cpos) (Jhm X.K T r to):=by
 intro pins s σ H Q I h
 refine wpAny_Call_method0_late hbase hline (thn (ho pins s σ H _ I h) fun v s1 ⟨x,H1,I1,r1,ty,q1⟩=>?_)
 obtain⟨h1,h2⟩:=Zs I1 r1 ty
 exact⟨T,id,pa,slot,hty,h1,h2,Calls.callWith_builtin rfl (PySem.evalArgs_none (hm pins s1 σ H1 x [] v [] Q I1 r1 .nil q1))⟩
theorem Kk(pa:PlainAttrs T)(slot:Slot T name id)(hty:typeOf (.builtin id)=pure (.type "method_descriptor"))(hm:MtR X id r)(ho:PE X o to)(ha:PA X (e::es) t)(hbase:attributeBase o name X.env (eval o X.env)=eval o X.env:=by rfl)(hfew:((backTo cpos (starEach (e::es) X.env)).all (fun x=>!x.1)&&(backToKw cpos (keywordEach [] X.env)).all (fun x=>x.1.isSome)
  && decide ((e::es).length+([]:List Keyword).length+(if([]:List Keyword).isEmpty then 0 else 1)<30))=true:=by rfl)(hline:(apos.endLine==cpos.line)=true:=by rfl)(hs:starEach (e::es) X.env=(false,eval e X.env)::starEach es X.env:=by rfl)(hplain:(backTo cpos (starEach es X.env)).any (·.1)=false:=by rfl) :
 PE X (.Call (.Attribute o name apos) (e::es) [] cpos) (tBM X.K T r to t):=by
 intro pins s σ H Q I h
 refine wpAny_Call_method_late hbase hfew hline rfl (thn (ho pins s σ H _ I h) fun v s1 ⟨x,H1,I1,r1,ty,q1⟩=>?_)
 obtain⟨h1,h2⟩:=Zs I1 r1 ty
 refine⟨T,id,pa,slot,hty,h1,h2,?_⟩
 have hA:=ha cpos pins s1 σ H1 _ I1 q1
 rw[hs] at hA ⊢
 refine Calls.callWith_builtin (by show(false || (backTo cpos (starEach es X.env)).any (·.1))=false;rw[hplain]<;>rfl) (Calls.evalArgs_plain ?_)
 exact thn hA fun us s2 ⟨vs,H2,I2,r2,q2⟩=>hm pins s2 σ H2 x vs v us Q I2 r1 r2 q2
end
def MtM(X:Cx)(id:String)(r:V→List V→Hp→VK→Prop):Prop :=
 ∀(pins:List (Addr×Obj))(s:Shared)(σ:St)(H:Hp)(x:V)(xs:List V)(v:Value)(us:List Value)(Q:VK),Inv X pins σ H s→RelV x v→Vals xs us→r x xs H Q →
  wpAny (model X.prog X.w) X.A (call (.builtin id) (v::us)) (EP X pins σ Q) X.xe s
theorem Vals.one:∀{x:V} {us:List Value},Vals [x] us→∃u,us=[u]∧RelV x u
 | _,_,.cons r .nil=>⟨_,rfl,r⟩
theorem Vals.zero:∀{us:List Value},Vals [] us→us=[]
 | _,.nil=>rfl
theorem Vals.dropLast{xs:List V}{us:List Value}(h:Vals xs us):Vals xs.dropLast us.dropLast:=by
 induction h with
 | nil=>exact .nil
 | cons r t ih =>
   cases t with
   | nil=>exact .nil
   | cons q t'=>exact .cons r ih
theorem V6{α:Type}(l:List α):l.eraseIdx (l.length-1)=l.dropLast:=by
 induction l with
 | nil=>rfl
 | cons a r ih =>
   cases r with
   | nil=>rfl
   | cons b r =>
     have e:(a::b::r).length-1=((b::r).length-1)+1:=by
      have h1:(a::b::r).length=r.length+2:=rfl
      have h2:(b::r).length=r.length+1:=rfl
      omega
     rw[e,List.eraseIdx_cons_succ,ih]
     all_goals rfl
section
variable {X:Cx}{pins:List (Addr×Obj)}{σ:St}{H:Hp}{s:Shared}{l b:Addr}{xs ys zs:List V}
theorem Inv.lset{its its':List Value}{n:Nat}{f:Array Value→Array Value}{t':Nat}(I:Inv X pins σ H s)(hH:H l=some (.lst xs))(e:s.heap.get? l=some { cls:=.type "list",data:=.seq its.toArray n })(hf:f its.toArray=its'.toArray)(hv:Vals ys its')(hz:ys.length≤sizeLine) :
 Inv X pins σ (upd H l (.lst ys)) { s with heap:=s.heap.update l (Obj.mapSeq f),toks:=t' }:=by
 have q:=PySem.IsL.update e f
 rw[hf] at q
 refine I.write (x:=l) (e:=l) (by rw[hH];exact trivial) (.inl rfl) (fun b' u hb hu=>(Heap.get?_update_other s.heap (Obj.mapSeq f) (Ne.symm hb)).trans hu) ⟨_,q⟩ ?_
 exact⟨hz,its',_,hv,q⟩
theorem Inv.lnew{its:List Value}{t':Nat}(I:Inv X pins σ H s)(hv:Vals ys its)(hz:ys.length≤sizeLine) :
 Inv X pins σ (upd H s.heap.objs.size (.lst ys)) { s with heap:=s.heap.push { cls:=.type "list",data:=.seq its.toArray },toks:=t' } :=
 I.laid (fun _ _ q=>ZT _ q) (ZG _) ⟨hz,its,0,hv,ZU _ rfl⟩
theorem Inv.fresh(I:Inv X pins σ H s):H s.heap.objs.size=none:=I.hok.fresh (ZG _)
theorem Inv.lstM(I:Inv X pins σ H s)(hH:H l=some (.lst xs)):xs.length≤sizeLine∧∃(its:List Value)(n:Nat),Vals xs its∧xs.length=its.length∧s.heap.get? l=some { cls:=.type "list",data:=.seq its.toArray n }:=by
 obtain⟨z,its,n,r,e⟩:=I.hok l _ hH
 exact⟨z,its,n,r,r.length,e⟩
theorem Jbg{n:Nat}(h:n≤sizeLine):Builtin.List.listTooLong n=false:=by
 unfold Builtin.List.listTooLong
 exact decide_eq_false (by omega)
end
section
variable {X:Cx}
def Jcz:V→List V→Hp→VK→Prop:=fun x vs H Q=>∃l xs y,x=.ref l∧vs=[y]∧H l=some (.lst xs)∧xs.length<sizeLine∧Q .non (upd H l (.lst (xs++[y])))
theorem Dm:MtM X "list.append" Jcz:=by
 intro pins s σ H x vs v us Q I rx rv h
 obtain⟨l,xs,y,rfl,rfl,hH,hz,q⟩:=h
 cases rx
 obtain⟨u,rfl,ru⟩:=rv.one
 obtain⟨z,its,n,r,hl,e⟩:=I.lstM hH
 refine call_meets F.slot_list_append ⟨_,e,rfl⟩ F.entry_list_append (F.args_list_append_2 _ _) (PySem.list_append l its.toArray n u (by rw[List.size_toArray];omega)) ⟨e,?_⟩
 refine⟨.non,_,I.lset (its':=its++[u]) hH e (by simp) (r.append (.cons ru .nil)) ?_,rfl,q⟩
 rw[ZE,List.length_singleton]
 omega
def Jcy:V→List V→Hp→VK→Prop:=fun x vs H Q=>∃l b xs zs,x=.ref l∧vs=[.ref b]∧H l=some (.lst xs)∧H b=some (.lst zs)∧xs.length+zs.length≤sizeLine∧Q .non (upd H l (.lst (xs++zs)))
theorem Yv:MtM X "list.extend" Jcy:=by
 intro pins s σ H x vs v us Q I rx rv h
 obtain⟨l,b,xs,zs,rfl,rfl,hH,hB,hz,q⟩:=h
 cases rx
 obtain⟨u,rfl,ru⟩:=rv.one
 cases ru
 obtain⟨z,its,n,r,hl,e⟩:=I.lstM hH
 obtain⟨z2,its2,n2,r2,hl2,e2⟩:=I.lstM hB
 have hsz:its.toArray.size+its2.toArray.size≤sizeLine:=by rw[List.size_toArray,List.size_toArray];omega
 have hlong:¬(!its.toArray.isEmpty&&Builtin.List.listTooLong (its.toArray.size+its2.toArray.size))=true:=by
  rw[Jbg hsz,Bool.and_false]
  exact Bool.false_ne_true
 refine call_meets F.slot_list_extend ⟨_,e,rfl⟩ F.entry_list_extend (F.args_list_extend_2 _ _)
  (AutoSeq1.list_extend_list_list_0 l its.toArray n b its2.toArray n2 hlong (by rw[List.size_toArray];omega) (by omega)) ⟨e,e2,?_⟩
 refine⟨.non,_,I.lset (its':=its++its2) hH e (by simp) (r.append r2) ?_,rfl,q⟩
 rw[ZE]
 omega
def Jh7:V→List V→Hp→VK→Prop:=fun x vs H Q=>∃l xs y,x=.ref l∧vs=[]∧H l=some (.lst xs)∧xs[xs.length-1]?=some y∧Q y (upd H l (.lst xs.dropLast))
theorem Jfm:MtM X "list.pop" Jh7:=by
 intro pins s σ H x vs v us Q I rx rv h
 obtain⟨l,xs,y,rfl,rfl,hH,hy,q⟩:=h
 cases rx
 have hus:=rv.zero
 subst hus
 obtain⟨z,its,n,r,hl,e⟩:=I.lstM hH
 obtain⟨u,hu,ru⟩:=r.get hy
 have hy':its.toArray[its.toArray.size-1]?=some u:=by
  show its.toArray[its.length-1]?=some u
  rw[←Array.getElem?_toList,←hl]
  exact hu
 refine call_meets F.slot_list_pop ⟨_,e,rfl⟩ F.entry_list_pop (F.args_list_pop_1 _) (MeetsSeq.list_pop_last l its.toArray n u hy' (by rw[List.size_toArray];omega)) ⟨e,?_⟩
 refine⟨y,_,I.lset (its':=its.dropLast) hH e ?_ r.dropLast ?_,ru,q⟩
 ·show its.toArray.eraseIdxIfInBounds (its.toArray.size-1)=its.dropLast.toArray
  rw[List.size_toArray,List.eraseIdxIfInBounds_toArray,V6]
 ·rw[List.length_dropLast]
  omega
def Jfa:V→List V→Hp→VK→Prop:=fun x vs H Q=>∃l xs,x=.ref l∧vs=[]∧H l=some (.lst xs)∧Q .non (upd H l (.lst []))
theorem Jbj:MtM X "list.clear" Jfa:=by
 intro pins s σ H x vs v us Q I rx rv h
 obtain⟨l,xs,rfl,rfl,hH,q⟩:=h
 cases rx
 have hus:=rv.zero
 subst hus
 obtain⟨z,its,n,r,hl,e⟩:=I.lstM hH
 refine call_meets F.slot_list_clear ⟨_,e,rfl⟩ F.entry_list_clear (F.args_list_clear_1 _) (AutoSeq1.list_clear_list_0 l its.toArray n (by rw[List.size_toArray];omega)) ⟨e,?_⟩
 exact⟨.non,_,I.lset (its':=[]) (ys:=[]) hH e rfl .nil (Nat.zero_le _),rfl,q⟩
def Jid:R2:=fun x y H Q=>∃l b xs zs,x=.ref l∧y=.ref b∧H l=some (.lst xs)∧H b=some (.lst zs)∧xs.length+zs.length≤sizeLine∧∀p,H p=none→Q (.ref p) (upd H p (.lst (xs++zs)))
theorem Jfi:OpR X (binaryOp .Add) Jid:=by
 intro pins s σ H x y v u Q I rx ry h
 obtain⟨l,b,xs,zs,rfl,rfl,hH,hB,hz,q⟩:=h
 cases rx
 cases ry
 obtain⟨z,its,n,r,hl,e⟩:=I.lstM hH
 obtain⟨z2,its2,n2,r2,hl2,e2⟩:=I.lstM hB
 refine PySem.P.add_list e e2 ?_ (by rw[List.size_toArray,List.size_toArray];omega)
 have ea:its.toArray++its2.toArray=(its++its2).toArray:=by simp
 rw[ea]
 exact⟨.ref _,_,I.lnew (t':=s.toks) (r.append r2) (by rw[ZE];omega),rfl,q _ I.fresh⟩
end
section
variable {prog:Program}{w:World}{A:Around}{E:Value→Shared→Prop}{s:Shared}
end
section
variable {X:Cx}
end
end L2
namespace Att
open PySem PySem.W PySem.Calls PyProof.Rows
theorem K0{P:Params}{h:Heap}:∀(ns:List Int)(vs:List Value),WellAll P h vs (ns.map WData.int)→IntsAre vs ns:=by
 intro ns
 induction ns with
 | nil =>
   intro vs w
   rw[List.map_nil] at w
   cases w
   exact .nil
 | cons n ns ih =>
   intro vs w
   rw[List.map_cons] at w
   cases w with
   | cons a b =>
     cases a
     exact .cons _ _ (ih _ b)
theorem Yh{l:OpenLaw}{n:Nat}(hn:l.most=some n){P:Params}{h:Heap}{args:List WData}{vals:List Value}(hpre:l.row.toRowW.claim.pre args=true)(hwl:WellAll P h vals args) :
 ∃a vs ns,vals=[Value.ref a]∧args=[WData.list (ns.map WData.int)]∧h.get? a=some { cls:=.type "list",data:=.seq vs.toArray }∧IntsAre vs ns∧ns.length≤n:=by
 have hsh:WShape.hasAll [] args [.list .int]=true:=(pre_splitW hpre).1
 have hc:l.pre.holds [] { args:=args }=true:=(pre_splitW hpre).2
 obtain⟨d,r,rfl,h1,h2⟩:=hasAllW_cons hsh
 obtain rfl:=hasAllW_nil h2
 obtain⟨xs,rfl,h3⟩:=hasW_list h1
 obtain⟨ns,rfl⟩:=items_int h3
 have hlen:ns.length≤n:=by
  unfold OpenLaw.pre at hc
  have h4:(WTm.not (.lt (.lit (.int (n:Int))) (.len (.arg 0)))).holds [] { args:=[.list (ns.map .int)] }=true:=by
   have h4:=(holds_andW hc).1
   rw[hn] at h4
   exact h4
  have h5:=condW_of h4 (w_not (w_lt w_lit (w_len_list (w_arg rfl))))
  rw[ZA] at h5
  refine Nat.le_of_not_lt fun q=>?_
  have q':(n:Int)<((ns.length:Nat):Int):=by omega
  first
   | (rw[decide_eq_true q'] at h5;exact absurd h5 (by decide))
   | (simp at h5;omega)
 cases hwl with
 | cons w1 w2 =>
   cases w2
   cases w1 with
   | list ho hall=>exact⟨_,_,ns,rfl,rfl,ho,K0 ns _ hall,hlen⟩
theorem Yn(l:OpenLaw)(args:List WData):l.row.toRowW.claim.post args (.bool true) args=true :=
 postW_of (r:=l.row.toRowW) (X:=(true==true))
  (show WShape.has [] (.bool true) .bool=true by first|rfl|decide|simp[WShape.has,WShape.arms,WShape.armsAll])
  (show(WTm.eq .res (.lit (.bool true))).value [] { args:=args,res:=some (.bool true),after:=args }=some (.bool (true==true)) from w_eq_bool (w_res rfl) w_lit) rfl
theorem attach_call{l:OpenLaw}{n:Nat}{q:Program}{loose:List Str}{XP:(Str→Option Value)→Heap→Prop}{YP:World→Heap→Prop}{d:DefRec}(hn:l.most=some n)(hdf:d.params.defaults=[])(call:∀(w:World) (s₀ s₁:Shared) (mg mb:Str→Option Value) (fa:Addr) (o:Obj) (pm cd doc:Value) (a:Addr) (vs:List Value) (ns:List Int),
  Ground q loose [] XP w s₀ mg mb s₁.heap→YP w s₁.heap →
  s₁.heap.get? fa=some o→o.data=.func (docDef d.name d.params d.body d.scope pm cd doc)→s₁.heap.CodeRec cd d.name→mg d.name=some (.ref fa) →
  s₁.heap.get? a=some { cls:=.type "list",data:=.seq vs.toArray }→IntsAre vs ns→ns.length≤n→s₁.gens=#[] →
  codeAny (model l.prog w) callerA (.call (.ref fa) ⟨[.ref a],[]⟩) (fun r s'=>r=.ok (.ret (.bool true))∧OldK s₁.heap s'.heap∧s'.os=s₁.os∧AllBare s'.gens) s₁) :
 WalkO q loose XP YP l.row.toRowW d [] (fun f vs=>PySem.call f vs):=by
 intro w s₀ s₁ mg mb G Y fa o pm cd doc dV kV ho hd hcd hD hmg hg args vals as hpre hlay hrd hwl hlo
 obtain rfl:dV=.none:=Dflts.none hD hdf
 obtain rfl:kV=.none:=Dflts.noKw hD
 obtain⟨a,vs,ns,rfl,rfl,hobj,hints,hlen⟩:=Yh hn hpre hwl
 refine enter_call (codeAny_mono (call w s₀ s₁ mg mb fa o pm cd doc a vs ns G Y ho (fd_plain hd) hcd hmg hobj hints hlen hg) fun r s' hq=>?_)
 obtain⟨rfl,h2,h3,h4⟩:=hq
 exact⟨.inl ⟨.bool true,.bool true,[],rfl,fun _=>rfl,.bool true,Yn l _,fun _=>⟨List.Pairwise.nil,fun _ hm=>(nomatch hm)⟩⟩,h2,h3,h4⟩
section
variable {prog:Program}{w:World}{A:Around}{E:Value→Shared→Prop}{s:Shared}{K:Frag}
def ledger(h:Heap)(L d:Addr):List (Addr×Obj):=(List.range h.objs.size).filterMap fun a=>if a=L∨a=d then none else(h.get? a).map fun o=>(a,o)
end
end Att
namespace L2
open PySem PySem.Spec PyProof.Rows
theorem Jm:∀{vs:List Value} {ns:List Int},IntsAre vs ns→Vals (ns.map V.int) vs
 | _,_,.nil=>.nil
 | _,_,.cons n t h=>.cons ⟨t,rfl⟩ (Jm h)
def Jei(H:Hp):Prop:=∀b,H b=none∨∃o xs,H b=some (.frz o (.lst xs))
theorem Jbn{P:Program}{w:World}{K:W.Frag}{mg mb:Str→Option Value}{CX:CXT}{k:Nat}{fa a:Addr}{fd:FuncData}{x:Str}{sp:Sp}{s₁:Shared}{vs:List Value}{ns:List Int}(KX:K.In s₁.heap)(hns:s₁.heap.Ns mainGlobals mg)(hb:s₁.heap.Ns builtinsNs mb)(hbb:∀x:Str,x≠"__name__"→mb x=bootBuiltins x)(hlim:s₁.heap.NoLimit)(hg:s₁.gens=#[])(ha:s₁.heap.get? a=some { cls:=.type "list",data:=.seq vs.toArray })(hi:IntsAre vs ns)(hl:ns.length≤sizeLine)(hr:Room k callerA)(F:∀base:Heap,K.In base→base.Ns mainGlobals mg→FnOk P w K mg base CX k fa fd [x] sp)(hbind:∀(s:Shared) (u:Value),BindsTo s fd ⟨[u],[]⟩ [(x,u)])(hsp:∀H:Hp,Jei H→SqL K H a (ns.map V.int)→sp [.ref a] H (fun v _=>v=.bl true) fun _ _ _=>False)(hCX:∀H e s',CX [] H s₁ (fun _ _ _=>False) e s'→False) :
 codeAny (model P w) callerA (.call (.ref fa) ⟨[.ref a],[]⟩) (fun r s'=>r=.ok (.ret (.bool true))∧OldK s₁.heap s'.heap∧s'.os=s₁.os∧AllBare s'.gens) s₁:=by
 have rv:=Jm hi
 have lenV:=hi.length
 have core:∀H:Hp,Jei H→SqL K H a (ns.map V.int)→HOk P w H s₁.heap→(∀b,H b≠none→b=a)→(H a≠none→K.lookup a=none) →
  codeAny (model P w) callerA (.call (.ref fa) ⟨[.ref a],[]⟩) (fun r s'=>r=.ok (.ret (.bool true))∧OldK s₁.heap s'.heap∧s'.os=s₁.os∧AllBare s'.gens) s₁:=by
  intro H hO hS hok hA hK
  have base_of:∀{b:Addr} {o:Obj},s₁.heap.get? b=some o→H b=none→(Rl s₁.heap H).get? b=some o:=fun e n=>Jbs e n
  have noA:∀{b:Addr} {o:Obj} {es:Array DictEntry} {ep:Nat},s₁.heap.get? b=some o→o.data=.dict es ep→H b=none:=fun{b o es ep} e d=>by
   cases q:H b with
   | none=>rfl
   | some u =>
     have e':b=a:=hA b (by rw[q];simp)
     subst e'
     rw[ha] at e;cases e
     have d':Data.seq vs.toArray _=Data.dict es ep:=d
     cases d'
  have nsK:∀{b:Addr} {m:Str→Option Value},s₁.heap.Ns b m→(Rl s₁.heap H).Ns b m:=fun{b m} ⟨o,es,ep,e,d,r⟩=>⟨o,es,ep,base_of e (noA e d),d,r⟩
  have hKb:K.In (Rl s₁.heap H):=fun b o e=>base_of (KX b o e) (by
   cases q:H b with
   | none=>rfl
   | some u =>
     have e':b=a:=hA b (by rw[q];simp)
     subst e'
     rw[hK (by rw[q];simp)] at e;cases e)
  have hM:Mod K mg (Rl s₁.heap H):=⟨hKb,nsK hns,⟨mb,nsK hb,hbb⟩,let⟨mc,h1,h2⟩:=hlim;⟨mc,nsK h1,h2⟩⟩
  have e0:Env0 P w K mg (Rl s₁.heap H) callerA [] s₁ H:=⟨rfl,hM,fun b o e=>Jdn e,Nat.le_of_eq (Y9 _ _),trivial,fun b hb=>absurd (show b∈([]:List Addr) from hb) (by simp),hok,.of_eq hg⟩
  refine codeAny_mono ((F _ hKb (nsK hns)).run callerA [] s₁ H ⟨[.ref a],[]⟩ [.ref a] [.ref a] _ _ hr e0 (hbind s₁ (.ref a)) (.cons rfl .nil) (hsp H hO hS)) fun r s' h=>?_
  cases r with
  | error e=>exact(hCX H e s' h).elim
  | ok fl =>
    cases fl with
    | next=>exact False.elim h
    | brk=>exact False.elim h
    | cont=>exact False.elim h
    | ret u =>
      obtain⟨v,H',os,bare,un,hok',r',q⟩:=h
      have q':v=.bl true:=q
      subst q'
      obtain rfl:u=Value.bool true:=r'
      refine⟨rfl,OldK.of_keep fun b o e=>?_,os,bare⟩
      cases q:H b with
      | none=>exact un.keep b o e q (by intro z;exact absurd (show b∈([]:List Addr) from z) (by simp)) (by simp)
      | some u =>
        rcases hO b with z|⟨ob,xs,z⟩
        ·rw[q] at z;cases z
        ·have z2:=un.frzs b ob _ z
         obtain⟨e1,_⟩:=hok b _ z
         obtain⟨e2,_⟩:=hok' b _ z2
         rw[e] at e1;cases e1
         exact e2
 cases hk:K.lookup a with
 | some o =>
   have e:=KX a o hk
   rw[ha] at e
   cases e
   refine core (fun _=>none) (fun _=>.inl rfl) (.inr ⟨_,vs.toArray,_,hk,rfl,rfl,rfl,by rw[List.size_toArray,lenV];exact hl,by simpa using rv⟩) (fun b u z=>by have z':(none:Option HO)=some u:=z;cases z') (fun b z=>absurd rfl z) fun z=>absurd rfl z
 | none =>
   refine core (fun b=>if b=a then some (.frz { cls:=.type "list",data:=.seq vs.toArray } (.lst (ns.map V.int))) else none) (fun b=>?_) (.inl (.inr ⟨{ cls:=.type "list",data:=.seq vs.toArray },if_pos rfl⟩)) (fun b u z=>?_) (fun b z=>?_) fun _=>hk
   ·by_cases hb:b=a
    ·exact .inr ⟨_,_,if_pos hb⟩
    ·exact .inl (if_neg hb)
   ·by_cases hb:b=a
    ·have z':=(if_pos hb).symm.trans z
     cases z'
     subst hb
     exact⟨ha,by rw[ZA];exact hl,vs,_,rv,ha⟩
    ·have z':=(if_neg hb).symm.trans z
     cases z'
   ·by_cases hb:b=a
    ·exact hb
    ·exact absurd (if_neg hb) z
abbrev KOf{K:W.Frag}{h:Heap}(_:K.In h):W.Frag:=K
theorem walk_of{l:W.OpenLaw}{n k:Nat}{q:Program}{loose:List Str}{XP:(Str→Option Value)→Heap→Prop}{YP:World→Heap→Prop}{d:DefRec}{K:Params→W.Frag}{CX:World→CXT}{sp:World→Sp}{x:Str}(hn:l.most=some n)(hn2:n≤sizeLine)(hdf:d.params.defaults=[])(hr:Room k callerA)(hY:∀(w:World) (h:Heap),YP w h→(K w.params).In h)(F:∀(w:World) (mg:Str→Option Value) (fa:Addr) (h:Heap),(K w.params).In h→h.Ns mainGlobals mg→mg d.name=some (.ref fa) →
  ∃fd:FuncData,(∀(s:Shared) (u:Value),BindsTo s fd ⟨[u],[]⟩ [(x,u)]) ∧
   ∀base:Heap,(K w.params).In base→base.Ns mainGlobals mg→FnOk l.prog w (K w.params) mg base (CX w) k fa fd [x] (sp w))(hsp:∀(w:World) (H:Hp) (a:Addr) (ns:List Int),ns.length≤n→Jei H→SqL (K w.params) H a (ns.map V.int)→sp w [.ref a] H (fun v _=>v=.bl true) fun _ _ _=>False)(hCX:∀(w:World) (H:Hp) (s:Shared) (e:Value) (s':Shared),CX w [] H s (fun _ _ _=>False) e s'→False) :
 W.WalkO q loose XP YP l.row.toRowW d [] (fun f vs=>PySem.call f vs):=by
 refine Att.attach_call hn hdf fun w s₀ s₁ mg mb fa o pm cd doc a vs ns G Y ho hd hcd hmg hobj hints hlen hg=>?_
 have KX:=hY w _ Y
 obtain⟨fd,hb,hF⟩:=F w mg fa _ KX G.T.g hmg
 exact Jbn KX G.T.g G.T.b G.T.builtins G.T.nolimit hg hobj hints (Nat.le_trans hlen hn2) hr hF hb (fun H hO hS=>hsp w H a ns hlen hO hS) fun H e s'=>hCX w H s₁ e s'
def inClass(s:Stmt)(j:Nat):Stmt:=match s with
 | .ClassDef _ _ _ body _ _ _ _ _ _ _=>body.getD j (.Pass ⟨0,0,0,0⟩)
 | _=>.Pass ⟨0,0,0,0⟩
def Lk(s:Stmt):Arguments:=match s with
 | .FunctionDef _ a _ _ _ _ _ _ _ _=>a
 | _=>{ posonlyargs:=[],args:=[],vararg:=none,kwonlyargs:=[],kw_defaults:=[],kwarg:=none,defaults:=[] }
def Gv(s:Stmt):List Stmt:=match s with
 | .FunctionDef _ _ b _ _ _ _ _ _ _=>b
 | _=>[]
def Aj(s:Stmt):Scope:=match s with
 | .FunctionDef _ _ _ _ _ _ sc _ _ _=>sc
 | _=>{ kind:=.function,names:=[],isGenerator:=false,isCoroutine:=false }
abbrev CX0:CXT:=fun _ _ _ _ _ _=>False
abbrev E0:XK:=fun _ _ _=>False
theorem Bj{X:Cx}:Fn CX0 X E0:=fun _ _ _ _ _ _ _ h=>h.elim
structure Fun(K:W.Frag)(x qual:Str)(st:Stmt)(f:Addr)(fd:FuncData):Prop where
 ex:∃(oc:Value)(od:Option Addr)(kV doc pm:Value)(an:Option Addr)(cdv ct:Value)(osl:Array (Option Value)),
  fd=W.fnOf x qual (Lk st) (Gv st) (Aj st) .none kV doc pm an cdv ct∧K.lookup f=some ⟨oc,od,.func fd,osl⟩∧W.codeIn K cdv qual=true
 kp:W.keepIn K (.ref f)=true
section
variable {P:Program}{w:World}{K:W.Frag}{mg:Str→Option Value}{base:Heap}
theorem Fun.ok{x qual:Str}{st:Stmt}{f:Addr}{fd:FuncData}{N ps:List Str}{k:Nat}{sp:Sp}(F:Fun K x qual st f fd)(S:Ao N ps (Aj st))(len:∀vs H Q E,sp vs H Q E→vs.length=ps.length)(hbody:∀(cdv:Value) (A:Around) (outer:List Env) (s:Shared) (H:Hp) (vs:List V) (Q:VK) (E:XK),Room k (A.deeper (envOfC qual (Aj st) s.heap.objs.size f cdv))→sp vs H Q E →
  ∃t,PSs (Ke CX0 P w K mg base N qual (Aj st) f cdv A outer s H E).nox (Gv st) t∧t { nx:=fun _ H'=>Q .non H',rt:=Q } (start N vs) H):FnOk P w K mg base CX0 (k+1) f fd ps sp:=by
 obtain⟨oc,od,kV,doc,pm,an,cdv,ct,osl,rfl,lk,hcd⟩:=F.ex
 refine Jer lk hcd S len fun A outer s H vs Q E hr hsp=>?_
 obtain⟨t,h,q⟩:=hbody cdv A outer s H vs Q E hr hsp
 exact⟨t,h.nox,q⟩
theorem Fun.binds{x qual:Str}{st:Stmt}{f:Addr}{fd:FuncData}{ps:List Str}(F:Fun K x qual st f fd)(h:∀(kV doc pm:Value) (an:Option Addr) (cdv ct:Value) (us:List Value),us.length=ps.length→bindArgs (W.fnOf x qual (Lk st) (Gv st) (Aj st) .none kV doc pm an cdv ct) ⟨us,[]⟩=pure (ps.zip us)):Binds K fd ps []:=by
 obtain⟨oc,od,kV,doc,pm,an,cdv,ct,osl,rfl,lk,hcd⟩:=F.ex
 exact .all (h kV doc pm an cdv ct)
end
theorem Cm{A:Around}{k:Nat}(hr:Room k A):A.units+1<cLine:=Nat.lt_of_le_of_lt (Nat.add_le_add_left (by decide:1≤64) _) hr.units
theorem A3{n:Nat}(h:n≤1000):n<sizeLine:=Nat.lt_of_le_of_lt h (by decide)
section
variable {X:Cx}
theorem pv(i:Nat){x:Str}{pos:Pos}(hN:X.N[i]?=some x:=by rfl)(hv:Vis X.env.scope x:=by first|exact Or.inl rfl|exact Or.inr (Or.inl rfl)|exact Or.inr (Or.inr rfl))(hd:(x==("__debug__":Str))=false:=by decide)(hcd:(x==("__classdict__":Str))=false:=by decide):PE X (.Name x pos) (Co i):=Jfb hN hv hd hcd
end
theorem B0{A B:Prop}(h:B):if false=true then A else B:=by
 rw[if_neg Bool.false_ne_true]
 exact h
theorem Cd{A B:Prop}(h:A):if true=true then A else B:=by
 rw[if_pos rfl]
 exact h
theorem Ue{c A B:Prop}[Decidable c](h1:c→A)(h2:¬c→B):if c then A else B:=by
 by_cases h:c
 ·rw[if_pos h]
  exact h1 h
 ·rw[if_neg h]
  exact h2 h
def Bp(H H':Hp):Prop:=∀b o,H b=some o→H' b=some o
section
variable {κ:Type}[DecidableEq κ]
theorem Er:∀{l:List κ} {k:κ},l.Nodup→¬k∈l→(l++[k]).Nodup
 | [],k,_,_=>by simp
 | a::r,k,h,hk=>by
   obtain⟨h1,h2⟩:=List.nodup_cons.mp h
   show(a::(r++[k])).Nodup
   refine List.nodup_cons.mpr ⟨fun m=>?_,Er h2 fun m=>hk (List.mem_cons.mpr (Or.inr m))⟩
   rcases ZI m with q|q
   ·exact h1 q
   ·exact hk (List.mem_cons.mpr (Or.inl (ZK q).symm))
theorem Zf{p:κ×V}{r:List (κ×V)}{k:κ}(e:p.1=k):C4 (p::r) k=C4 r k:=by
 unfold C4
 rw[List.filter_cons,if_neg (by simp[e])]
theorem O6{p:κ×V}{r:List (κ×V)}{k:κ}(e:¬p.1=k):C4 (p::r) k=p::C4 r k:=by
 unfold C4
 rw[List.filter_cons,if_pos (by simp[e])]
theorem Nl:∀{kvs:List (κ×V)} {k:κ},¬k∈kvs.map (·.1)→C4 kvs k=kvs
 | [],_,_=>rfl
 | p::r,k,h=>by
   have h':¬k∈r.map (·.1):=fun m=>by
    obtain⟨q,hq,e⟩:=ZN m
    exact h (List.mem_map.mpr ⟨q,List.mem_cons.mpr (Or.inr hq),e⟩)
   rw[O6 fun e=>h (List.mem_map.mpr ⟨p,List.mem_cons.mpr (Or.inl rfl),e⟩),Nl h']
end
end L2
set_option maxHeartbeats 4000000
namespace FX
open PySem PySem.Spec PyProof.Rows L2
inductive RepT(K:W.Frag)(H:Hp):V→PyData→Prop
 | non:RepT K H .non .none
 | bl (b:Bool):RepT K H (.bl b) (.bool b)
 | int (i:Int):RepT K H (.int i) (.int i)
 | str (x:Str):RepT K H (.str x) (.str x)
 | tup {a:Addr} {xs:List V} {ds:List PyData}:SqT K H a xs→xs.length=ds.length→(∀(j:Nat)(x:V)(d:PyData),xs[j]?=some x→ds[j]?=some d→RepT K H x d)→RepT K H (.ref a) (.tuple ds)
inductive Rep(K:W.Frag)(H:Hp):V→PyData→Prop
 | one {x:V} {d:PyData}:RepT K H x d→Rep K H x d
 | lst {a:Addr} {xs:List V} {ds:List PyData}:SqL K H a xs→Paired (RepT K H) xs ds→Rep K H (.ref a) (.list ds)
theorem A2{α β:Type}{R:α→β→Prop}:∀{xs:List α} {ys:List β},Paired R xs ys→∀(j:Nat)(x:α)(y:β),xs[j]?=some x→ys[j]?=some y→R x y
 | _,_,.nil,j,x,y,h,_=>by simp at h
 | _,_,.cons r t,0,x,y,h,h'=>by simp at h h';subst h;subst h';exact r
 | _,_,.cons r t,j+1,x,y,h,h'=>A2 t j x y (by simpa using h) (by simpa using h')
theorem Dl{α β:Type}{R:α→β→Prop}:∀{xs:List α} {ys:List β},xs.length=ys.length→(∀(j:Nat)(x:α)(y:β),xs[j]?=some x→ys[j]?=some y→R x y)→Paired R xs ys
 | [],[],_,_=>.nil
 | x::xs,y::ys,hl,h=>.cons (h 0 x y rfl rfl) (Dl (by simpa using hl) fun j a b e1 e2=>h (j+1) a b (by simpa using e1) (by simpa using e2))
 | [],_::_,hl,_=>by simp at hl
 | _::_,[],hl,_=>by simp at hl
theorem RepT.tupP{K:W.Frag}{H:Hp}{a:Addr}{xs:List V}{ds:List PyData}(h:SqT K H a xs)(r:Paired (RepT K H) xs ds):RepT K H (.ref a) (.tuple ds) :=
 .tup h (Paired.length r) fun j x d e1 e2=>A2 r j x d e1 e2
structure KeepT(H H':Hp):Prop where
 tup:∀a xs,H a=some (.tup xs)→H' a=some (.tup xs)
 frz:∀a o u,H a=some (.frz o u)→H' a=some (.frz o u)
theorem KeepT.trans{H H1 H2:Hp}(a:KeepT H H1)(b:KeepT H1 H2):KeepT H H2:=⟨fun c xs e=>b.tup c xs (a.tup c xs e),fun c o u e=>b.frz c o u (a.frz c o u e)⟩
theorem Ji0{H H':Hp}(s:Bp H H'):KeepT H H':=⟨fun a xs e=>s a _ e,fun a o u e=>s a _ e⟩
theorem KeepT.sq{K:W.Frag}{H H':Hp}(k:KeepT H H'){a:Addr}{xs:List V}(h:SqT K H a xs):SqT K H' a xs:=by
 rcases h with(e|⟨o,e⟩)|z
 ·exact .inl (.inl (k.tup a xs e))
 ·exact .inl (.inr ⟨o,k.frz a o _ e⟩)
 ·exact .inr z
theorem Ji1{H:Hp}{p:Addr}{o:HO}(h:∀o',H p=some o'→(∀xs,o'≠.tup xs)∧∀b u,o'≠.frz b u):KeepT H (upd H p o) :=
 ⟨fun a xs e=>by
  have:a≠p:=fun z=>by subst z;exact(h _ e).1 xs rfl
  rw[Ad this];exact e,
  fun a b u e=>by
   have:a≠p:=fun z=>by subst z;exact(h _ e).2 b u rfl
   rw[Ad this];exact e⟩
theorem RepT.keep{K:W.Frag}{H H':Hp}(k:KeepT H H'){v:V}{d:PyData}(r:RepT K H v d):RepT K H' v d:=by
 induction r with
 | non=>exact .non
 | bl b=>exact .bl b
 | int i=>exact .int i
 | str x=>exact .str x
 | tup h hl _ ih=>exact .tup (k.sq h) hl fun j x d e1 e2=>ih j x d e1 e2
section
variable {X:Cx}{pins:List (Addr×Obj)}{σ:L2.St}{H:Hp}{s:Shared}
theorem Eo{h:Heap}:∀{xs:List V} {us:List Value} {ds:List PyData},Vals xs us→xs.length=ds.length →
 (∀(j:Nat)(x:V)(d:PyData),xs[j]?=some x→ds[j]?=some d→∀u,RelV x u→∃as,Reads h u d as)→∃as,ReadsAll h us ds as
 | _,_,[],.nil,_,_=>⟨[],.nil⟩
 | _,_,d::ds,.cons (a:=x) (b:=u) r t,hl,f=>by
   obtain⟨as,r1⟩:=f 0 x d rfl rfl u r
   obtain⟨bs,r2⟩:=Eo t (by simpa using hl) fun j y e h1 h2=>f (j+1) y e (by simpa using h1) (by simpa using h2)
   exact⟨as++bs,.cons r1 r2⟩
 | _,_,_::_,.nil,hl,_=>by simp at hl
 | _,_,[],.cons _ _,hl,_=>by simp at hl
theorem RepT.reads(I:Inv X pins σ H s){v:V}{d:PyData}(r:RepT X.K H v d):∀u,RelV v u→∃as,Reads s.heap u d as:=by
 induction r with
 | non=>intro u e;cases e;exact⟨_,.none⟩
 | bl b=>intro u e;cases e;exact⟨_,.bool b⟩
 | int i=>intro u e;obtain⟨t,rfl⟩:=e;exact⟨_,.int i t⟩
 | str x=>intro u e;obtain⟨t,rfl⟩:=e;exact⟨_,.str x t⟩
 | tup h hl _ ih =>
   intro u e
   cases e
   obtain⟨its,rv,⟨o,ho,hc,n,hd⟩,_⟩:=I.tuple h
   obtain⟨as,ra⟩:=Eo rv hl fun j x d e1 e2=>ih j x d e1 e2
   exact⟨as,.tuple ho hc hd (by simpa using ra)⟩
theorem Rep.reads(I:Inv X pins σ H s){v:V}{d:PyData}(r:Rep X.K H v d){u:Value}(e:RelV v u):∃as,Reads s.heap u d as:=by
 cases r with
 | one r=>exact r.reads I u e
 | lst h p =>
   cases e
   obtain⟨its,rv,pl,_⟩:=I.list h
   obtain⟨o,ho,hc,n,hd⟩:=pl.isList
   obtain⟨as,ra⟩:=Eo rv (Paired.length p) fun j x d e1 e2=>(A2 p j x d e1 e2).reads I
   exact⟨_,.list ho hc hd (by simpa using ra)⟩
def Okd(d:PyData):Prop:=d.canLay0=true∧d.depth≤40
def Jic(K:W.Frag):R2:=fun x y H Q=>∃d e,Rep K H x d∧Rep K H y e∧Okd d∧Okd e∧Q (.bl (PyData.eqv d e)) H
def Jh9(K:W.Frag):R2:=fun x y H Q=>∃d e,Rep K H x d∧Rep K H y e∧Okd d∧Okd e∧Q (.bl (!PyData.eqv d e)) H
theorem Qw(hu:X.A.units+64<cLine):OpR X (compareOp .Eq) (Jic X.K):=by
 intro pins s σ H x y v u Q I rx ry h
 obtain⟨d,e,r1,r2,o1,o2,q⟩:=h
 obtain⟨as,g1⟩:=r1.reads I rx
 obtain⟨bs,g2⟩:=r2.reads I ry
 exact PySem.SeqAt.compareEq_reads g1 g2 o1.1 o2.1 (by have:=o1.2;omega) ⟨.bl _,H,I,rfl,q⟩
theorem Qv(hu:X.A.units+64<cLine):OpR X (compareOp .NotEq) (Jh9 X.K):=by
 intro pins s σ H x y v u Q I rx ry h
 obtain⟨d,e,r1,r2,o1,o2,q⟩:=h
 obtain⟨as,g1⟩:=r1.reads I rx
 obtain⟨bs,g2⟩:=r2.reads I ry
 exact PySem.SeqAt.compareNe_reads g1 g2 o1.1 o2.1 (by have:=o1.2;omega) ⟨.bl _,H,I,rfl,q⟩
theorem F8{d:PyData}(h:Okd d):PyData.eqv d d=true:=PySem.SeqAt.eqv_refl d h.1
theorem K1{A:Around}{k:Nat}(r:Room k A):A.units+64<cLine:=r.units
end
def Zo(p d:Addr):HO:=.ext fun h=>h.IsValuesView p d
section
variable {X:Cx}
theorem Xq{κ:Type}:∀{kvs:List (κ×V)} {vs:List (κ×Value)},KV kvs vs→Vals (kvs.map (·.2)) (vs.map (·.2))
 | _,_,.nil=>.nil
 | _,_,.cons r t=>.cons r.2 (Xq t)
theorem Yu:MtR X "dict.values" (fun x xs H Q=>∃d kvs,x=.ref d∧xs=[]∧H d=some (.dK kvs)∧∀p,H p=none→Q (.ref p) (upd H p (Zo p d))):=by
 intro pins s σ H x xs v us Q I rx rs h
 obtain⟨d,kvs,rfl,rfl,hd,q⟩:=h
 cases rx
 cases rs
 obtain⟨z,lo,vs,rel,dd⟩:=Ut I.hok hd
 refine PySem.call_meetsIn PySem.F.slot_dict_values dd.typeIs PySem.F.entry_dict_values (PySem.F.args_dict_values_1 _) (meets_dict_values (A8 X.prog X.w) d lo) ⟨⟨vs,dd⟩,?_⟩
 have hn:H s.heap.objs.size=none:=I.hok.fresh (ZG _)
 refine⟨.ref s.heap.objs.size,_,I.laid (a:=s.heap.objs.size) (o:=Zo s.heap.objs.size d) (t':=s.toks) (fun b o e=>ZT _ e) (ZG _) ?_,rfl,q _ hn⟩
 have g:(s.heap.push { cls:=.type "dict_values",data:=.fields #[.ref d] }).get? s.heap.objs.size=some { cls:=.type "dict_values",data:=.fields #[.ref d] }:=ZU _ rfl
 exact⟨⟨_,g,rfl,rfl⟩,⟨_,g⟩,fun h1 h2 ⟨o,e,r⟩ k=>⟨o,k o e,r⟩⟩
theorem Kg(hc:X.calm=true):Em X (.type "list") (fun xs H Q=>∃p d kvs,xs=[.ref p]∧H p=some (Zo p d)∧H d=some (.dK kvs)∧∀l,H l=none→Q (.ref l) (upd H l (.lst (kvs.map (·.2))))):=by
 intro pins s σ H xs us Q I r h
 obtain⟨p,d,kvs,rfl,hp,hd,q⟩:=h
 obtain⟨u,rfl,rx⟩:=vals1 r
 cases rx
 obtain⟨z,lo,vs,rel,dd⟩:=Ut I.hok hd
 obtain⟨ep,da⟩:=dd.dictAt
 have hv:s.heap.IsValuesView p d:=(I.hok p _ hp).1
 refine W.kdl_call (W.kdl_values (knd:=A8 X.prog X.w) (r:=p) (d:=d) (kvs:=vs) (ep:=ep)) (I.ok.hd hc) ⟨hv,da⟩ (by rw[←rel.length];exact z) fun h' tk acc' c' kp e ha=>?_
 have hn:H s.heap.objs.size=none:=I.hok.fresh (ZG _)
 have e1:acc'.toList=vs.map (·.2):=W.kdl_vals_eq acc'.toList (by rw[Array.length_toList];exact ha.1) fun j v hj=>ha.2 j v (by rw[←Array.getElem?_toList];exact hj)
 refine⟨.ref s.heap.objs.size,_,I.laid (t':=tk) kp (ZG _) (show ObjOk X.prog X.w _ h' _ (.lst (kvs.map (·.2))) from⟨by rw[ZA];exact z,acc'.toList,c',?_,by simpa using e⟩),rfl,q _ hn⟩
 rw[e1]
 exact Xq rel
end
theorem Ah{H:Hp}{p:Addr}{o:HO}(hp:H p=none):Bp H (upd H p o):=fun b u e=>by rw[Ad (Am e hp)];exact e
theorem Ak{H H1 H2:Hp}(a:Bp H H1)(b:Bp H1 H2):Bp H H2:=fun c o h=>b c o (a c o h)
theorem B5{H H':Hp}(e:Bp H H'){l:Addr}(h:H' l=none):H l=none:=by
 cases q:H l with
 | none=>rfl
 | some o=>rw[e l o q] at h;cases h
theorem Iw{α β:Type}{R:α→β→Prop}:∀{xs:List α} {ys:List β} (j:Nat),Paired R xs ys→Paired R (xs.eraseIdx j) (ys.eraseIdx j)
 | _,_,_,.nil=>.nil
 | _,_,0,.cons _ t=>t
 | _,_,j+1,.cons r t=>.cons r (Iw j t)
theorem Ep{α β:Type}{R:α→β→Prop}{x:α}{y:β}(r:R x y):∀{xs:List α} {ys:List β},Paired R xs ys→Paired R (xs++[x]) (ys++[y])
 | _,_,.nil=>.cons r .nil
 | _,_,.cons q t=>.cons q (Ep r t)
theorem Ay{α β:Type}{R S:α→β→Prop}(f:∀a b,R a b→S a b):∀{xs:List α} {ys:List β},Paired R xs ys→Paired S xs ys
 | _,_,.nil=>.nil
 | _,_,.cons q t=>.cons (f _ _ q) (Ay f t)
theorem Dc{α:Type}{xs:List α}{i:Int}{v:α}(h0:0≤i)(h:xs[i.toNat]?=some v):atI xs i=some v:=by
 have:=Jed h
 rwa [Int.toNat_of_nonneg h0] at this
theorem A1{α:Type}{xs:List α}{j:Nat}(h:j<xs.length):∃x,xs[j]?=some x:=⟨xs[j],List.getElem?_eq_some_iff.mpr ⟨h,rfl⟩⟩
theorem Jeo{ds:List PyData}(h:∀d∈ds,d.canLay0=true∧d.depth≤20):PyData.canLayAll0 ds=true∧PyData.depthAll ds≤20:=by
 induction ds with
 | nil=>exact⟨by simp[PyData.canLayAll0],by simp[PyData.depthAll]⟩
 | cons d ds ih =>
   obtain⟨a,b⟩:=ih fun e he=>h e (ZD _ he)
   obtain⟨c,g⟩:=h d (ZL ..)
   exact⟨by simp[PyData.canLayAll0,a,c],by simp only[PyData.depthAll];omega⟩
theorem Ds{ds:List PyData}(h:∀d∈ds,d.canLay0=true∧d.depth≤20):Okd (.list ds):=by
 obtain⟨a,b⟩:=Jeo h
 exact⟨by simp only[PyData.canLay0];exact a,by simp only[PyData.depth];omega⟩
theorem E8{ds:List PyData}(h:∀d∈ds,d.canLay0=true∧d.depth≤20):Okd (.tuple ds):=by
 obtain⟨a,b⟩:=Jeo h
 exact⟨by simp only[PyData.canLay0];exact a,by simp only[PyData.depth];omega⟩
section
variable {X:Cx}{γ:Type}
def tG(Pre:γ→L2.St→Hp→Prop)(Post:γ→L2.St→Hp→Prop)(R:VK):TS:=fun D σ H=>∃g,Pre g σ H∧(∀σ' H',Post g σ' H'→D.nx σ' H')∧∀v H',R v H'→D.rt v H'
theorem Jci{pins:List (Addr×Obj)}{D D':Ends}(h1:∀σ H,D.nx σ H→D'.nx σ H)(h2:∀v H,D.rt v H→D'.rt v H)(h3:∀σ H,D.bk σ H→D'.bk σ H)(h4:∀σ H,D.ct σ H→D'.ct σ H){f:Flow}{s:Shared}(h:SP X pins D f s):SP X pins D' f s:=by
 cases f with
 | next=>obtain⟨σ,H,I,q⟩:=h;exact⟨σ,H,I,h1 _ _ q⟩
 | brk=>obtain⟨σ,H,I,q⟩:=h;exact⟨σ,H,I,h3 _ _ q⟩
 | cont=>obtain⟨σ,H,I,q⟩:=h;exact⟨σ,H,I,h4 _ _ q⟩
 | ret u=>obtain⟨v,σ,H,I,r,q⟩:=h;exact⟨v,σ,H,I,r,h2 _ _ q⟩
theorem Jiv{st:Stmt}{t:TS}(Pre Post:γ→L2.St→Hp→Prop)(R:VK)(h:PS X st t)(i:∀g σ H,Pre g σ H→t { nx:=Post g,rt:=R } σ H):PS X st (tG Pre Post R):=fun pins s σ H D I ⟨g,p,k1,k2⟩ =>
 thn (h pins s σ H { nx:=Post g,rt:=R } I (i g σ H p)) fun f s' q=>Jci (D:={ nx:=Post g,rt:=R }) k1 k2 (fun _ _ z=>False.elim z) (fun _ _ z=>False.elim z) q
end
def Scr(K:W.Frag)(H:Hp)(a:Addr)(xs:List V):Prop:=(∃o,H a=some (.frz o (.lst xs)))∨∀H':Hp,SqL K H' a xs
theorem Scr.sq{K:W.Frag}{H:Hp}{a:Addr}{xs:List V}(h:Scr K H a xs):SqL K H a xs:=h.elim (fun⟨o,e⟩=>.inl (.inr ⟨o,e⟩)) fun z=>z H
theorem Scr.keep{K:W.Frag}{H H':Hp}{a:Addr}{xs:List V}(h:Scr K H a xs)(kt:KeepT H H'):Scr K H' a xs:=h.elim (fun⟨o,e⟩=>.inl ⟨o,kt.frz _ _ _ e⟩) fun z=>.inr z
theorem Scr.of{K:W.Frag}{H:Hp}{a:Addr}{xs:List V}(hO:Jei H)(h:SqL K H a xs):Scr K H a xs:=by
 rcases h with(e|⟨o,e⟩)|z
 ·rcases hO a with q|⟨o,ys,q⟩
  ·rw[q] at e;cases e
  ·rw[q] at e;cases e
 ·exact .inl ⟨o,e⟩
 ·exact .inr fun H'=>.inr z
theorem O9{prog:Program}{w:World}{A:Around}{R:Result→Shared→Prop}{s:Shared}{elt target iter:Expr}{ifs:List Expr}{scope:Scope}{pos:Pos}{it acc:Value}{env:Env}(J:Nat→Shared→Prop)(turn:∀k s0,J k s0→wpAny (model prog w) A (pyNext it) (fun r s1=>match r with
  | none=>R (.ok .next) s1
  | some v=>wpAny (model prog w) A (letOwnedTupleGo target it v) (fun _ sg=>wpAny (model prog w) A (assign target env v) (fun _ s2 =>
   wpAny (model prog w) A (forIn ifs true fun c r=>if r=true then do let ok ←isTrue c env (eval c env);pure (ForInStep.yield ok) else pure (ForInStep.yield r)) (fun ok s3 =>
    if ok=true then wpAny (model prog w) A (eval elt env) (fun x s4 =>
     wpAny (model prog w) A (call (.builtin "list.append") [acc,x]) (fun _ s5=>∃m,m<k∧J m s5) (fun _ _=>False) s4) (fun _ _=>False) s3
    else ∃m,m<k∧J m s3) (fun _ _=>False) s2) (fun _ _=>False) sg) (fun _ _=>False) s1) (fun _ _=>False) s0)(k:Nat)(h:J k s):codeAny (model prog w) A (.compLoop (.ListComp elt [⟨target,iter,ifs,0⟩] scope pos) 0 it acc env) R s:=by
 refine codeAny_loop rfl J (fun k s0 hI=>?_) k h
 show wpAny _ A ((compTurn (.ListComp elt [⟨target,iter,ifs,0⟩] scope pos) 0 it acc env).onRaise (fun x=>do noteFrame x env;theTreesLotGoes x)) _ _ s0
 have no:∀{E:Value→Shared→Prop} (e:Value) (s':Shared),False→notedBy (model prog w) A env E e s':=fun _ _ z=>z.elim
 refine wpAny_noted ?_
 rw[compTurn_list]
 refine ZR (wpAny_standAt (ZR (wpAny_mono (turn k s0 hI) (fun r s1 h1=>?_) no)))
 cases r with
 | none=>exact ZS h1
 | some v =>
   refine ZR (wpAny_mono h1 (fun _ sg hg=>ZR (wpAny_mono hg (fun _ s2 h2=>ZR (wpAny_mono h2 (fun ok s3 h3=>?_) no)) no)) no)
   cases ok with
   | false =>
     simp only[Bool.false_eq_true,if_false] at h3 ⊢
     exact ZS ⟨rfl,h3⟩
   | true =>
     simp only[if_true] at h3 ⊢
     exact ZR (ZR (wpAny_mono h3 (fun x s4 h4=>ZR (wpAny_mono h4 (fun _ s5 h5=>ZS (ZS ⟨rfl,h5⟩)) no)) no))
def blk(X:Cx)(sc:Scope)(cl:List (Str×Addr))(C:Addr)(N:List Str)(s1:Shared)(H1:Hp)(fp:List Addr)(pins:List (Addr×Obj)):Cx where
 prog:=X.prog
 w:=X.w
 K:=X.K
 mg:=X.mg
 base:=X.base
 A:=X.A
 N:=N
 s₀:=s1
 H₀:=H1
 env:=compEnvC sc cl C X.env
 outer:=X.stack
 stack:=X.stack
 ex:=fp
 fn:=fun _=>false
 calm:=X.calm
 pn:=X.pn++pins
 xe:=fun _ _=>False
def InCells(cells:List (Str×Addr)):List (Str×Addr)→Prop
 | []=>True
 | (x,c)::r=>cells.lookup x=some c∧InCells cells r
theorem InCells.look{cells:List (Str×Addr)}:∀{cl:List (Str×Addr)} {x:Str} {c:Addr},InCells cells cl→cl.lookup x=some c→cells.lookup x=some c
 | [],_,_,_,e=>by simp at e
 | (y,d)::r,x,c,h,e=>by
   rw[List.lookup_cons] at e
   cases q:x==y with
   | true =>
     rw[q] at e
     have e1:x=y:=eq_of_beq q
     cases e
     rw[e1];exact h.1
   | false =>
     rw[q] at e
     exact InCells.look h.2 e
structure Jes(X:Cx)(sc:Scope)(cl:List (Str×Addr))(p:Str×Nat):Prop where
 n:X.N[p.2]?=some p.1
 k:X.env.scope.names.lookup p.1=some .cell
 l:cl.lookup p.1=X.env.cells.lookup p.1
 f:(relabel sc X.env).names.lookup p.1=some .cell
def CapsOk(X:Cx)(sc:Scope)(cl:List (Str×Addr)):List (Str×Nat)→Prop
 | []=>True
 | p::r=>Jes X sc cl p∧CapsOk X sc cl r
theorem CapsOk.at{X:Cx}{sc:Scope}{cl:List (Str×Addr)}:∀{caps:List (Str×Nat)} {j:Nat} {p:Str×Nat},CapsOk X sc cl caps→caps[j]?=some p→Jes X sc cl p
 | [],_,_,_,e=>by simp at e
 | q::r,0,p,h,e=>by simp at e;subst e;exact h.1
 | q::r,j+1,p,h,e=>CapsOk.at h.2 (by simpa using e)
abbrev Cy(caps:List (Str×Nat)):List Str:=caps.map fun p=>p.1
def Ck(σ:L2.St)(caps:List (Str×Nat)):L2.St:=caps.map fun p=>(σ[p.2]?).join
section
variable {X:Cx}{sc:Scope}{cl:List (Str×Addr)}{pins:List (Addr×Obj)}{σ:L2.St}{H1:Hp}{s1:Shared}{fp:List Addr}{N:List Str}
theorem Jb5(I:Inv X pins σ H1 s1)(hf:∀b∈fp,K3 X pins H1 b)(ho:∀b∈fp,∃o,s1.heap.get? b=some o)(hk:sc.kind=.function)(hin:InCells X.env.cells cl)(has:∀x,((relabel sc X.env).names.lookup x=some .cell∨(relabel sc X.env).names.lookup x=some .free)→∃c,cl.lookup x=some c):(blk X sc cl s1.heap.objs.size N s1 H1 fp pins).Ok where
 mod:=I.ok.mod
 kind:=hk
 glob:=I.ok.glob
 blt:=I.ok.blt
 above:=ZG _
 inj:=fun x y c e1 e2=>I.ok.inj x y c (hin.look e1) (hin.look e2)
 has:=has
 cab:=fun x c e _=>by cases e
 hd:=I.ok.hd
 frames:=I.ok.frames
 stk:=.inl rfl
 exf:=fun b hb=>⟨fun z=>by
  obtain⟨o,e⟩:=ho b hb
  exact Nat.ne_of_lt (Heap.lt_size e) z,fun x c e=>(hf b hb).2.2.2.2.1 x c (hin.look e)⟩
 bs:=fun b o e=>I.bs b o e
 bsz:=Nat.le_trans I.ok.bsz I.sz
 noex:=fun b o e hb=>by
  rcases(hf b hb).2.2.2.1 with z|z
  ·exact I.ok.noex b o e z
  ·exact absurd (Nat.lt_of_lt_of_le (Nat.lt_of_lt_of_le (Heap.lt_size e) I.ok.bsz) z) (Nat.lt_irrefl _)
 exfs:=fun b hb z=>by
  rcases ZM (I.stkSub b z) with q|q
  ·exact(hf b hb).2.1 q
  ·exact(hf b hb).2.2.1 q
 funs:=I.stack
 frf:=fun b hb=>I.stkFree b hb
theorem Jf2{x:Str}{caps:List (Str×Nat)}{h':Heap}{m:Str→Option Value}{t':Nat}{o:Obj}(I:Inv X pins σ H1 s1)(ok:(blk X sc cl s1.heap.objs.size (x::Cy caps) s1 H1 fp pins).Ok)(hin:InCells X.env.cells cl)(hcap:CapsOk X sc cl caps)(hx:(relabel sc X.env).names.lookup x=some .local)(hn:h'.Ns s1.heap.objs.size m)(hs:Heap.SameBut s1.heap.objs.size (s1.heap.push o) h') :
 Inv (blk X sc cl s1.heap.objs.size (x::Cy caps) s1 H1 fp pins) [] (none::Ck σ caps) H1 { s1 with heap:=h',toks:=t' }:=by
 have kp:∀b u,s1.heap.get? b=some u→h'.get? b=some u:=fun b u e=>(hs.2 b (Nat.ne_of_lt (Heap.lt_size e))).trans (ZT _ e)
 have hfree:H1 s1.heap.objs.size=none:=I.hok.fresh (ZG _)
 refine⟨ok,rfl,I.bare,Un.kept kp,⟨m,hn,fun i y v e1 e2 e3=>?_⟩,fun y c e=>?_,hfree,fun y c e=>I.freeC y c (hin.look e),fun p hp=>?_,I.hok.kept kp,?_⟩
 ·cases i with
  | zero=>simp at e2
  | succ j =>
    have e1':(x::Cy caps)[j+1]?=some y:=e1
    rw[List.getElem?_cons_succ] at e1'
    have e2':(Ck σ caps)[j]?=some (some v):=by simpa using e2
    rw[ZH] at e1'
    unfold Ck at e2'
    rw[ZH] at e2'
    cases q:caps[j]? with
    | none=>rw[q] at e1';cases e1'
    | some p =>
      rw[q] at e1' e2'
      have e4:p.1=y:=ZO e1'
      have e5:(σ[p.2]?).join=some v:=ZO e2'
      have hc:=hcap.at q
      have e6:σ[p.2]?=some (some v):=by
       cases z:σ[p.2]? with
       | none=>rw[z] at e5;cases e5
       | some w' =>
         rw[z] at e5
         have:w'=some v:=e5
         rw[this]
      obtain⟨mm,hnn,hl⟩:=I.loc
      obtain⟨u,r,lk⟩:=hl p.2 p.1 v hc.n e6 (.inr (.inl hc.k))
      refine⟨u,r,.inr ⟨.inl (by rw[←e4];exact hc.f),?_⟩⟩
      rcases lk with⟨k1,_⟩|⟨_,c,hcl,ce⟩
      ·have:X.env.scope.names.lookup p.1=some .local:=k1
       rw[hc.k] at this;cases this
      ·obtain⟨oc,hoc,hd⟩:=ce
       exact⟨c,by rw[←e4];exact hc.l.trans hcl,oc,kp _ _ hoc,hd⟩
 ·obtain⟨v,oc,hoc,hd⟩:=I.cell y c (hin.look e)
  exact⟨v,oc,kp _ _ hoc,hd⟩
 ·have hp':p∈(X.pn++pins)++[]:=hp
  rw[List.append_nil] at hp'
  obtain⟨a1,a2,a3,a4,a5⟩:=I.pin p hp'
  refine⟨kp _ _ a1,a2,Nat.ne_of_lt (Heap.lt_size a1),fun z=>?_,a5⟩
  rcases ZM (I.stkSub _ z) with q|q
  ·exact a3 q
  ·exact a4 q
 ·simp[Ck,blk]
theorem X5{pins':List (Addr×Obj)}{σ':L2.St}{H':Hp}{s':Shared}(I:Inv X pins σ H1 s1)(hf:∀b∈fp,K3 X pins H1 b)(I':Inv (blk X sc cl s1.heap.objs.size N s1 H1 fp pins) pins' σ' H' s'):Inv X pins σ H' s' :=
 I.call' (ch:=fp) I'.os I'.base I'.hok I'.bare fun b hb=>⟨(hf b hb).2.2.2.1,(hf b hb).2.1,(hf b hb).2.2.2.2.1,(hf b hb).2.2.2.2.2⟩
theorem Ru{H':Hp}{s':Shared}{h':Heap}{σ2:L2.St}{sA:Shared}(I:Inv X pins σ H1 s1)(I2:Inv X pins σ2 H' sA)(hn:H' s1.heap.objs.size=none)(hs:Heap.SameBut s1.heap.objs.size sA.heap h'):Inv X pins σ2 H' { sA with heap:=h' } :=
 I2.turned (it:=s1.heap.objs.size) (t':=sA.toks) (fun b o hb e=>(hs.2 b hb).trans e) hn (Nat.ne_of_gt I.lt) (.inr I.sz) (fun x c e z=>by
  obtain⟨v,q⟩:=I.cell x c e
  exact absurd q.lt (by rw[z];exact Nat.lt_irrefl _)) fun p hp z=>by
  have:=Heap.lt_size (I.pin p hp).1
  rw[z] at this
  exact absurd this (Nat.lt_irrefl _)
end
def PTs(X:Cx)(ifs:List Expr)(t:TT):Prop :=
 ∀(pins:List (Addr×Obj))(s:Shared)(σ:L2.St)(H:Hp)(Q:Bool→Hp→Prop),Inv X pins σ H s→t σ H Q →
  wpAny (model X.prog X.w) X.A (forIn ifs true fun c r=>if r=true then do let ok ←isTrue c X.env (eval c X.env);pure (ForInStep.yield ok) else pure (ForInStep.yield r)) (TP X pins σ Q) X.xe s
theorem Gi{X:Cx}:PTs X [] (fun _ H Q=>Q true H):=fun pins s σ H Q I h=>wpAny_tests_nil ⟨H,I,h⟩
theorem Fg{X:Cx}{c:Expr}{t:TT}(h:PT X c t):PTs X [c] t:=fun pins s σ H Q I hw=>wpAny_tests_one (h pins s σ H Q I hw)
def Zy(wi:TI)(caps:List (Str×Nat))(tt:TT)(te:TE):TE:=fun σ H Q=>wi σ H fun J H1=>∀p,H1 p=none→∃W:Nat→Nat→List V→Hp→Prop,(∃m,W 0 m [] (upd H1 p (.lst [])))∧∀i m ys H2,W i m ys H2→H2 p=some (.lst ys) ∧
 ((J.stop i H2∧Q (.ref p) H2)∨(J.go i H2∧∀x H3,J.yld i H2 x H3→tt (some x::Ck σ caps) H3 fun b H4 =>
   if b=true then te (some x::Ck σ caps) H4 fun v H5=>H5 p=some (.lst ys)∧ys.length<sizeLine∧∃m',m'<m∧W (i+1) m' (ys++[v]) (upd H5 p (.lst (ys++[v])))
   else ∃m',m'<m∧W (i+1) m' ys H4))
section
variable {X:Cx}{elt iter:Expr}{x:Str}{px pos:Pos}{ifs:List Expr}{sc:Scope}{cl:List (Str×Addr)}{caps:List (Str×Nat)}{wi:TI}{tt:TT}{te:TE}
theorem Pa{pins:List (Addr×Obj)}{σ:L2.St}{H:Hp}{s:Shared}{Q:VK}{use:Option (Value→Sem Unit)}{RQ:Value→Shared→Prop}(hc:X.calm=true)(hi:PI X (.Name x px) iter wi)(hclos:closureFor sc X.env=pure cl)(hcell:∀y∈sc.names,y.2≠.cell)(hkind:sc.kind=.function)(hnames:∀y∈sc.names,y.2=.local→sc.names.lookup y.1=some .local)(hx:sc.names.lookup x=some .local)(hin:InCells X.env.cells cl)(has:∀y,((relabel sc X.env).names.lookup y=some .cell∨(relabel sc X.env).names.lookup y=some .free)→∃c,cl.lookup y=some c)(hcap:CapsOk X sc cl caps)(hN:(x::Cy caps).Nodup)(ht:∀C s1 H1 fp pins,PTs (blk X sc cl C (x::Cy caps) s1 H1 fp pins) ifs tt)(he:∀C s1 H1 fp pins,PE (blk X sc cl C (x::Cy caps) s1 H1 fp pins) elt te)(I:Inv X pins σ H s)(h:Zy wi caps tt te σ H Q)(fin:∀(C D:Addr) (H':Hp) (s1 s':Shared) (H1:Hp),C=s1.heap.objs.size→Inv X pins σ H1 s1→Inv X pins σ H' s'→H' C=none→(∃m,s'.heap.Ns C m)→Q (.ref D) H'→compPost (model X.prog X.w) X.A X.xe use RQ (.ref D) C (.ok .next) s')(hs:∀v,foldedSetIterable iter X.env v=pure v) :
 wpAny (model X.prog X.w) X.A (comprehension (.ListComp elt [⟨.Name x px,iter,ifs,0⟩] sc pos) sc X.env (firstIterPos [⟨.Name x px,iter,ifs,0⟩] pos) (newList []) false (eval iter X.env) use) RQ X.xe s:=by
 refine wpAny_comprehension_free rfl hs hclos hkind hnames (thn (hi pins s σ H _ I h) fun v s1 h1=>thn h1 fun itv s2 h2=>?_)
 obtain⟨it,fp,tn,J,H2,e,I2,T,st2,f2,hW⟩:=h2
 subst e
 refine wpAny_newObj_type ?_
 have hfresh:H2 s2.heap.objs.size=none:=I2.hok.fresh (ZG _)
 have I3:Inv X pins σ (upd H2 s2.heap.objs.size (.lst [])) { s2 with heap:=s2.heap.push { cls:=.type "list",dict:=none,data:=.seq ([]:List Value).toArray } }:=I2.lnew (t':=s2.toks) (its:=[]) .nil (Nat.zero_le _)
 obtain⟨W,⟨m0,w0⟩,turn⟩:=hW s2.heap.objs.size hfresh
 have fpn:∀b∈fp,b≠s2.heap.objs.size:=fun b hb z=>by
  obtain⟨o,e,_⟩:=T.obj 0 _ st2 b hb
  exact absurd (Heap.lt_size e) (by rw[z];exact Nat.lt_irrefl _)
 have f3:∀b∈fp,K3 X pins (upd H2 s2.heap.objs.size (.lst [])) b:=fun b hb=>⟨by rw[Ad (fpn b hb)];exact(f2 b hb).1,(f2 b hb).2⟩
 have st3:tn 0 (s2.heap.push { cls:=.type "list",dict:=none,data:=.seq ([]:List Value).toArray }):=T.keep 0 _ _ st2 fun b hb o e=>ZT _ e
 obtain⟨D,hD⟩:∃D,D=s2.heap.objs.size:=⟨_,rfl⟩
 obtain⟨H3,hH3⟩:∃H3,H3=upd H2 s2.heap.objs.size (.lst []):=⟨_,rfl⟩
 obtain⟨s3,hs3⟩:∃s3:Shared,s3={ s2 with heap:=s2.heap.push { cls:=.type "list",dict:=none,data:=.seq ([]:List Value).toArray } }:=⟨_,rfl⟩
 have st3':tn 0 s3.heap:=by rw[hs3];exact st3
 rw[←hH3] at I3 f3 w0
 rw[←hs3] at I3
 rw[←hD] at turn
 show wpAny _ _ _ _ _ ({ s2 with heap:=s2.heap.push { cls:=.type "list",dict:=none,data:=.seq ([]:List Value).toArray } }:Shared)
 rw[←hs3,←hD]
 refine wpAny_newFunctionEnv hcell (by intro y hy;simp at hy) (fun h1 hn1 hs1=>?_) hkind
 have ok:=Jb5 (N:=x::Cy caps) I3 f3 (fun b hb=>let⟨o,e,_⟩:=T.obj 0 _ st3' b hb;⟨o,e⟩) hkind hin has
 have hx':(relabel sc X.env).names.lookup x=some .local:=lookup_relabel_local hx
 have J4:=Jf2 (t':=s3.toks+([]:List (Str×Value)).length) I3 ok hin hcap hx' hn1 hs1
 have st4:tn 0 h1:=T.keep 0 _ _ st3' fun b hb o e=>(hs1.2 b (Nat.ne_of_lt (Heap.lt_size e))).trans (ZT _ e)
 have stat:∀{H':Hp},(∀b∈fp,H' b=none)→∀b∈fp,K3 (blk X sc cl s3.heap.objs.size (x::Cy caps) s3 H3 fp pins) [] H' b:=fun hn b hb=>by
  refine⟨hn b hb,?_,fun z=>ok.exfs b hb z,.inl hb,fun y c e=>(f3 b hb).2.2.2.2.1 y c (hin.look e),fun p hp=>?_⟩
  ·exact(ok.exf b hb).1
  ·have hp':p∈(X.pn++pins)++[]:=hp
   rw[List.append_nil] at hp'
   exact(f3 b hb).2.2.2.2.2 p hp'
 have loop:∀s4:Shared,s4={ s3 with heap:=h1,toks:=s3.toks+([]:List (Str×Value)).length } →
  codeAny (model X.prog X.w) X.A (.compLoop (.ListComp elt [⟨.Name x px,iter,ifs,0⟩] sc pos) 0 (.ref it) (.ref D) (compEnvC sc cl s3.heap.objs.size X.env)) (compPost (model X.prog X.w) X.A X.xe use RQ (.ref D) s3.heap.objs.size) s4:=by
  rintro s4 rfl
  refine O9 (fun k s'=>∃i v0 ys H',Inv (blk X sc cl s3.heap.objs.size (x::Cy caps) s3 H3 fp pins) [] (v0::Ck σ caps) H' s'∧tn i s'.heap∧(∀b∈fp,H' b=none)∧W i k ys H') ?_ m0
   ⟨0,none,[],H3,J4,st4,fun b hb=>(f3 b hb).1,w0⟩
  rintro k s5 ⟨i,v0,ys,H5,I5,st5,fr5,w5⟩
  obtain⟨hD5,stop|⟨go,step⟩⟩:=turn i k ys H5 w5
  ·obtain⟨stop,q⟩:=stop
   refine thn (T.done (blk X sc cl s3.heap.objs.size (x::Cy caps) s3 H3 fp pins) rfl rfl rfl hc i [] s5 _ H5 (fun _ _=>False) I5 (stat fr5) st5 stop) fun r s6 ⟨hr,I6⟩=>?_
   subst hr
   obtain⟨mm,hnn,_⟩:=I6.loc
   exact fin _ D H5 s3 s6 H3 rfl I3 (X5 I3 f3 I6) I6.free ⟨mm,hnn⟩ q
  ·refine thn (T.item (blk X sc cl s3.heap.objs.size (x::Cy caps) s3 H3 fp pins) rfl rfl rfl hc i [] s5 _ H5 (fun _ _=>False) I5 (stat fr5) st5 go) fun r s6 ⟨u,hr,h6⟩=>?_
   subst hr
   refine thn h6 fun _ s7 ⟨y,H7,I7,r7,y7,st7,fr7⟩=>?_
   have I7':=I7.pinned (stat fr7) (T.obj _ _ st7)
   refine thn (Bq (X:=blk X sc cl s3.heap.objs.size (x::Cy caps) s3 H3 fp pins) (i:=0) hN rfl (.inl hx') (.inr hx') _ s7 (v0::Ck σ caps) H7 y u (fun σ' H'=>σ'=some y::Ck σ caps∧H'=H7) I7' r7 ⟨rfl,rfl⟩) fun _ s8 ⟨σ8,H8,I8,e8,e8'⟩=>?_
   subst e8
   subst e8'
   have back:∀{σ9:L2.St} {H9:Hp} {s9:Shared},Inv (blk X sc cl s3.heap.objs.size (x::Cy caps) s3 H3 fp pins) ([]++Jy fp s7.heap) σ9 H9 s9→tn (i+1) s9.heap∧∀b∈fp,H9 b=none:=fun{σ9 H9 s9} I9=>by
    refine⟨T.keep _ _ _ st7 fun b hb o e=>(I9.pin (b,o) (ZC _ (ZC _ (Dz hb e)))).1,fun b hb=>?_⟩
    obtain⟨o,e,d⟩:=T.obj _ _ st7 b hb
    exact(I9.pin (b,o) (ZC _ (ZC _ (Dz hb e)))).2.1
   refine thn (ht _ _ _ _ _ _ s8 _ _ _ I8 (step y _ y7)) fun ok s9 ⟨H9,I9,q9⟩=>?_
   cases ok with
   | false =>
     simp only[Bool.false_eq_true,if_false] at q9 ⊢
     obtain⟨m',hm,w9⟩:=q9
     exact⟨m',hm,i+1,some y,ys,H9,I9.unpinned,(back I9).1,(back I9).2,w9⟩
   | true =>
     simp only[if_true] at q9 ⊢
     refine thn (he _ _ _ _ _ _ s9 _ _ _ I9 q9) fun xv s10 ⟨v,H10,I10,r10,hD10,hlt,m',hm,w10⟩=>?_
     refine thn (Dm (X:=blk X sc cl s3.heap.objs.size (x::Cy caps) s3 H3 fp pins) _ s10 _ H10 (.ref D) [v] (.ref D) [xv] (fun _ H'=>H'=upd H10 D (.lst (ys++[v]))) I10 rfl (.cons r10 .nil) ⟨D,ys,v,rfl,rfl,hD10,hlt,rfl⟩) fun _ s11 ⟨_,H11,I11,_,e11⟩=>?_
     subst e11
     exact⟨m',hm,i+1,some y,ys++[v],_,I11.unpinned,(back I11).1,(back I11).2,w10⟩
 exact codeAny_compStart_list (loop _ rfl) (T.self _ 0 _ _ _ st4 (loop _ rfl))
theorem Fj(hc:X.calm=true)(hi:PI X (.Name x px) iter wi)(hclos:closureFor sc X.env=pure cl)(hcell:∀y∈sc.names,y.2≠.cell)(hkind:sc.kind=.function)(hnames:∀y∈sc.names,y.2=.local→sc.names.lookup y.1=some .local)(hx:sc.names.lookup x=some .local)(hin:InCells X.env.cells cl)(has:∀y,((relabel sc X.env).names.lookup y=some .cell∨(relabel sc X.env).names.lookup y=some .free)→∃c,cl.lookup y=some c)(hcap:CapsOk X sc cl caps)(hN:(x::Cy caps).Nodup)(ht:∀C s1 H1 fp pins,PTs (blk X sc cl C (x::Cy caps) s1 H1 fp pins) ifs tt)(he:∀C s1 H1 fp pins,PE (blk X sc cl C (x::Cy caps) s1 H1 fp pins) elt te)(hs:∀v,foldedSetIterable iter X.env v=pure v:=by intro _;rfl):PE X (.ListComp elt [⟨.Name x px,iter,ifs,0⟩] sc pos) (Zy wi caps tt te):=by
 intro pins s σ H Q I h
 rw[eval_ListComp]
 refine Pa (use:=none) hc hi hclos hcell hkind hnames hx hin has hcap hN ht he I h (fun C D H' s1 s' H1 hC I1 I' hn ⟨m,hm⟩ q=>?_) hs
 subst hC
 exact⟨m,hm,fun h' hs'=>⟨.ref D,H',Ru (s':=s') I1 I' hn hs',rfl,q⟩⟩
theorem Ir{i:Nat}{y:Str}{py spos:Pos}(hN':X.N.Nodup)(hi':X.N[i]?=some y)(hy:X.env.scope.names.lookup y=some .local)(hsw:swapsWith (.ListComp elt [⟨.Name x px,iter,ifs,0⟩] sc pos) (some (.Name y py)) spos.line X.env=pure true)(hc:X.calm=true)(hi:PI X (.Name x px) iter wi)(hclos:closureFor sc X.env=pure cl)(hcell:∀y∈sc.names,y.2≠.cell)(hkind:sc.kind=.function)(hnames:∀y∈sc.names,y.2=.local→sc.names.lookup y.1=some .local)(hx:sc.names.lookup x=some .local)(hin:InCells X.env.cells cl)(has:∀y,((relabel sc X.env).names.lookup y=some .cell∨(relabel sc X.env).names.lookup y=some .free)→∃c,cl.lookup y=some c)(hcap:CapsOk X sc cl caps)(hN:(x::Cy caps).Nodup)(ht:∀C s1 H1 fp pins,PTs (blk X sc cl C (x::Cy caps) s1 H1 fp pins) ifs tt)(he:∀C s1 H1 fp pins,PE (blk X sc cl C (x::Cy caps) s1 H1 fp pins) elt te)(hs:∀v,foldedSetIterable iter X.env v=pure v:=by intro _;rfl) :
 PS X (.Assign [.Name y py] (.ListComp elt [⟨.Name x px,iter,ifs,0⟩] sc pos) spos) (fun D σ H=>Zy wi caps tt te σ H fun v H'=>D.nx (σ.set i (some v)) H'):=by
 intro pins s σ H D I h
 rw[exec_Assign_Name_used _ _ _ _ hsw]
 refine ZR (wpAny_standAt (ZR ?_))
 show wpAny _ X.A (do let _ ←comprehension (.ListComp elt [⟨.Name x px,iter,ifs,0⟩] sc pos) sc X.env _ (newList []) false (eval iter X.env) (some (assign (.Name y py) X.env))) _ _ s
 refine ZR (wpAny_mono (Pa (use:=some (assign (.Name y py) X.env)) (RQ:=fun _ s'=>SP X pins D .next s') hc hi hclos hcell hkind hnames hx hin has hcap hN ht he I h (fun C Dd H' s1 s' H1 hC I1 I' hn ⟨m,hm⟩ q=>?_) hs) (fun _ s' hq=>ZS (ZS hq)) fun _ _ e=>e)
 subst hC
 show wpAny _ _ (assign (.Name y py) X.env (.ref Dd)) _ _ _
 refine wpAny_assign_Name (Oc I' hN' hi' (.inl hy) (show RelV (.ref Dd) (.ref Dd) from rfl) (fun s2 I2 ⟨a,hs2,ha⟩=>?_) (.inr hy))
 have hCa:s1.heap.objs.size≠a:=by
  rcases ha with z|z
  ·rw[z];exact Nat.ne_of_gt I1.lt
  ·intro z2
   obtain⟨v,qc⟩:=I1.cell y a z
   exact absurd qc.lt (by rw[←z2];exact Nat.lt_irrefl _)
 exact⟨m,hm.sameBut hs2 hCa,fun h' hs'=>⟨_,H',Ru (s':=s') I1 I2 hn hs',q⟩⟩
end
def RawD(h:Heap)(d:Addr)(es:Array DictEntry)(ep:Nat):Prop:=∃o,h.get? d=some o∧o.ExactDict∧o.data=.dict es ep
theorem RawD.at{h h':Heap}{d:Addr}{es:Array DictEntry}{ep:Nat}(x:RawD h d es ep)(k:∀o,h.get? d=some o→h'.get? d=some o):RawD h' d es ep:=let⟨o,e,r⟩:=x;⟨o,k o e,r⟩
section
variable {prog:Program}{w:World}{A:Around}{E:Value→Shared→Prop}{s:Shared}{d it:Addr}{es:Array DictEntry}{ep i:Nat}
theorem Th{Q:Value→Shared→Prop}(nos:(d==sysModules)=false)(hm:RawD s.heap d es ep)(hQ:Q (.ref s.heap.objs.size) { s with heap:=s.heap.push { cls:=.type "dict_keyiterator",data:=.fields #[.ref d,.int 0 0,.int es.size 0,.int ep 0] } }):wpAny (model prog w) A (pyIter (.ref d)) Q E s:=by
 obtain⟨ob,g1,g2,g3⟩:=id hm
 have tD:s.TypeIs (.ref d) "dict":=⟨ob,g1,g2.1⟩
 refine wpAny_pyIter_slot tD F.slot_dict_iter (wpAny_call_entry F.slot_dict_iter tD F.entry_dict_iter ?_ (F.args_dict_iter_1 _))
 unfold Builtin.«dict.__iter__»
 refine ZR ?_
 unfold Builtin.Dict.dictSlotNone
 refine ZR (wpAny_notOrdered_dict tD ?_)
 show wpAny _ _ (pure (Value.ref d)) _ _ s
 refine ZS ?_
 show wpAny _ _ (Builtin.Dict.showsAll d >>= _) _ _ s
 unfold Builtin.Dict.showsAll
 rw[if_neg (by rw[nos];exact Bool.false_ne_true)]
 refine ZR (ZS ?_)
 refine ZR (wpAny_dictEntries g1 g3 (ZR (wpAny_dictEpoch g1 g3 ?_)))
 refine ZR (wpAny_newObj_type (ZS ⟨_,rfl,"dict_keyiterator",_,⟨_,ZU _ rfl,rfl⟩,F.slot_dict_keyiterator_next.lookup,by simpa [rawInt] using hQ⟩))
theorem Tf{e:DictEntry}{Q:Option Value→Shared→Prop}(hit:s.heap.IsKeyIter it d i es.size ep)(hm:RawD s.heap d es ep)(hx:es[i]?=some e)(hQ:∀h',h'.IsKeyIter it d (i+1) es.size ep→Heap.SameBut it s.heap h'→Q (some e.key) { s with heap:=h' }):wpAny (model prog w) A (pyNext (.ref it)) Q E s:=by
 obtain⟨oi,i1,i2,i3⟩:=id hit
 obtain⟨ob,g1,g2,g3⟩:=id hm
 have tI:=hit.typeIs
 unfold pyNext
 refine ZR (wpAny_attempt (wpAny_callSpecial?_slot (name:=Str.ofString "__next__") tI F.slot_dict_keyiterator_next (wpAny_call_entry F.slot_dict_keyiterator_next tI F.entry_dict_keyiterator_next ?_ (F.args_dict_keyiterator_next_1 _))))
 refine ZR (ZS (ZR (ZR ?_)))
 first|refine ZR (wpAny_typeNameOfWhole_keyiter tI (ZS ?_))|refine ZR (wpAny_typeNameOf_keyiter tI (ZS ?_))
 refine ZR (wpAny_fieldsOf i1 i3 ?_)
 have notOwn:Builtin.Dict_items.ownsTuple "dict_keyiterator"=false:=by decide
 simp only[notOwn,Bool.false_eq_true,if_false]
 show wpAny _ _ (if(Value.ref d==Value.none)=true then _ else _) _ _ s
 rw[if_neg (show ¬((Value.ref d==Value.none)=true) from Bool.false_ne_true)]
 refine ZR (ZS (ZR (wpAny_dictEntries g1 g3 ?_)))
 rw[if_neg (by simp)]
 refine ZR (ZS (ZR (wpAny_dictEpoch g1 g3 ?_)))
 rw[if_neg (by simp)]
 refine ZS ?_
 have lt:i<es.size:=(Array.getElem?_eq_some_iff.mp hx).1
 have ee:es[i]=e:=(Array.getElem?_eq_some_iff.mp hx).2
 simp only[show ¬((i:Int)<0) from by omega,if_false,Int.toNat_natCast,Array.getElem?_eq_getElem lt]
 refine ZR ?_
 first|refine ZR (wpAny_typeNameOfWhole_keyiter tI (ZS ?_))|refine ZR (wpAny_typeNameOf_keyiter tI (ZS ?_))
 refine ZR (wpAny_isOneOf_keyiter tI ?_)
 show wpAny _ _ (setField (.ref it) 1 (rawInt ((i:Int)+1)) >>= _) _ _ s
 refine ZR (wpAny_setField i1 i3 (by simp) ?_)
 have hit':(s.heap.update it (Obj.mapFields (·.setIfInBounds 1 (rawInt ((i:Int)+1))))).IsKeyIter it d (i+1) es.size ep :=
  ⟨_,Heap.get?_update_self _ i1 (Obj.isFreed_of_fields (Obj.data_mapFields i3 _)),(Obj.cls_mapFields ..).trans i2,by rw[Obj.data_mapFields i3];simp[rawInt]⟩
 refine ZR (wpAny_holding ?_)
 refine ZR (wpAny_isOneOf_keyiter (s:={ s with heap:=s.heap.update it (Obj.mapFields (·.setIfInBounds 1 (rawInt ((i:Int)+1)))) }) hit'.typeIs ?_)
 show wpAny _ _ (pure es[i].key) _ _ _
 rw[ee]
 exact ZS (ZS ⟨_,rfl,ZS (hQ _ hit' (Heap.SameBut.update ..))⟩)
theorem Xg{Q:Option Value→Shared→Prop}(hh:A.handled=none)(hit:s.heap.IsKeyIter it d i es.size ep)(hm:RawD s.heap d es ep)(hx:es.size≤i)(hQ:∀h',Heap.ExtBut it s.heap h'→Q none { s with heap:=h' }):wpAny (model prog w) A (pyNext (.ref it)) Q E s:=by
 obtain⟨oi,i1,i2,i3⟩:=id hit
 obtain⟨ob,g1,g2,g3⟩:=id hm
 have tI:=hit.typeIs
 unfold pyNext
 refine ZR (wpAny_attempt (wpAny_callSpecial?_slot (name:=Str.ofString "__next__") tI F.slot_dict_keyiterator_next (wpAny_call_entry F.slot_dict_keyiterator_next tI F.entry_dict_keyiterator_next ?_ (F.args_dict_keyiterator_next_1 _))))
 refine ZR (ZS (ZR (ZR ?_)))
 first|refine ZR (wpAny_typeNameOfWhole_keyiter tI (ZS ?_))|refine ZR (wpAny_typeNameOf_keyiter tI (ZS ?_))
 refine ZR (wpAny_fieldsOf i1 i3 ?_)
 have notOwn:Builtin.Dict_items.ownsTuple "dict_keyiterator"=false:=by decide
 simp only[notOwn,Bool.false_eq_true,if_false]
 show wpAny _ _ (if(Value.ref d==Value.none)=true then _ else _) _ _ s
 rw[if_neg (show ¬((Value.ref d==Value.none)=true) from Bool.false_ne_true)]
 refine ZR (ZS (ZR (wpAny_dictEntries g1 g3 ?_)))
 rw[if_neg (by simp)]
 refine ZR (ZS (ZR (wpAny_dictEpoch g1 g3 ?_)))
 rw[if_neg (by simp)]
 refine ZS ?_
 simp only[show ¬((i:Int)<0) from by omega,if_false,Int.toNat_natCast,Array.getElem?_eq_none hx]
 refine ZR ?_
 first|refine ZR (wpAny_typeNameOfWhole_keyiter tI (ZS ?_))|refine ZR (wpAny_typeNameOf_keyiter tI (ZS ?_))
 show wpAny _ _ (setField (.ref it) 0 .none >>= _) _ _ s
 refine ZR (wpAny_setField i1 i3 (by simp) ?_)
 show wpAny _ _ (newExc (.type "StopIteration") [] >>= _) _ _ _
 refine ZR ?_
 simp only[newExc,newTuple]
 refine ZR (wpAny_newObj_type ?_ (by size_fits))
 refine ZR (m:=firstArgMember _ _) (wpAny_of_eq (a:=Value.none) (by first|rfl|(simp only[firstArgMember];rfl)) ?_)
 refine wpAny_newObj_type ?_ (by size_fits)
 simp only[raiseNew]
 refine ZR (wpAny_handled ?_)
 rw[show A.in1.handled=none from hh]
 refine ZR (ZS (wpAny_throw ?_))
 refine ZR (wpAny_isInstance (T:="StopIteration") (b:=true) ⟨_,ZU _ rfl,rfl⟩ isSubtype_stop ?_)
 exact ZS (hQ _ (((Heap.SameBut.update ..).extBut.push _).push _))
end
def Kys(H:Hp)(kvs:List (List Key×V))(as:List Addr):Prop:=Paired (fun(p:List Key×V)(a:Addr)=>H a=some (.tup (p.1.map kV))) kvs as
section
variable {X:Cx}{pins:List (Addr×Obj)}{σ:L2.St}{H:Hp}{s:Shared}{d:Addr}{kvs:List (List Key×V)}
theorem Xr:∀{kvs:List (List Key×V)} {xs:List (List Key×Addr×Value)},KT H kvs xs→Kys H kvs (xs.map (·.2.1))
 | _,_,.nil=>.nil
 | _,_,.cons r t=>.cons r.2.1 (Xr t)
theorem Rr(I:Inv X pins σ H s)(e:Rd H d (.dT kvs)):kvs.length≤sizeLine∧(d==sysModules)=false∧∃(es:Array DictEntry)(ep:Nat)(as:List Addr),RawD s.heap d es ep∧es.size=kvs.length∧Kys H kvs as∧∀j (h:j<es.size),∃a,as[j]?=some a∧es[j].key=.ref a:=by
 obtain⟨z,lo,xs,rel,o,es,ep,g1,g2,g3,g4,g5⟩:=(show ObjOk X.prog X.w H s.heap d (.dT kvs) from e.ok I.hok)
 have hl:es.size=xs.length:=by
  have:=congrArg List.length g4
  simpa using this
 refine⟨z,lo,es,ep,xs.map (·.2.1),⟨o,g1,g2,g3⟩,by rw[hl];exact(Paired.length rel).symm,Xr rel,fun j h=>?_⟩
 have hj:j<xs.length:=by omega
 have e1:es.toList[j]?=some es[j]:=by simp[h]
 rw[g4,ZH] at e1
 have e2:xs[j]?=some xs[j]:=by simp[hj]
 rw[e2] at e1
 refine⟨xs[j].2.1,by rw[ZH,e2];rfl,?_⟩
 have e3:entryOfKey (tupleKind (A8 X.prog X.w)) xs[j]=es[j]:=ZO e1
 rw[←e3];rfl
end
section
variable {X:Cx}{pins:List (Addr×Obj)}{σ:L2.St}{H:Hp}{s:Shared}{d:Addr}
theorem Mw{u:HO}(I:Inv X pins σ H s)(hd:∃o,H d=some o)(nt:∀xs,H d≠some (.tup xs))(no:∀y,H d≠some (.own y))(nf:∀o v,X.H₀ d≠some (.frz o v))(ntb:∀ps,H d≠some (.tbl ps))(new:ObjOk X.prog X.w (upd H d u) s.heap d u):Inv X pins σ (upd H d u) s:=by
 obtain⟨o,hd⟩:=hd
 have fr:∀b,H b=none→(upd H d u) b=none:=fun b n=>by
  rw[Ad fun z=>by rw[z,hd] at n;cases n];exact n
 refine⟨I.ok,I.os,I.bare,⟨I.base.keep,I.base.slot,fun b ob e n hx=>fr b (I.base.free b ob e n hx),I.base.there,fun b xs e=>?_,fun b ob v e=>?_,fun b ps e=>?_⟩,I.loc,I.cell,fr _ I.free,fun y c e=>fr _ (I.freeC y c e),fun p hp=>?_,fun b v e=>?_,I.len⟩
 ·have:=I.base.tups b xs e
  rw[Ad fun z=>nt xs (by rw[←z];exact this)];exact this
 ·have:=I.base.frzs b ob v e
  rw[Ad fun z=>nf ob v (by rw[←z];exact e)];exact this
 ·obtain⟨more,q⟩:=I.base.tbls b ps e
  exact⟨more,by rw[Ad fun z=>ntb _ (by rw[←z];exact q)];exact q⟩
 ·obtain⟨a1,a2,a3⟩:=I.pin p hp
  exact⟨a1,fr _ a2,a3⟩
 ·by_cases hb:b=d
  ·subst hb
   rw[Ab] at e
   cases e
   exact new
  ·rw[Ad hb] at e
   refine(I.hok b v e).stay (fun c w' _ q=>q) (fun c q=>?_) fun c xs q=>?_
   ·rw[Ad fun z=>no _ (by rw[←z];exact q)];exact q
   ·rw[Ad fun z=>nt _ (by rw[←z];exact q)];exact q
theorem V3{kvs:List (List Key×V)}(I:Inv X pins σ H s)(e:H d=some (.dT kvs)):∃o,s.heap.get? d=some o∧Inv X pins σ (upd H d (.frz o (.dT kvs))) s:=by
 have ok:=I.hok d _ e
 obtain⟨_,_,xs,_,o,es,ep,g,_⟩:=id ok
 refine⟨o,g,Mw I ⟨_,e⟩ (fun xs z=>by rw[e] at z;cases z) (fun y z=>by rw[e] at z;cases z) (fun ob v z=>by have:=I.base.frzs d ob v z;rw[e] at this;cases this) (fun ps z=>by rw[e] at z;cases z) ⟨g,?_⟩⟩
 refine ok.stay (fun c w' _ q=>q) (fun c q=>?_) fun c xs q=>?_
 ·rw[Ad fun z=>by rw[z,e] at q;cases q];exact q
 ·rw[Ad fun z=>by rw[z,e] at q;cases q];exact q
theorem Ug{o:Obj}{u:HO}(I:Inv X pins σ H s)(e:H d=some (.frz o u))(nf:∀o v,X.H₀ d≠some (.frz o v)):Inv X pins σ (upd H d u) s:=by
 obtain⟨g,ok⟩:=(show ObjOk X.prog X.w H s.heap d (.frz o u) from I.hok d _ e)
 refine Mw I ⟨_,e⟩ (fun xs z=>by rw[e] at z;cases z) (fun y z=>by rw[e] at z;cases z) nf (fun ps z=>by rw[e] at z;cases z) ?_
 refine ok.stay (fun c w' _ q=>q) (fun c q=>?_) fun c xs q=>?_
 ·rw[Ad fun z=>by rw[z,e] at q;cases q];exact q
 ·rw[Ad fun z=>by rw[z,e] at q;cases q];exact q
def Jg5(H₀ H H':Hp):Prop:=∃d o u,H d=some (.frz o u)∧(∀o v,H₀ d≠some (.frz o v))∧H'=upd H d u
theorem PE.thaw{e:Expr}{t:TE}(h:PE X e t):PE X e (fun σ H Q=>t σ H fun v H1=>∃H2,Jg5 X.H₀ H1 H2∧Q v H2):=fun pins s σ H Q I hw =>
 thn (h pins s σ H _ I hw) fun u s' ⟨v,H1,I1,r,H2,⟨d,o,w',e1,e2,e3⟩,q⟩=>⟨v,H2,by rw[e3];exact Ug I1 e1 e2,r,q⟩
theorem PSs.thaw{sts:List Stmt}{t:TS}(h:PSs X sts t):PSs X sts (fun D σ H=>∃H2,Jg5 X.H₀ H H2∧t D σ H2):=fun pins s σ H D I ⟨H2,⟨d,o,w',e1,e2,e3⟩,q⟩=>by
 subst e3
 exact h pins s σ _ D (Ug I e1 e2) q
end
def ItD(d:Addr)(kvs:List (List Key×V))(o:Obj):It :=
 ⟨fun i H=>H d=some (.frz o (.dT kvs))∧i<kvs.length,fun i H x H'=>H'=H∧∃a k v,x=.ref a∧kvs[i]?=some (k,v)∧H a=some (.tup (k.map kV)),fun i H=>H d=some (.frz o (.dT kvs))∧kvs.length≤i⟩
theorem Ye{P:Program}{w:World}{K:W.Frag}{tg:Expr}(d it:Addr)(kvs:List (List Key×V))(o:Obj)(es:Array DictEntry)(ep:Nat)(ho:o.ExactDict)(hd:o.data=.dict es ep)(hz:es.size=kvs.length):Turn P w K tg (ItD d kvs o) [it] it (fun i h=>h.IsKeyIter it d i es.size ep) where
 mem:=by simp
 obj:=fun i h st b hb=>by
  have e:b=it:=by simpa using hb
  subst e
  obtain⟨oi,e,c,q⟩:=st
  exact⟨oi,e,fun v z=>by rw[q] at z;cases z⟩
 keep:=fun i h h' ⟨oi,e,r⟩ k=>⟨oi,k it (by simp) oi e,r⟩
 item:=by
  intro X hP hw hK hc i pins s σ H E I hf st ⟨hg,hi⟩
  subst hP hw hK
  obtain⟨f0,f1,f2,f3,f4,f5⟩:=hf it (by simp)
  have g:s.heap.get? d=some o:=(show ObjOk X.prog X.w H s.heap d (.frz o (.dT kvs)) from I.hok d _ hg).1
  obtain⟨_,_,es',ep',as,⟨o',g',q1,q2⟩,z',ks,at_⟩:=Rr I (.inr ⟨o,hg⟩)
  rw[g] at g';cases g'
  rw[hd] at q2
  injection q2 with q2 q3
  subst q2;subst q3
  have lt:i<es.size:=by omega
  obtain⟨a,ha,hk⟩:=at_ i lt
  have hx:kvs[i]?=some kvs[i]:=by simp[hi]
  refine Tf st ⟨o,g,ho,hd⟩ (e:=es[i]) (by simp[lt]) fun h' st' sb=>?_
  have I1:Inv X pins σ H { s with heap:=h' }:=I.turned (t':=s.toks) (fun b ob hb e=>(sb.2 b hb).trans e) f0 f1 f3 f4 f5
  obtain⟨oi,e,c,q⟩:=id st'
  refine⟨_,rfl,Xy (s:={ s with heap:=h' }) e c q (by decide) ⟨.ref a,H,I1,hk,⟨rfl,a,kvs[i].1,kvs[i].2,rfl,hx,A2 ks i kvs[i] a hx ha⟩,st',fun b hb=>(hf b hb).1⟩⟩
 done:=by
  intro X hP hw hK hc i pins s σ H E I hf st ⟨hg,hi⟩
  subst hP hw hK
  obtain⟨f0,f1,f2,f3,f4,f5⟩:=hf it (by simp)
  have g:s.heap.get? d=some o:=(show ObjOk X.prog X.w H s.heap d (.frz o (.dT kvs)) from I.hok d _ hg).1
  exact Xg (I.ok.hd hc) st ⟨o,g,ho,hd⟩ (by omega) fun h' eb=>⟨rfl,I.turned (t':=s.toks) (fun b ob hb e=>eb b ob hb e) f0 f1 f3 f4 f5⟩
 self:=fun _ _ _ _ _ st h=>wpAny_pyIter_keyiter st h
section
variable {X:Cx}{tg:Expr}
def Jgx(td:TE):TI:=fun σ H R=>td σ H fun x H1=>∃d kvs,x=.ref d∧H1 d=some (.dT kvs)∧∀o,R (ItD d kvs o) (upd H1 d (.frz o (.dT kvs)))
theorem Le{l:Expr}{td:TE}(hl:PE X l td):PI X tg l (Jgx td):=by
 intro pins s σ H R I h
 refine thn (hl pins s σ H _ I h) fun v s1 ⟨x,H1,I1,r1,d,kvs,ex,hd,hR⟩=>?_
 subst ex
 cases r1
 obtain⟨o,g,I2⟩:=V3 I1 hd
 obtain⟨_,lo,es,ep,as,⟨o',g',q1,q2⟩,z,ks,at_⟩:=Rr I1 (.inl hd)
 rw[g] at g';cases g'
 refine Th lo ⟨o,g,q1,q2⟩ ?_
 have fresh:=I2.hok.fresh (ZG _)
 have I3:Inv X pins σ (upd H1 d (.frz o (.dT kvs))) { s1 with heap:=s1.heap.push { cls:=.type "dict_keyiterator",data:=.fields #[.ref d,.int 0 0,.int es.size 0,.int ep 0] } }:=I2.kept (t':=s1.toks) fun b ob e=>ZT _ e
 refine⟨s1.heap.objs.size,[s1.heap.objs.size],_,ItD d kvs o,_,rfl,I3,Ye d _ kvs o es ep q1 q2 z,⟨_,ZU _ rfl,rfl,rfl⟩,fun b hb=>?_,hR o⟩
 have e:b=s1.heap.objs.size:=by simpa using hb
 subst e
 exact I2.fpOk (ZG _) fresh
end
end FX
namespace FhS
open PySem PyProof.Rows PySem.W
def Asks(cmp:Nat→Nat→(Bool→Shared→Prop)→Shared→Prop)(lt:Nat→Nat→Bool)(n:Nat)(s:Shared):Prop :=
 ∀i j,i<n→j<n→∀C:Bool→Shared→Prop,C (lt i j) s→cmp i j C s
structure Ordr(lt:Nat→Nat→Bool)(n:Nat):Prop where
 tr:∀i j k,i<n→j<n→k<n→lt i j=true→lt j k=true→lt i k=true
 tot:∀i j,i<n→j<n→i≠j→lt i j=false→lt j i=true
structure Pm(p:Array Nat)(n:Nat):Prop where
 pm:p.toList.Perm (List.range n)
theorem Pm.size{p:Array Nat}{n:Nat}(h:Pm p n):p.size=n:=by
 have:=h.pm.length_eq
 simpa using this
theorem Pm.lt{p:Array Nat}{n i:Nat}(h:Pm p n)(hi:i<n):p.getD i 0<n:=by
 have hs:=h.size
 have hi':i<p.size:=by lia
 have e:p.getD i 0=p[i]:=by simp[Array.getD,hi']
 rw[e]
 have:p[i]∈List.range n:=h.pm.mem_iff.mp (by simp)
 exact List.mem_range.mp this
theorem Pm.inj{p:Array Nat}{n i j:Nat}(h:Pm p n)(hi:i<n)(hj:j<n)(e:p.getD i 0=p.getD j 0):i=j:=by
 have hs:=h.size
 have hi':i<p.size:=by lia
 have hj':j<p.size:=by lia
 have nd:p.toList.Nodup:=h.pm.nodup_iff.mpr List.nodup_range
 have e1:p.getD i 0=p[i]:=by simp[Array.getD,hi']
 have e2:p.getD j 0=p[j]:=by simp[Array.getD,hj']
 rw[e1,e2] at e
 have:=(List.getElem_inj (xs:=p.toList) (i:=i) (j:=j) (h₀:=by simpa using hi') (h₁:=by simpa using hj') nd).mp (by simpa using e)
 exact this
theorem Pm.of_perm{p q:Array Nat}{n:Nat}(h:Pm p n)(hq:q.Perm p):Pm q n:=⟨(Array.perm_iff_toList_perm.mp hq).trans h.pm⟩
theorem Jao(n:Nat):Pm (List.toArray (List.range n)) n:=⟨by simp⟩
def Up(lt:Nat→Nat→Bool)(p:Array Nat)(m:Nat):Prop:=∀i j,i<j→j<m→lt (p.getD i 0) (p.getD j 0)=true
def Dn(lt:Nat→Nat→Bool)(p:Array Nat)(m:Nat):Prop:=∀i j,i<j→j<m→lt (p.getD j 0) (p.getD i 0)=true
section
variable {lt:Nat→Nat→Bool}{n:Nat}(O:Ordr lt n)
include O
theorem other{p:Array Nat}(h:Pm p n){i j:Nat}(hi:i<n)(hj:j<n)(hij:i≠j)(e:lt (p.getD i 0) (p.getD j 0)=false):lt (p.getD j 0) (p.getD i 0)=true :=
 O.tot _ _ (h.lt hi) (h.lt hj) (fun z=>hij (h.inj hi hj z)) e
theorem Up.snoc{p:Array Nat}(h:Pm p n){a:Nat}(h1:1≤a)(ha:a<n)(u:Up lt p a)(e:lt (p.getD (a-1) 0) (p.getD a 0)=true):Up lt p (a+1):=by
 intro i j hij hj
 by_cases hja:j=a
 ·subst hja
  by_cases hi:i=j-1
  ·rw[hi];exact e
  ·exact O.tr _ _ _ (h.lt (by lia)) (h.lt (by lia)) (h.lt ha) (u i (j-1) (by lia) (by lia)) e
 ·exact u i j hij (by lia)
theorem Dn.snoc{p:Array Nat}(h:Pm p n){a:Nat}(h1:1≤a)(ha:a<n)(u:Dn lt p a)(e:lt (p.getD a 0) (p.getD (a-1) 0)=true):Dn lt p (a+1):=by
 intro i j hij hj
 by_cases hja:j=a
 ·subst hja
  by_cases hi:i=j-1
  ·rw[hi];exact e
  ·exact O.tr _ _ _ (h.lt ha) (h.lt (by lia)) (h.lt (by lia)) e (u i (j-1) (by lia) (by lia))
 ·exact u i j hij (by lia)
theorem Wg{cmp:Nat→Nat→(Bool→Shared→Prop)→Shared→Prop}{s:Shared}(K:Asks cmp lt n s){p:Array Nat}(h:Pm p n):∀(f a:Nat)(G:Nat→Shared→Prop),1≤a→a+f≤n→Up lt p a →
 (∀m,a≤m→m≤a+f→Up lt p m→(m=a+f∨lt (p.getD m 0) (p.getD (m-1) 0)=true)→G m s)→(kas_asc p f a).kasWp cmp G s
 | 0,a,G,_,_,u,k=>k a (ZG _) (ZG _) u (.inl rfl)
 | f+1,a,G,h1,hn,u,k=>by
   unfold kas_asc
   refine K _ _ (h.lt (by lia)) (h.lt (by lia)) _ ?_
   cases e:lt (p.getD a 0) (p.getD (a-1) 0) with
   | true =>
     simp only[if_true]
     exact k a (ZG _) (by lia) u (.inr e)
   | false =>
     simp only[Bool.false_eq_true,if_false]
     exact Wg K h f (a+1) G (by lia) (by lia) (Up.snoc O h h1 (by lia) u (other O h (by lia) (by lia) (by lia) e)) fun m a1 a2 a3 a4=>k m (by lia) (by lia) a3 (a4.imp (fun z=>by lia) fun z=>z)
theorem X1{cmp:Nat→Nat→(Bool→Shared→Prop)→Shared→Prop}{s:Shared}(K:Asks cmp lt n s){p:Array Nat}(h:Pm p n):∀(f a:Nat)(G:Array Nat×Nat×Nat→Shared→Prop),1≤a→a+f≤n→Dn lt p a →
 (∀m,a≤m→m≤a+f→Dn lt p m→G (p,m,0) s)→(kas_desc f p a 0).kasWp cmp G s
 | 0,a,G,_,_,u,k=>k a (ZG _) (ZG _) u
 | f+1,a,G,h1,hn,u,k=>by
   unfold kas_desc
   refine K _ _ (h.lt (by lia)) (h.lt (by lia)) _ ?_
   cases e:lt (p.getD a 0) (p.getD (a-1) 0) with
   | true =>
     simp only[if_true,Nat.lt_irrefl,gt_iff_lt,if_false]
     exact X1 K h f (a+1) G (by lia) (by lia) (Dn.snoc O h h1 (by lia) u e) fun m a1 a2 a3=>k m (by lia) (by lia) a3
   | false =>
     simp only[Bool.false_eq_true,if_false]
     refine K _ _ (h.lt (by lia)) (h.lt (by lia)) _ ?_
     simp only[other O h (by lia) (by lia) (by lia) e,if_true]
     exact k a (ZG _) (by lia) u
omit O in
theorem Lj{p q:Array Nat}{i j:Nat}(e:p[i]?=q[j]?):p.getD i 0=q.getD j 0:=by
 rw[Array.getD_eq_getD_getElem?,Array.getD_eq_getD_getElem?,e]
omit O in
theorem Je9{p:Array Nat}{m:Nat}(hm:m≤p.size)(d:Dn lt p m):Up lt (kas_rev p 0 m) m:=by
 intro i j hij hj
 have g:∀k,k<m→(kas_rev p 0 m).getD k 0=p.getD (m-1-k) 0:=fun k hk=>by
  refine Lj ?_
  unfold kas_rev
  rw[getElem?_mirror_all hm,if_pos ⟨Nat.zero_le _,hk⟩]
  congr 1;lia
 rw[g i (by lia),g j hj]
 exact d _ _ (by lia) (by lia)
theorem Jb2{cmp:Nat→Nat→(Bool→Shared→Prop)→Shared→Prop}{s:Shared}(K:Asks cmp lt n s)(hn:1≤n){p:Array Nat}(h:Pm p n)(G:Nat×Array Nat→Shared→Prop)(k:∀m q,1≤m→m≤n→Pm q n→Up lt q m→G (m,q) s):(kas_count n p).kasWp cmp G s:=by
 unfold kas_count
 rw[KasT.kasWp_bind]
 have up1:Up lt p 1:=fun i j h1 h2=>by lia
 refine Wg O K h (n-1) 1 _ (ZG _) (by lia) up1 fun a a1 a2 a3 a4=>?_
 by_cases ha:(a==n)=true
 ·rw[if_pos ha]
  exact k a p a1 (by lia) h a3
 ·rw[if_neg ha]
  have ha':a≠n:=by simpa using ha
  by_cases h1:a > 1
  ·rw[if_pos h1]
   refine K _ _ (h.lt (by lia)) (h.lt (by lia)) _ ?_
   simp only[a3 0 (a-1) (by lia) (by lia),if_true]
   exact k a p a1 (by lia) h a3
  ·rw[if_neg h1]
   have e1:a=1:=by lia
   subst e1
   unfold kas_descPart
   rw[KasT.kasWp_bind]
   have e2:lt (p.getD 1 0) (p.getD 0 0)=true:=a4.elim (fun z=>by lia) fun z=>z
   have d2:Dn lt p (1+1):=by
    intro i j hij hj
    have e3:i=0:=by lia
    have e4:j=1:=by lia
    rw[e3,e4];exact e2
   refine X1 O K h (n-(1+1)) (1+1) _ (by lia) (by lia) d2 fun m q2 q3 q4=>?_
   simp only[gt_iff_lt,Nat.lt_irrefl,if_false]
   unfold kas_tail3
   rw[KasT.kasWp_bind]
   have hr:Pm (kas_rev p 0 m) n:=h.of_perm (mirror_perm _ _ _ _)
   refine Wg O K hr (n-m) m _ (by lia) (by lia) (Je9 (by rw[h.size];lia) q4) fun b b1 b2 b3 _=>?_
   exact k b _ (by lia) (by lia) hr b3
theorem L5{cmp:Nat→Nat→(Bool→Shared→Prop)→Shared→Prop}{s:Shared}(K:Asks cmp lt n s){p:Array Nat}(h:Pm p n){k:Nat}(hk:k<n)(u:Up lt p k):∀(f l r:Nat)(G:Nat→Shared→Prop),l≤r→r≤k→r-l≤f→(∀i,i<l→lt (p.getD i 0) (p.getD k 0)=true)→(∀i,r≤i→i<k→lt (p.getD k 0) (p.getD i 0)=true) →
 (∀m,m≤k→(∀i,i<m→lt (p.getD i 0) (p.getD k 0)=true)→(∀i,m≤i→i<k→lt (p.getD k 0) (p.getD i 0)=true)→G m s)→(kas_place p k f l r).kasWp cmp G s
 | 0,l,r,G,h1,h2,h3,lo,hi,g=>g l (by lia) lo fun i a b=>hi i (by lia) b
 | f+1,l,r,G,h1,h2,h3,lo,hi,g=>by
   unfold kas_place
   by_cases q:l ≥ r
   ·rw[if_pos q]
    exact g l (by lia) lo fun i a b=>hi i (by lia) b
   ·rw[if_neg q]
    refine K _ _ (h.lt hk) (h.lt (by lia)) _ ?_
    cases e:lt (p.getD k 0) (p.getD ((l+r) / 2) 0) with
    | true =>
      simp only[if_true]
      refine L5 K h hk u f l ((l+r) / 2) G (by lia) (by lia) (by lia) lo (fun i a b=>?_) g
      by_cases z:i=(l+r) / 2
      ·rw[z];exact e
      ·exact O.tr _ _ _ (h.lt hk) (h.lt (by lia)) (h.lt (by lia)) e (u _ _ (by lia) b)
    | false =>
      simp only[Bool.false_eq_true,if_false]
      have e':=other O h hk (by lia) (by lia) e
      refine L5 K h hk u f ((l+r) / 2+1) r G (by lia) h2 (by lia) (fun i a=>?_) hi g
      by_cases z:i=(l+r) / 2
      ·rw[z];exact e'
      ·exact O.tr _ _ _ (h.lt (by lia)) (h.lt (by lia)) (h.lt hk) (u _ _ (by lia) (by lia)) e'
omit O in
theorem Jf1{p:Array Nat}(h:Pm p n){k l:Nat}(hk:k<n)(hl:l≤k)(u:Up lt p k)(lo:∀i,i<l→lt (p.getD i 0) (p.getD k 0)=true)(hi:∀i,l≤i→i<k→lt (p.getD k 0) (p.getD i 0)=true) :
 Up lt (bubble p k (k-l)) (k+1):=by
 have g:∀j,j<k+1→(bubble p k (k-l)).getD j 0=if j=l then p.getD k 0 else if l<j then p.getD (j-1) 0 else p.getD j 0:=fun j hj=>by
  have e:=getElem?_bubble (xs:=p) (src:=k) (by rw[h.size];exact hk) (k-l) (by lia) j
  rw[show k-(k-l)=l by lia] at e
  by_cases c1:j=l
  ·rw[if_pos c1] at e ⊢;exact Lj e
  ·rw[if_neg c1] at e ⊢
   by_cases c2:l<j
   ·rw[if_pos ⟨c2,by lia⟩] at e;rw[if_pos c2];exact Lj e
   ·rw[if_neg (by lia)] at e;rw[if_neg c2];exact Lj e
 intro i j hij hj
 rw[g i (by lia),g j hj]
 repeat' split
 all_goals first
  | (exfalso;lia)
  | exact lo _ (by lia)
  | exact hi _ (by lia) (by lia)
  | exact u _ _ (by lia) (by lia)
theorem Jb6{cmp:Nat→Nat→(Bool→Shared→Prop)→Shared→Prop}{s:Shared}(K:Asks cmp lt n s):∀(f:Nat)(p:Array Nat)(k:Nat)(G:Array Nat→Shared→Prop),Pm p n→k+f=n→Up lt p k→(∀q,Pm q n→Up lt q n→G q s)→(kas_bin f p k).kasWp cmp G s
 | 0,p,k,G,h,hk,u,g=>by
   have e:k=n:=by lia
   subst e;exact g p h u
 | f+1,p,k,G,h,hk,u,g=>by
   unfold kas_bin
   rw[KasT.kasWp_bind]
   exact L5 O K h (k:=k) (by lia) u k 0 k _ (Nat.zero_le _) (ZG _) (by lia) (fun i a=>by lia) (fun i a b=>by lia) fun m c1 c2 c3 =>
    Jb6 K f _ (k+1) G (h.of_perm (bubble_perm _ _ _)) (by lia) (Jf1 h (by lia) c1 u c2 c3) g
theorem sort_wp{cmp:Nat→Nat→(Bool→Shared→Prop)→Shared→Prop}{s:Shared}(K:Asks cmp lt n s)(hn:1≤n)(G:Array Nat→Shared→Prop)(g:∀q,Pm q n→Up lt q n→G q s):(kas_sort n).kasWp cmp G s:=by
 unfold kas_sort
 rw[KasT.kasWp_bind]
 refine Jb2 O K hn (Jao n) _ fun m q h1 h2 h3 h4=>?_
 by_cases c:m<n
 ·rw[if_pos c]
  have e2:max m 1=m:=by lia
  show(kas_bin (n-max m 1) q (max m 1)).kasWp cmp G s
  rw[e2]
  exact Jb6 O K _ q m G h3 (by lia) h4 g
 ·rw[if_neg c]
  have e2:m=n:=by lia
  subst e2;exact g q h3 h4
end
end FhS
namespace FX
open PySem PySem.Spec PyProof.Rows L2
section
variable {prog:Program}{w:World}{A:Around}{E:Value→Shared→Prop}{s:Shared}{d:Addr}{es:Array DictEntry}{ep:Nat}
theorem Ym(hh:A.handled=none)(I d:Addr)(hne:d≠I)(es:Array DictEntry)(ep:Nat):Walks prog w A I [I,d] [I] es.size (fun i v=>∃e,es[i]?=some e∧v=e.key) (fun i h=>h.IsKeyIter I d i es.size ep∧RawD h d es ep) where
 sub:=fun b hb=>by simp at hb;simp[hb]
 frame:=fun _ _ _ st hk=>⟨let⟨o,e,r⟩:=st.1;⟨o,hk I (by simp) o e,r⟩,st.2.at fun o e=>hk d (by simp) o e⟩
 item:=fun i s0 Q E0 hi st hQ=>Tf st.1 st.2 (e:=es[i]) (by simp[hi]) fun h' it' sb =>
  hQ _ h' s0.toks ⟨es[i],by simp[hi],rfl⟩ ⟨it',st.2.at fun o e=>(sb.2 d hne).trans e⟩ fun b o hb e=>(sb.2 b fun z=>hb (by simp[z])).trans e
 done:=fun s0 Q E0 st hQ=>Xg hh st.1 st.2 (ZG _) fun h' eb=>hQ h' s0.toks fun b o hb e=>eb b o (fun z=>hb (by simp[z])) e
 self:=fun _ _ _ _ st hQ=>wpAny_pyIter_keyiter st.1 hQ
theorem Qo(lo:(d==sysModules)=false):W.KdlSrc prog w "dict" d d es.size (fun i v=>∃e,es[i]?=some e∧v=e.key) (fun h=>RawD h d es ep) where
 type:=fun _ ⟨o,e,x,_⟩=>⟨o,e,x.1⟩
 there:=fun _ ⟨o,e,_⟩=>⟨Heap.lt_size e,Heap.lt_size e⟩
 keep:=fun _ _ hm hk=>hm.at fun o e=>hk d (.inl rfl) o e
 notList:=by decide
 notTuple:=by decide
 hint:=fun _ _ _ _ ⟨o,e,x,_⟩ hq=>W.kdl_hint_dict ⟨o,e,x.1⟩ hq
 iter:=fun _ s0 hh hm=>⟨_,_,(fun _ _ hq=>Th lo hm hq),Ym hh _ d (let⟨o,e,_⟩:=hm;Nat.ne_of_lt (Heap.lt_size e)) es ep,⟨⟨_,ZU _ rfl,rfl,rfl⟩,hm.at fun o e=>ZT _ e⟩⟩
end
theorem Jw:∀as:List Addr,Vals (as.map V.ref) (as.map Value.ref)
 | []=>.nil
 | _::as=>.cons rfl (Jw as)
theorem U2{es:Array DictEntry}{acc:Array Value}{as:List Addr}(ha:ItemsOf (fun i v=>∃e,es[i]?=some e∧v=e.key) acc es.size)(hla:as.length=es.size)(at_:∀j (h:j<es.size),∃a,as[j]?=some a∧es[j].key=.ref a):acc.toList=as.map Value.ref:=by
 refine List.ext_getElem? fun j=>?_
 by_cases hj:j<es.size
 ·have h1:j<acc.size:=by rw[ha.1];exact hj
  obtain⟨e2,e3,e4⟩:=ha.2 j acc[j] (by simp[h1])
  obtain⟨a,e5,e6⟩:=at_ j hj
  have e7:e2=es[j]:=by
   have:es[j]?=some es[j]:=by simp[hj]
   rw[this] at e3;exact(ZO e3).symm
  rw[ZH,e5]
  have:acc.toList[j]?=some acc[j]:=by simp[h1]
  rw[this,e4,e7,e6]
  rfl
 ·have h1:acc.toList.length≤j:=by rw[Array.length_toList,ha.1];lia
  have h2:(as.map Value.ref).length≤j:=by rw[ZA];lia
  rw[List.getElem?_eq_none h1,List.getElem?_eq_none h2]
section
variable {X:Cx}
theorem Nq(hc:X.calm=true):Em X (.type "list") (fun xs H Q=>∃d kvs,xs=[.ref d]∧Rd H d (.dT kvs)∧∀l as,H l=none→Kys H kvs as→Q (.ref l) (upd H l (.lst (as.map V.ref)))):=by
 intro pins s σ H xs us Q I r h
 obtain⟨d,kvs,rfl,hd,q⟩:=h
 obtain⟨u,rfl,rx⟩:=vals1 r
 cases rx
 obtain⟨z,lo,es,ep,as,raw,hz,ks,at_⟩:=Rr I hd
 refine W.kdl_call (Qo lo (es:=es) (ep:=ep)) (I.ok.hd hc) raw (by rw[hz];exact z) fun h' tk acc c kp e ha=>?_
 have hn:H s.heap.objs.size=none:=I.hok.fresh (ZG _)
 have hla:as.length=kvs.length:=(Paired.length ks).symm
 have e1:acc.toList=as.map Value.ref:=U2 ha (by lia) at_
 refine⟨.ref s.heap.objs.size,_,I.laid (t':=tk) kp (ZG _) (show ObjOk X.prog X.w _ h' _ (.lst (as.map V.ref)) from⟨by rw[ZA];lia,acc.toList,c,?_,by simpa using e⟩),rfl,q _ as hn ks⟩
 rw[e1]
 exact Jw as
end
theorem Lg:∀xs:List Int,HT.lexLt xs xs=false
 | []=>rfl
 | x::xs=>by rw[HT.lexLt_cons,if_pos rfl];exact Lg xs
theorem Re:∀{xs ys zs:List Int},HT.lexLt xs ys=true→HT.lexLt ys zs=true→HT.lexLt xs zs=true
 | [],[],_,h,_=>by cases h
 | [],_::_,[],_,h=>by cases h
 | [],_::_,_::_,_,_=>rfl
 | _::_,[],_,h,_=>by cases h
 | _::_,_::_,[],_,h=>by cases h
 | x::xs,y::ys,z::zs,h1,h2=>by
   rw[HT.lexLt_cons] at h1 h2 ⊢
   by_cases e1:x=y
   ·rw[if_pos e1] at h1
    by_cases e2:y=z
    ·rw[if_pos e2] at h2
     rw[if_pos (e1.trans e2)];exact Re h1 h2
    ·rw[if_neg e2] at h2
     rw[if_neg (by rw[e1];exact e2),e1];exact h2
   ·rw[if_neg e1] at h1
    have h1:=of_decide_eq_true h1
    by_cases e2:y=z
    ·rw[if_neg (by rw[←e2];exact e1),←e2];exact decide_eq_true h1
    ·rw[if_neg e2] at h2
     have h2:=of_decide_eq_true h2
     rw[if_neg (by lia)];exact decide_eq_true (by lia)
theorem Rf:∀{xs ys:List Int},xs≠ys→HT.lexLt xs ys=false→HT.lexLt ys xs=true
 | [],[],h,_=>absurd rfl h
 | [],_::_,_,h=>by cases h
 | _::_,[],_,_=>rfl
 | x::xs,y::ys,hne,h=>by
   rw[HT.lexLt_cons] at h ⊢
   by_cases e:x=y
   ·rw[if_pos e] at h
    rw[if_pos e.symm]
    exact Rf (fun z=>hne (by rw[e,z])) h
   ·rw[if_neg e] at h
    have h:=of_decide_eq_false h
    rw[if_neg (Ne.symm e)];exact decide_eq_true (by lia)
theorem Hm{α:Type}{lt:α→α→Prop}(irr:∀a,¬lt a a)(asym:∀a b,lt a b→¬lt b a):∀{l₁ l₂:List α},l₁.Perm l₂→l₁.Pairwise lt→l₂.Pairwise lt→l₁=l₂
 | [],l₂,p,_,_=>(List.Perm.nil_eq p)
 | a::l₁,[],p,_,_=>by have:=p.length_eq;simp at this
 | a::l₁,b::l₂,p,h1,h2=>by
   have h1':=List.pairwise_cons.mp h1
   have h2':=List.pairwise_cons.mp h2
   have e:a=b:=by
    have ha:a∈b::l₂:=p.mem_iff.mp (ZL ..)
    have hb:b∈a::l₁:=p.mem_iff.mpr (ZL ..)
    rcases ZM ha with e|ha
    ·exact e
    ·rcases ZM hb with e|hb
     ·exact e.symm
     ·exact absurd (h2'.1 a ha) (asym _ _ (h1'.1 b hb))
   subst e
   rw[Hm irr asym (List.Perm.cons_inv p) h1'.2 h2'.2]
section
variable {prog:Program}{w:World}{A:Around}{E:Value→Shared→Prop}{s:Shared}
theorem Oq{a:Addr}{vs:List Value}{n:Nat}{lt:Nat→Nat→Bool}{P:PySem.Fin→Shared→Prop}(ho:s.heap.get? a=some (seqObj "list" vs.toArray n))(h64:vs.length<64)(O:FhS.Ordr lt vs.length)(K:2≤vs.length→∀h',(∀b o,b≠a→s.heap.get? b=some o→h'.get? b=some o)→∀Q:SortKind→Shared→Prop,(∀κ,FhS.Asks (W.kas_ask prog w A κ vs) lt vs.length { s with heap:=h' }→Q κ { s with heap:=h' })→wpAny (model prog w) A (keyKind' vs.toArray) Q E { s with heap:=h' })(h:∀q:List Nat,q.Perm (List.range vs.length)→q.Pairwise (fun i j=>lt i j=true)→∀h' c,(∀b o,b≠a→s.heap.get? b=some o→h'.get? b=some o)→h'.get? a=some (seqObj "list" (q.map fun i=>vs.getD i .none).toArray c)→P (.done (.ret .none)) { s with heap:=h' }) :
 wpAny (model prog w) A (Builtin.«list.sort» ⟨[.ref a],[]⟩) P E s:=by
 rw[list_sort_plain]
 have al:a<s.heap.objs.size:=Heap.lt_size ho
 have small:∀{k:Nat},k≤63→k≤sizeLine:=fun hk=>by rw[sizeLine_eq];lia
 refine ZR (listItems_at ho rfl (ZR (listUpdate_at ho rfl ?_ (by rw[List.size_toArray];exact small (by lia)) (Nat.zero_le _))))
 obtain⟨e1,g1⟩:∃e1,(s.heap.update a (Obj.mapSeq fun _=>(#[]:Array Value))).get? a=some (seqObj "list" #[] e1):=⟨_,get?_update_seq ho fun _=>#[]⟩
 refine ZR (seqEpoch_at g1 rfl (ZR (wpAny_newTuple (ZR (wpAny_newList (wpAny_holding ?_) (Nat.zero_le _))) (by show vs.length≤_;exact small (by lia)))))
 have g2:(((s.heap.update a (Obj.mapSeq fun _=>(#[]:Array Value))).push (seqObj "tuple" vs.toArray 0)).push (seqObj "list" #[] 0)).get? a=some (seqObj "list" #[] e1):=ZT _ (ZT _ g1)
 have kp:∀b o,b≠a→s.heap.get? b=some o→(((s.heap.update a (Obj.mapSeq fun _=>(#[]:Array Value))).push (seqObj "tuple" vs.toArray 0)).push (seqObj "list" #[] 0)).get? b=some o:=fun b o hb e =>
  ZT _ (ZT _ ((Heap.get?_update_other _ _ (Ne.symm hb)).trans e))
 show wpAny (model prog w) A _ P E { s with heap:=((s.heap.update a (Obj.mapSeq fun _=>(#[]:Array Value))).push (seqObj "tuple" vs.toArray 0)).push (seqObj "list" #[] 0) }
 generalize ((s.heap.update a (Obj.mapSeq fun _=>(#[]:Array Value))).push (seqObj "tuple" vs.toArray 0)).push (seqObj "list" #[] 0)=hh at g2 kp
 dsimp only
 have fin:∀(st:SortSt)(q:List Nat),(arrOf st).map (·.2)=(q.map fun i=>vs.getD i .none).toArray→failedOf st=none→q.Perm (List.range vs.length)→q.Pairwise (fun i j=>lt i j=true) →
  wpAny (model prog w) A (do
   let touched:=(←seqEpoch a) != e1
   Builtin.List.listUpdate (.ref a) fun _=>(arrOf st).map (·.2)
   if let some e:=failedOf st then rule "list.sort.comparison-raised";throw e
   if touched then rule "list.sort.modified";raiseError "ValueError" "list modified during sort"
   ret .none) P E { s with heap:=hh }:=fun st q ea ef qp qo=>by
  have hl:q.length=vs.length:=by rw[qp.length_eq,List.length_range]
  refine ZR (seqEpoch_at g2 rfl ?_)
  rw[ea]
  refine ZR (listUpdate_at g2 rfl ?_ (Nat.zero_le _) (by show(q.map fun i=>vs.getD i Value.none).toArray.size≤sizeLine+1;rw[List.size_toArray,ZA,hl];exact Nat.le_succ_of_le (small (by lia))))
  rw[ef]
  simp only[bne_self_eq_false,Bool.false_eq_true,if_false]
  refine ZS (h q qp qo _ _ (fun b o hb e=>(Heap.get?_update_other _ _ (Ne.symm hb)).trans (kp b o hb e)) (get?_update_seq g2 _))
 by_cases h2:vs.toArray.size<2
 ·rw[if_pos h2,if_pos h2]
  refine ZR (ZS ?_)
  rw[StateT.run_pure]
  refine ZR (ZS ?_)
  have h2':vs.length<2:=by simpa using h2
  refine fin (SortSt.mk' general' (vs.toArray.zip vs.toArray) #[] 7 none) (List.range vs.length) ?_ rfl (List.Perm.refl _) ?_
  ·show(vs.toArray.zip vs.toArray).map (·.2)=_
   match vs,h2' with
   | [],_=>simp
   | [v],_=>simp
  ·match vs,h2' with
   | [],_=>exact List.Pairwise.nil
   | [v],_=>exact List.pairwise_singleton _ _
 ·rw[if_neg h2,if_neg h2]
  have h2':2≤vs.length:=by simpa using h2
  refine ZR (K h2' hh kp _ fun κ ask=>?_)
  refine ZR (wpAny_mono (W.kat_run (E:=E) (vs:=vs) (ks:=vs) (κ:=κ) (s:={ s with heap:=hh }) (Q:=fun st' s'=>s'={ s with heap:=hh }∧∃q:List Nat,(arrOf st').map (·.2)=(q.map fun i=>vs.getD i .none).toArray∧failedOf st'=none∧q.Perm (List.range vs.length)∧q.Pairwise (fun i j=>lt i j=true))
   (G:=fun p s'=>s'={ s with heap:=hh }∧FhS.Pm p vs.length∧FhS.Up lt p vs.length) rfl h2' h64 (fun p st' s' hp ha hf ⟨e,pm,up⟩=>?_) (FhS.sort_wp O ask (by lia) _ fun q pm up=>⟨rfl,pm,up⟩)) (fun r s' hr=>?_) fun _ _ e=>e)
  ·refine⟨e,p.toList,W.kat_snds rfl ha,hf,pm.pm,?_⟩
   rw[List.pairwise_iff_getElem]
   intro i j hi hj hij
   have hs:=pm.size
   have:=up i j hij (by rw[←hs];simpa using hj)
   have gi:p.getD i 0=p.toList[i]:=by simp[Array.getD,show i<p.size by simpa using hi]
   have gj:p.getD j 0=p.toList[j]:=by simp[Array.getD,show j<p.size by simpa using hj]
   rw[gi,gj] at this
   exact this
  ·obtain⟨u,st'⟩:=r
   obtain⟨e,q,q1,q2,q3,q4⟩:=hr
   dsimp only at e q1 q2 ⊢
   subst e
   exact fin st' q q1 q2 q3 q4
end
section
variable {prog:Program}{w:World}{A:Around}{E:Value→Shared→Prop}
theorem Ud{b fin:Bool}{Q:Bool→Shared→Prop}:∀{us ws:List Value} {ns ms:List Int} (i:Nat) (s:Shared),IntsAre us ns→IntsAre ws ms→fin=decide (ns.length<ms.length)→Q (HT.lexLt ns ms) s→W.KatLex prog w A b fin Q (us.zip ws) i s
 | _,_,_,_,i,s,.nil,.nil,hf,h=>by
   rw[List.zip_nil_left]
   refine W.kat_nil ?_
   rw[hf];exact h
 | _,_,_,_,i,s,.nil,.cons (ns:=ms) m t r,hf,h=>by
   rw[List.zip_nil_left]
   refine W.kat_nil ?_
   rw[hf]
   have:decide (([]:List Int).length<(m::ms).length)=true:=by simp
   rw[this];exact h
 | _,_,_,_,i,s,.cons (ns:=ns) n t r,.nil,hf,h=>by
   rw[List.zip_nil_right]
   refine W.kat_nil ?_
   rw[hf]
   have:decide ((n::ns).length<([]:List Int).length)=false:=by simp
   rw[this];exact h
 | _,_,_,_,i,s,.cons (ns:=ns) n t r,.cons (ns:=ms) m u q,hf,h=>by
   rw[List.zip_cons_cons]
   refine W.kat_cons (wpAny_eqBool_int (W.kat_go (fun e=>W.kat_yes ?_) fun e=>W.kat_no ?_))
   ·have e:n=m:=by simpa using e
    rw[HT.lexLt_cons,if_pos e] at h
    exact Ud (i+1) s r q (by rw[hf];simp) h
   ·have e:n≠m:=by simpa using e
    rw[HT.lexLt_cons,if_neg e] at h
    cases hb:(b&&i==0) with
    | true=>exact oneLt_int h
    | false=>exact W.kat_one _ _ (lt_int h)
def TupsAt(h:Heap):List Addr→List (List Int)→Prop:=Paired fun a ns=>ns≠[]∧∃its,IsTup h a its∧IntsAre its.toList ns
theorem Ki{h:Heap}:∀{as:List Addr} {nss:List (List Int)},TupsAt h as nss→∃fs:List Value,W.KatTups h (as.map Value.ref) fs∧fs.length=as.length∧∀v∈fs,∃n t,v=Value.int n t
 | _,_,.nil=>⟨[],trivial,rfl,fun v hv=>by simp at hv⟩
 | _,_,.cons (a:=a) (b:=ns) r t=>by
   obtain⟨fs,a1,a2,a3⟩:=Ki t
   obtain⟨hne,its,⟨o,ho,hc,n,hd⟩,hi⟩:=r
   cases hL:its.toList with
   | nil=>rw[hL] at hi;cases hi;exact absurd rfl hne
   | cons f fr =>
     rw[hL] at hi
     cases hi with
     | cons n0 t0 hr =>
       refine⟨Value.int n0 t0::fs,W.KatTups.cons ho hc hd ?_ a1,by simp[a2],fun v hv=>?_⟩
       ·have:its[0]?=its.toList[0]?:=by simp
        rw[this,hL];rfl
       ·rcases ZM hv with rfl|hv
        ·exact⟨_,_,rfl⟩
        ·exact a3 v hv
theorem TupsAt.keep{h h':Heap}(k:∀b o,h.get? b=some o→(∃ts n,o.data=.seq ts n∧o.cls=.type "tuple")→h'.get? b=some o){as:List Addr}{nss:List (List Int)}(t:TupsAt h as nss):TupsAt h' as nss :=
 Ay (fun a ns ⟨h1,its,⟨o,ho,hc,n,hd⟩,hi⟩=>⟨h1,its,⟨o,k a o ho ⟨_,_,hd,hc⟩,hc,n,hd⟩,hi⟩) t
theorem Yf{s:Shared}{κ:SortKind}(hκ:∃b,κ=tuples' b){as:List Addr}{nss:List (List Int)}(t:TupsAt s.heap as nss) :
 FhS.Asks (W.kas_ask prog w A κ (as.map Value.ref)) (fun i j=>HT.lexLt (nss.getD i []) (nss.getD j [])) (as.map Value.ref).length s:=by
 obtain⟨b,rfl⟩:=hκ
 intro i j hi hj C hC
 rw[ZA] at hi hj
 have get:∀k,k<as.length→∃a ns its,(as.map Value.ref).getD k .none=.ref a∧nss.getD k []=ns∧IsTup s.heap a its∧IntsAre its.toList ns:=fun k hk=>by
  have hl:=Paired.length t
  have h1:as[k]?=some as[k]:=by simp[hk]
  have h2:nss[k]?=some (nss[k]'(by lia)):=by simp[show k<nss.length by lia]
  obtain⟨_,its,q1,q2⟩:=A2 t k _ _ h1 h2
  exact⟨as[k],_,its,by simp[hk],by simp[show k<nss.length by lia],q1,q2⟩
 obtain⟨a,ns,its,e1,e2,⟨o,ho,hc,n,hd⟩,hi1⟩:=get i hi
 obtain⟨a',ns',its',e1',e2',⟨o',ho',hc',n',hd'⟩,hi1'⟩:=get j hj
 unfold W.kas_ask
 rw[e1,e1']
 refine W.kat_lt ho hd ho' hd' (Ud 0 s hi1 hi1' ?_ (by dsimp only at hC;rw[e2,e2'] at hC;exact hC))
 have l1:=hi1.length
 have l2:=hi1'.length
 simp only[Array.length_toList] at l1 l2
 rw[l1,l2]
theorem Vx{s:Shared}{a:Addr}{as:List Addr}{nss:List (List Int)}{n:Nat}{P:PySem.Fin→Shared→Prop}(ho:s.heap.get? a=some (seqObj "list" (as.map Value.ref).toArray n))(h64:as.length<64)(t:TupsAt s.heap as nss)(nd:nss.Nodup)(h:∀q:List Nat,q.Perm (List.range as.length)→q.Pairwise (fun i j=>HT.lexLt (nss.getD i []) (nss.getD j [])=true)→∀h' c,(∀b o,b≠a→s.heap.get? b=some o→h'.get? b=some o)→h'.get? a=some (seqObj "list" (q.map fun i=>(as.map Value.ref).getD i .none).toArray c)→P (.done (.ret .none)) { s with heap:=h' }) :
 wpAny (model prog w) A (Builtin.«list.sort» ⟨[.ref a],[]⟩) P E s:=by
 have hl:=Paired.length t
 have hml:(as.map Value.ref).length=as.length:=ZA ..
 refine Oq (lt:=fun i j=>HT.lexLt (nss.getD i []) (nss.getD j [])) ho (by rw[hml];exact h64) ⟨fun i j k _ _ _=>Re,fun i j hi hj hij e=>Rf (fun z=>hij ?_) e⟩ (fun h2 h' kp Q hQ=>?_) (by rw[hml];exact h)
 ·have hi':i<nss.length:=by lia
  have hj':j<nss.length:=by lia
  have e1:nss[i]=nss[j]:=by simpa [hi',hj'] using z
  exact(List.getElem_inj nd).mp e1
 ·have t':TupsAt h' as nss:=t.keep fun b o e ⟨ts,k,q,qc⟩=>kp b o (fun z=>by rw[z,ho] at e;cases e;have qc:Value.type "list"=Value.type "tuple":=qc;injection qc with qc;exact absurd qc (by decide)) e
  obtain⟨fs,f1,f2,f3⟩:=Ki t'
  refine W.kat_kind (s:={ s with heap:=h' }) (T:=.type "int") f1 (by rw[f2];rw[hml] at h2;lia) (fun v hv=>?_) rfl (hQ _ (Yf ⟨_,rfl⟩ t'))
  obtain⟨m,tk,rfl⟩:=f3 v hv
  exact W.Looks.of_pure rfl
end
theorem L4{α:Type}(g:α→V)(f:α→Addr)(h:∀x,g x=V.ref (f x)):∀as:List α,Vals (as.map g) ((as.map f).map Value.ref)
 | []=>.nil
 | a::as=>.cons (by rw[h a];exact rfl) (L4 g f h as)
section
variable {X:Cx}
theorem Kf(hc:X.calm=true):Em X (.builtin "sorted") (fun xs H Q=>∃d,∃L:List (List Int×V),xs=[.ref d]∧Rd H d (.dT (L.map fun p=>(p.1.map Sum.inl,p.2)))∧L.length<64∧(L.map (·.1)).Nodup∧(∀p∈L,p.1≠[]) ∧
 ∀(l:Addr)(M:List (List Int×Addr)),H l=none→(M.map (·.1)).Perm (L.map (·.1))→M.Pairwise (fun p q=>HT.lexLt p.1 q.1=true)→(∀p∈M,H p.2=some (.tup (p.1.map V.int)))→Q (.ref l) (upd H l (.lst (M.map fun p=>V.ref p.2)))):=by
 intro pins s σ H xs us Q I r h
 obtain⟨d,L,rfl,hd,h64,nd,hne,q⟩:=h
 obtain⟨u,rfl,rx⟩:=vals1 r
 cases rx
 obtain⟨z,lo,es,ep,as,raw,hz,ks,at_⟩:=Rr I hd
 have hlL:(L.map fun p=>((p.1.map Sum.inl:List Key),p.2)).length=L.length:=ZA ..
 have hla:as.length=L.length:=by rw[←hlL];exact(Paired.length ks).symm
 have key:∀(j:Nat)(p:List Int×V),L[j]?=some p→∃a,as[j]?=some a∧H a=some (.tup (p.1.map V.int)):=fun j p hp=>by
  have hj:j<L.length:=(ZJ hp).1
  obtain⟨a,ha⟩:=A1 (xs:=as) (j:=j) (by lia)
  have:=A2 ks j ((p.1.map Sum.inl:List Key),p.2) a (by rw[ZH,hp];rfl) ha
  refine⟨a,ha,?_⟩
  rw[this,List.map_map]
  rfl
 have t0:TupsAt s.heap as (L.map (·.1)):=Dl (by rw[ZA,hla]) fun j a ns e1 e2=>by
  rw[ZH] at e2
  cases hp:L[j]? with
  | none=>rw[hp] at e2;cases e2
  | some p =>
    rw[hp] at e2
    have e3:p.1=ns:=ZO e2
    obtain⟨a',h1,h2⟩:=key j p hp
    rw[e1] at h1;cases h1
    obtain⟨its,rv,it,_⟩:=I.tuple (SqT.of (K:=X.K) h2)
    exact⟨by rw[←e3];exact hne p (ZP hp),its.toArray,it,by rw[←e3];simpa using intsAre_of rv⟩
 refine Calls.call_function_entry kind_sorted plain_sorted entry_sorted (args_sorted1 _) (by
  unfold Builtin.«sorted»
  refine ZR (m:=checkCount "sorted" 1 1 _) (ZS (ZR (W.kdu_collect (Qo lo (es:=es) (ep:=ep)) (show _ from I.ok.hd hc) raw (by rw[hz];exact z) fun h1 tk acc kp ha=>?_)))
  have e1:acc.toList=as.map Value.ref:=U2 ha (by lia) at_
  rw[e1]
  have I1:Inv X pins σ H { s with heap:=h1,toks:=tk }:=I.kept kp
  refine ZR (wpAny_newList ?_ (by rw[ZA,sizeLine_eq];lia))
  have g1:(h1.push (seqObj "list" (as.map Value.ref).toArray 0)).get? h1.objs.size=some (seqObj "list" (as.map Value.ref).toArray 0):=ZU _ rfl
  have t1:TupsAt (h1.push (seqObj "list" (as.map Value.ref).toArray 0)) as (L.map (·.1)):=t0.keep fun b o e _=>ZT _ (kp b o e)
  refine ZR (wpAny_holding (wpAny_call_entry slot_list_sort ⟨_,g1,rfl⟩ entry_list_sort (Vx g1 (by lia) t1 nd fun p pp po h2 c kp2 e=>⟨_,rfl,?_⟩) (args_list_sort _)))
  have hn:H h1.objs.size=none:=I1.hok.fresh (ZG _)
  have inr:∀i∈p,i<as.length:=fun i hi=>List.mem_range.mp (pp.mem_iff.mp hi)
  have eM:(p.map fun i=>(as.map Value.ref).getD i .none)=(p.map fun i=>as.getD i 0).map Value.ref:=by
   rw[List.map_map]
   refine List.map_congr_left fun i hi=>?_
   have:=inr i hi
   simp[this]
  refine ZS ⟨_,rfl,.ref h1.objs.size,_,I1.laid (a:=h1.objs.size) (o:=.lst ((p.map fun i=>((L.map (·.1)).getD i [],as.getD i 0)).map fun q=>V.ref q.2)) (t':=tk) (fun b o hb=>kp2 b o (Nat.ne_of_lt (Heap.lt_size hb)) (ZT _ hb)) (ZG _) ⟨?_,(p.map fun i=>as.getD i 0).map Value.ref,c,?_,?_⟩,rfl,q _ _ hn ?_ ?_ ?_⟩
  ·rw[ZA,ZA,pp.length_eq,List.length_range,sizeLine_eq];lia
  ·rw[List.map_map]
   exact L4 _ (fun i=>as.getD i 0) (fun _=>rfl) p
  ·rw[←eM];exact e
  ·rw[List.map_map]
   have e2:(List.range as.length).map (fun i=>(L.map (·.1)).getD i [])=L.map (·.1):=by
    refine List.ext_getElem? fun j=>?_
    rw[ZH]
    by_cases hj:j<L.length
    ·have h3:(List.range as.length)[j]?=some j:=by simp[hla,hj]
     rw[h3]
     simp[hj]
    ·have h3:(List.range as.length)[j]?=none:=by simp[hla];lia
     rw[h3,List.getElem?_eq_none (by rw[ZA];lia)]
     rfl
   have e7:=pp.map fun i=>(L.map (·.1)).getD i []
   rw[e2] at e7
   exact e7
  ·rw[List.pairwise_map]
   exact po
  ·intro r hr
   obtain⟨i,hi,e3⟩:=ZN hr
   have hlt:=inr i hi
   obtain⟨p0,hp0⟩:=A1 (xs:=L) (j:=i) (by lia)
   obtain⟨a,h3,h4⟩:=key i p0 hp0
   rw[←e3]
   have e5:as.getD i 0=a:=by rw[List.getD_eq_getElem?_getD,h3];rfl
   have e6:(L.map (·.1)).getD i []=p0.1:=by rw[List.getD_eq_getElem?_getD,ZH,hp0];rfl
   show H (as.getD i 0)=some (.tup (((L.map (·.1)).getD i []).map V.int))
   rw[e5,e6];exact h4)
def Jib(K:W.Frag):List V→Hp→VK→Prop:=fun xs H Q=>∃x n t b,xs=[x,.ty n]∧Kh K H x t∧W.kitOne K t (.type n)=some b∧Q (.bl b) H
theorem Jb4:Em X (.builtin "isinstance") (Jib X.K):=by
 intro pins s σ H xs us Q I r h
 obtain⟨x,n,t,b,rfl,ty,e,q⟩:=h
 obtain⟨u1,u2,rfl,r1,r2⟩:∃u1 u2,us=[u1,u2]∧RelV x u1∧RelV (.ty n) u2:=by
  cases r with
  | cons r1 t1=>cases t1 with
    | cons r2 t2=>cases t2;exact⟨_,_,rfl,r1,r2⟩
 cases (show u2=Value.type n from r2)
 exact Y5 I r1 ty e fun tk=>⟨.bl b,H,I.tok tk,rfl,q⟩
theorem Jbo{K:W.Frag}{n:String}:W.kitOne K (.type n) (.type n)=some true:=by
 unfold W.kitOne
 rw[if_pos (by simp)]
end
def Ri(p d:Addr):HO:=.ext fun h=>h.IsItemsView p d
theorem Kz{prog:Program}{w:World}(d:Addr)(hd:(d==sysModules)=false) :
 MeetsIn prog w (Builtin.«dict.items» ⟨[.ref d],[]⟩) (fun _ R s=>s.TypeIs (.ref d) "dict"∧R (.ok (.ret (.ref s.heap.objs.size))) { s with heap:=s.heap.push { cls:=.type "dict_items",data:=.fields #[.ref d] } }) :=
 .of_wp fun A R s ⟨ht,h⟩=>by
  unfold Builtin.«dict.items»
  refine ZR ?_
  unfold Builtin.Dict.noArgs
  refine ZR (wpAny_notOrdered_dict ht ?_)
  show wpAny _ _ (pure d) _ _ s
  refine ZS ?_
  show wpAny _ _ (Builtin.Dict.showsAll d >>= _) _ _ s
  unfold Builtin.Dict.showsAll
  rw[if_neg (by rw[hd];exact Bool.false_ne_true)]
  refine ZR (ZS ?_)
  exact ZR (wpAny_newObj_type (ZS ⟨_,rfl,h⟩))
section
variable {X:Cx}
theorem Jbi:MtR X "dict.items" (fun x xs H Q=>∃d kvs,x=.ref d∧xs=[]∧H d=some (.dT kvs)∧∀p,H p=none→Q (.ref p) (upd H p (Ri p d))):=by
 intro pins s σ H x xs v us Q I rx rs h
 obtain⟨d,kvs,rfl,rfl,hd,q⟩:=h
 cases rx
 cases rs
 obtain⟨z,lo,ys,rel,o,es,ep,g1,g2,g3,g4,g5⟩:=(show ObjOk X.prog X.w H s.heap d (.dT kvs) from I.hok d _ hd)
 refine PySem.call_meetsIn PySem.F.slot_dict_items ⟨o,g1,g2.1⟩ PySem.F.entry_dict_items (PySem.F.args_dict_items_1 _) (Kz d lo) ⟨⟨o,g1,g2.1⟩,?_⟩
 have hn:H s.heap.objs.size=none:=I.hok.fresh (ZG _)
 refine⟨.ref s.heap.objs.size,_,I.laid (a:=s.heap.objs.size) (o:=Ri s.heap.objs.size d) (t':=s.toks) (fun b o e=>ZT _ e) (ZG _) ?_,rfl,q _ hn⟩
 have g:(s.heap.push { cls:=.type "dict_items",data:=.fields #[.ref d] }).get? s.heap.objs.size=some { cls:=.type "dict_items",data:=.fields #[.ref d] }:=ZU _ rfl
 exact⟨⟨_,g,rfl,rfl⟩,⟨_,g⟩,fun h1 h2 ⟨o,e,r⟩ k=>⟨o,k o e,r⟩⟩
end
abbrev T2:=Int×Int
def tk(t:T2):List Key:=[.inl t.1,.inl t.2]
def tv(t:T2):List V:=[.int t.1,.int t.2]
theorem Wn(t:T2):(tk t).map kV=tv t:=rfl
theorem Vb{a b:T2}(h:tk a=tk b):a=b:=by
 obtain⟨a1,a2⟩:=a
 obtain⟨b1,b2⟩:=b
 unfold tk at h
 simp only[List.cons.injEq,Sum.inl.injEq,and_true] at h
 rw[h.1,h.2]
structure HGh where
 num:Int
 made:Int
 ticks:Int
 h:Addr
 o:Addr
 l:Addr
 r:Addr
 hand:List T2
 outs:List (T2×Int)
 holds:List (T2×Addr×List T2)
 recs:List (T2×Int)
theorem G7{k:Str}{v:V}{r:List (Str×V)}:List.lookup k ((k,v)::r)=some v:=by
 rw[List.lookup_cons]
 have:(k==k)=true:=beq_self_eq_true k
 rw[this]
theorem By{k j:Str}{v:V}{r:List (Str×V)}(h:¬k=j):List.lookup k ((j,v)::r)=List.lookup k r:=by
 rw[List.lookup_cons]
 have:(k==j)=false:=beq_eq_false_iff_ne.mpr h
 rw[this]
theorem Di{f:Str}{v:V}:Al f v []=[(f,v)]:=rfl
theorem Jen{f:Str}{v x:V}{r:List (Str×V)}:Al f v ((f,x)::r)=(f,v)::r:=by
 show(if f=f then(f,v)::r else(f,x)::Al f v r)=_
 rw[if_pos rfl]
theorem Bu{f k:Str}{v x:V}{r:List (Str×V)}(h:¬k=f):Al f v ((k,x)::r)=(k,x)::Al f v r:=by
 show(if k=f then(k,v)::r else(k,x)::Al f v r)=_
 rw[if_neg h]
theorem Ex:¬(("number":Str)="made"):=by decide +kernel
theorem F3:¬(("number":Str)="ticks"):=by decide +kernel
theorem N2:¬(("number":Str)="hand"):=by decide +kernel
theorem N1:¬(("number":Str)="outs"):=by decide +kernel
theorem Mg:¬(("number":Str)="holds"):=by decide +kernel
theorem J7:¬(("number":Str)="records"):=by decide +kernel
theorem N3:¬(("made":Str)="number"):=by decide +kernel
theorem Iz:¬(("made":Str)="ticks"):=by decide +kernel
theorem T3:¬(("made":Str)="hand"):=by decide +kernel
theorem T1:¬(("made":Str)="outs"):=by decide +kernel
theorem Q6:¬(("made":Str)="holds"):=by decide +kernel
theorem Mh:¬(("made":Str)="records"):=by decide +kernel
theorem Mb:¬(("ticks":Str)="number"):=by decide +kernel
theorem Q1:¬(("ticks":Str)="made"):=by decide +kernel
theorem Q3:¬(("ticks":Str)="hand"):=by decide +kernel
theorem Q0:¬(("ticks":Str)="outs"):=by decide +kernel
theorem Nz:¬(("ticks":Str)="holds"):=by decide +kernel
theorem Kv:¬(("ticks":Str)="records"):=by decide +kernel
theorem N5:¬(("hand":Str)="number"):=by decide +kernel
theorem T5:¬(("hand":Str)="made"):=by decide +kernel
theorem Ra:¬(("hand":Str)="ticks"):=by decide +kernel
theorem T4:¬(("hand":Str)="outs"):=by decide +kernel
theorem Rb:¬(("hand":Str)="holds"):=by decide +kernel
theorem Mj:¬(("hand":Str)="records"):=by decide +kernel
theorem N0:¬(("outs":Str)="number"):=by decide +kernel
theorem Tw:¬(("outs":Str)="made"):=by decide +kernel
theorem Q4:¬(("outs":Str)="ticks"):=by decide +kernel
theorem Tz:¬(("outs":Str)="hand"):=by decide +kernel
theorem Q5:¬(("outs":Str)="holds"):=by decide +kernel
theorem Mf:¬(("outs":Str)="records"):=by decide +kernel
theorem Mi:¬(("holds":Str)="number"):=by decide +kernel
theorem Q8:¬(("holds":Str)="made"):=by decide +kernel
theorem N4:¬(("holds":Str)="ticks"):=by decide +kernel
theorem Q9:¬(("holds":Str)="hand"):=by decide +kernel
theorem Q7:¬(("holds":Str)="outs"):=by decide +kernel
theorem Ky:¬(("holds":Str)="records"):=by decide +kernel
theorem J6:¬(("records":Str)="number"):=by decide +kernel
theorem Md:¬(("records":Str)="made"):=by decide +kernel
theorem Kw:¬(("records":Str)="ticks"):=by decide +kernel
theorem Me:¬(("records":Str)="hand"):=by decide +kernel
theorem Mc:¬(("records":Str)="outs"):=by decide +kernel
theorem Kx:¬(("records":Str)="holds"):=by decide +kernel
def Bz(G:HGh):List (Str×V):=[("number",.int G.num),("made",.int G.made),("ticks",.int G.ticks),("hand",.ref G.h),("outs",.ref G.o),("holds",.ref G.l),("records",.ref G.r)]
theorem Oy(G:HGh):(Bz G).lookup ("number":Str)=some (.int G.num):=by
 unfold Bz
 rw[G7]
theorem Xv(G:HGh):(Bz G).lookup ("made":Str)=some (.int G.made):=by
 unfold Bz
 rw[By N3,G7]
theorem B7(G:HGh):(Bz G).lookup ("ticks":Str)=some (.int G.ticks):=by
 unfold Bz
 rw[By Mb,By Q1,G7]
theorem D9(G:HGh):(Bz G).lookup ("hand":Str)=some (.ref G.h):=by
 unfold Bz
 rw[By N5,By T5,By Ra,G7]
theorem C0(G:HGh):(Bz G).lookup ("outs":Str)=some (.ref G.o):=by
 unfold Bz
 rw[By N0,By Tw,By Q4,By Tz,G7]
theorem Dv(G:HGh):(Bz G).lookup ("holds":Str)=some (.ref G.l):=by
 unfold Bz
 rw[By Mi,By Q8,By N4,By Q9,By Q7,G7]
theorem Cj(G:HGh):(Bz G).lookup ("records":Str)=some (.ref G.r):=by
 unfold Bz
 rw[By J6,By Md,By Kw,By Me,By Mc,By Kx,G7]
theorem Uh(G:HGh)(y:Int):Al "made" (.int y) (Bz G)=Bz { G with made:=y }:=by
 unfold Bz
 rw[Bu Ex,Jen]
theorem Bg(G:HGh)(y:Int):Al "ticks" (.int y) (Bz G)=Bz { G with ticks:=y }:=by
 unfold Bz
 rw[Bu F3,Bu Iz,Jen]
theorem Jfw(G:HGh):Al "records" (.ref G.r) (Al "holds" (.ref G.l) (Al "outs" (.ref G.o) (Al "hand" (.ref G.h) (Al "ticks" (.int G.ticks) (Al "made" (.int G.made) (Al "number" (.int G.num) []))))))=Bz G:=by
 unfold Bz
 rw[Di]
 rw[Bu Ex,Di]
 rw[Bu F3,Bu Iz,Di]
 rw[Bu N2,Bu T3,Bu Q3,Di]
 rw[Bu N1,Bu T1,Bu Q0,Bu T4,Di]
 rw[Bu Mg,Bu Q6,Bu Nz,Bu Rb,Bu Q5,Di]
 rw[Bu J7,Bu Mh,Bu Kv,Bu Mj,Bu Mf,Bu Ky,Di]
theorem Bk(G:HGh){m:Str}(h:(["number","made","ticks","hand","outs","holds","records"]:List Str).contains m=false):(Bz G).lookup m=none:=by
 simp only[List.contains_cons,Bool.or_eq_false_iff,beq_eq_false_iff_ne] at h
 obtain⟨h1,h2,h3,h4,h5,h6,h7,_⟩:=h
 unfold Bz
 rw[By h1,By h2,By h3,By h4,By h5,By h6,By h7]
 rfl
theorem Da(G:HGh):(Bz G).length<1000:=by show 7<1000;decide
def Bh(l:List T2):HO:=.dT (l.map fun t=>(tk t,V.bl true))
def Ct(l:List (T2×Int)):HO:=.dT (l.map fun q=>(tk q.1,V.int q.2))
def Ji(l:List (T2×Addr×List T2)):HO:=.dT (l.map fun q=>(tk q.1,V.ref q.2.1))
theorem Dp{α:Type}(l:List α)(k:α→T2)(f:α→V)(t:T2):Cw (l.map fun q=>(tk (k q),f q)) (tk t)=(l.find? fun q=>decide (k q=t)).map f:=by
 unfold Cw
 rw[List.find?_map,Option.map_map]
 congr 1
 congr 1
 funext q
 show decide (tk (k q)=tk t)=decide (k q=t)
 by_cases e:k q=t
 ·rw[e];simp
 ·rw[decide_eq_false e,decide_eq_false fun z=>e (Vb z)]
theorem Pl{α:Type}{l:List α}{k:α→T2}{f:α→V}{t:T2}(h:∀q∈l,k q≠t):Cw (l.map fun q=>(tk (k q),f q)) (tk t)=none:=by
 rw[Dp,List.find?_eq_none.mpr fun q hq=>by simpa using h q hq]
 rfl
theorem Ip{α:Type}{l:List α}{k:α→T2}{f:α→V}{t:T2}(v:V)(h:∀q∈l,k q≠t):putK (l.map fun q=>(tk (k q),f q)) (tk t) v=(l.map fun q=>(tk (k q),f q))++[(tk t,v)]:=Ef v (Pl h)
def foot(G:HGh):List Addr:=G.h::G.o::G.l::G.r::G.holds.map (·.2.1)
structure HouseAt(C:Addr)(H:Hp)(p:Addr)(G:HGh):Prop where
 ob:∃dx,H p=some (.ins C dx (Bz G))
 dh:H G.h=some (Bh G.hand)
 dO:H G.o=some (Ct G.outs)
 dl:H G.l=some (Ji G.holds)
 dr:H G.r=some (Ct G.recs)
 hl:∀q∈G.holds,H q.2.1=some (Bh q.2.2)
 nd:(foot G).Nodup
def HFr(p:Addr)(G:HGh)(H H':Hp):Prop:=∀b o,H b=some o→b≠p→b∉foot G→H' b=some o
section
variable {C p:Addr}{H H':Hp}{G:HGh}
theorem HouseAt.keep(x:HouseAt C H p G)(k:∀b o,(b=p∨b∈foot G)→H b=some o→H' b=some o):HouseAt C H' p G:=by
 have m0:G.h∈foot G:=by simp[foot]
 have m1:G.o∈foot G:=by simp[foot]
 have m2:G.l∈foot G:=by simp[foot]
 have m3:G.r∈foot G:=by simp[foot]
 refine⟨let⟨dx,e⟩:=x.ob;⟨dx,k _ _ (.inl rfl) e⟩,k _ _ (.inr m0) x.dh,k _ _ (.inr m1) x.dO,k _ _ (.inr m2) x.dl,k _ _ (.inr m3) x.dr,fun q hq=>k _ _ (.inr ?_) (x.hl q hq),x.nd⟩
 unfold foot
 exact ZD _ (ZD _ (ZD _ (ZD _ (List.mem_map_of_mem hq))))
theorem HouseAt.same(x:HouseAt C H p G)(s:Bp H H'):HouseAt C H' p G:=x.keep fun b o _ e=>s b o e
theorem HouseAt.foot_dT(x:HouseAt C H p G){b:Addr}(hb:b∈foot G):∃kvs,H b=some (.dT kvs):=by
 unfold foot at hb
 rcases ZM hb with rfl|hb
 ·exact⟨_,x.dh⟩
 rcases ZM hb with rfl|hb
 ·exact⟨_,x.dO⟩
 rcases ZM hb with rfl|hb
 ·exact⟨_,x.dl⟩
 rcases ZM hb with rfl|hb
 ·exact⟨_,x.dr⟩
 obtain⟨q,hq,e⟩:=ZN hb
 rw[←e]
 exact⟨_,x.hl q hq⟩
theorem HouseAt.p_ne(x:HouseAt C H p G){b:Addr}(hb:b∈foot G):b≠p:=by
 obtain⟨kvs,e⟩:=x.foot_dT hb
 obtain⟨dx,e'⟩:=x.ob
 exact L9 e e' (by intro z;cases z)
theorem HouseAt.tup_ne(x:HouseAt C H p G){b:Addr}{xs:List V}(hb:H b=some (.tup xs)):b≠p∧b∉foot G:=by
 obtain⟨dx,e'⟩:=x.ob
 refine⟨L9 hb e' (by intro z;cases z),fun m=>?_⟩
 obtain⟨kvs,e⟩:=x.foot_dT m
 rw[hb] at e;cases e
theorem HouseAt.lst_ne(x:HouseAt C H p G){b:Addr}{xs:List V}(hb:H b=some (.lst xs)):b≠p∧b∉foot G:=by
 obtain⟨dx,e'⟩:=x.ob
 refine⟨L9 hb e' (by intro z;cases z),fun m=>?_⟩
 obtain⟨kvs,e⟩:=x.foot_dT m
 rw[hb] at e;cases e
theorem HouseAt.nds(x:HouseAt C H p G):(G.h≠G.o∧G.h≠G.l∧G.h≠G.r)∧(G.o≠G.l∧G.o≠G.r)∧G.l≠G.r∧∀q∈G.holds,q.2.1≠G.h∧q.2.1≠G.o∧q.2.1≠G.l∧q.2.1≠G.r:=by
 have nd:=x.nd
 unfold foot at nd
 simp only[List.nodup_cons,List.mem_cons,not_or] at nd
 obtain⟨⟨a1,a2,a3,a4⟩,⟨b1,b2,b3⟩,⟨c1,c2⟩,d1,_⟩:=nd
 refine⟨⟨a1,a2,a3⟩,⟨b1,b2⟩,c1,fun q hq=>?_⟩
 have m:q.2.1∈G.holds.map (·.2.1):=List.mem_map_of_mem hq
 exact⟨fun z=>a4 (z▸m),fun z=>b3 (z▸m),fun z=>c2 (z▸m),fun z=>d1 (z▸m)⟩
theorem HouseAt.fld(x:HouseAt C H p G)(dx:Addr)(m t:Int):HouseAt C (upd H p (.ins C dx (Bz { G with made:=m,ticks:=t }))) p { G with made:=m,ticks:=t }:=by
 have n:∀{b},b∈foot G→b≠p:=fun hb=>x.p_ne hb
 have m0:G.h∈foot G:=by simp[foot]
 have m1:G.o∈foot G:=by simp[foot]
 have m2:G.l∈foot G:=by simp[foot]
 have m3:G.r∈foot G:=by simp[foot]
 refine⟨⟨dx,Ab⟩,by rw[Ad (n m0)];exact x.dh,by rw[Ad (n m1)];exact x.dO,by rw[Ad (n m2)];exact x.dl,by rw[Ad (n m3)];exact x.dr,fun q hq=>?_,x.nd⟩
 rw[Ad (n (by unfold foot;exact ZD _ (ZD _ (ZD _ (ZD _ (List.mem_map_of_mem hq))))))]
 exact x.hl q hq
theorem HouseAt.setOuts(x:HouseAt C H p G)(l:List (T2×Int)):HouseAt C (upd H G.o (Ct l)) p { G with outs:=l }:=by
 obtain⟨⟨a1,a2,a3⟩,⟨b1,b2⟩,c1,d1⟩:=x.nds
 have np:=x.p_ne (b:=G.o) (by simp[foot])
 obtain⟨dx,e⟩:=x.ob
 exact⟨⟨dx,by rw[Ad np.symm];exact e⟩,by rw[Ad a1];exact x.dh,Ab,by rw[Ad b1.symm];exact x.dl,by rw[Ad b2.symm];exact x.dr,fun q hq=>by rw[Ad (d1 q hq).2.1];exact x.hl q hq,x.nd⟩
theorem HouseAt.setHand(x:HouseAt C H p G)(l:List T2):HouseAt C (upd H G.h (Bh l)) p { G with hand:=l }:=by
 obtain⟨⟨a1,a2,a3⟩,⟨b1,b2⟩,c1,d1⟩:=x.nds
 have np:=x.p_ne (b:=G.h) (by simp[foot])
 obtain⟨dx,e⟩:=x.ob
 exact⟨⟨dx,by rw[Ad np.symm];exact e⟩,Ab,by rw[Ad a1.symm];exact x.dO,by rw[Ad a2.symm];exact x.dl,by rw[Ad a3.symm];exact x.dr,fun q hq=>by rw[Ad (d1 q hq).1];exact x.hl q hq,x.nd⟩
theorem HouseAt.setRecs(x:HouseAt C H p G)(l:List (T2×Int)):HouseAt C (upd H G.r (Ct l)) p { G with recs:=l }:=by
 obtain⟨⟨a1,a2,a3⟩,⟨b1,b2⟩,c1,d1⟩:=x.nds
 have np:=x.p_ne (b:=G.r) (by simp[foot])
 obtain⟨dx,e⟩:=x.ob
 exact⟨⟨dx,by rw[Ad np.symm];exact e⟩,by rw[Ad a3];exact x.dh,by rw[Ad b2];exact x.dO,by rw[Ad c1];exact x.dl,Ab,fun q hq=>by rw[Ad (d1 q hq).2.2.2];exact x.hl q hq,x.nd⟩
theorem HouseAt.addHold(x:HouseAt C H p G)(t:T2){a:Addr}(ha:H a=some (Bh []))(hf:a∉foot G):HouseAt C (upd H G.l (Ji (G.holds++[(t,a,[])]))) p { G with holds:=G.holds++[(t,a,[])] }:=by
 obtain⟨⟨a1,a2,a3⟩,⟨b1,b2⟩,c1,d1⟩:=x.nds
 have np:=x.p_ne (b:=G.l) (by simp[foot])
 obtain⟨dx,e⟩:=x.ob
 refine⟨⟨dx,by rw[Ad np.symm];exact e⟩,by rw[Ad a2];exact x.dh,by rw[Ad b1];exact x.dO,Ab,by rw[Ad c1.symm];exact x.dr,fun q hq=>?_,?_⟩
 ·rcases ZI hq with hq|hq
  ·rw[Ad (d1 q hq).2.2.1];exact x.hl q hq
  ·have e2:q=(t,a,[]):=by simpa using hq
   subst e2
   have:a≠G.l:=fun z=>hf (by rw[z];simp[foot])
   rw[Ad this];exact ha
 ·have e2:foot { G with holds:=G.holds++[(t,a,[])] }=foot G++[a]:=by simp[foot]
  rw[e2]
  exact Er x.nd hf
end
def thD(t:T2):PyData:=.tuple [.int t.1,.int t.2]
def Yk(q:T2×Int×List T2):PyData:=.tuple [thD q.1,.int q.2.1,.tuple (q.2.2.map thD)]
def Jac(q:T2×Int):PyData:=.tuple [thD q.1,.int q.2]
def stD(hs:List T2)(os:List (T2×Int×List T2))(rs:List (T2×Int)):PyData:=.tuple [.tuple (hs.map thD),.tuple (os.map Yk),.tuple (rs.map Jac)]
theorem D3(t:T2):(thD t).canLay0=true∧(thD t).depth≤2:=by
 unfold thD
 constructor
 ·simp[PyData.canLay0,PyData.canLayAll0]
 ·simp[PyData.depth,PyData.depthAll]
theorem Jba{α:Type}{f:α→PyData}{n:Nat}(h:∀x,(f x).canLay0=true∧(f x).depth≤n):∀l:List α,PyData.canLayAll0 (l.map f)=true∧PyData.depthAll (l.map f)≤n
 | []=>⟨by simp[PyData.canLayAll0],by simp[PyData.depthAll]⟩
 | x::l=>by
   obtain⟨a,b⟩:=Jba h l
   obtain⟨c,d⟩:=h x
   exact⟨by simp[PyData.canLayAll0,a,c],by simp only[List.map_cons,PyData.depthAll];lia⟩
theorem Pn{α:Type}{f:α→PyData}{n:Nat}(h:∀x,(f x).canLay0=true∧(f x).depth≤n)(l:List α):(PyData.tuple (l.map f)).canLay0=true∧(PyData.tuple (l.map f)).depth≤n+1:=by
 obtain⟨a,b⟩:=Jba h l
 exact⟨by simp only[PyData.canLay0];exact a,by simp only[PyData.depth];lia⟩
theorem Jcv(q:T2×Int×List T2):(Yk q).canLay0=true∧(Yk q).depth≤5:=by
 obtain⟨a,b⟩:=D3 q.1
 obtain⟨c,d⟩:=Pn D3 q.2.2
 unfold Yk
 exact⟨by simp[PyData.canLay0,PyData.canLayAll0,a,c] at *;simp[a,c],by simp only[PyData.depth,PyData.depthAll] at *;lia⟩
theorem Jcx(q:T2×Int):(Jac q).canLay0=true∧(Jac q).depth≤5:=by
 obtain⟨a,b⟩:=D3 q.1
 unfold Jac
 exact⟨by simp[PyData.canLay0,PyData.canLayAll0,a],by simp only[PyData.depth,PyData.depthAll] at *;lia⟩
theorem Z1(hs:List T2)(os:List (T2×Int×List T2))(rs:List (T2×Int)):(stD hs os rs).canLay0=true∧(stD hs os rs).depth≤20:=by
 obtain⟨a,b⟩:=Pn D3 hs
 obtain⟨c,d⟩:=Pn Jcv os
 obtain⟨e,f⟩:=Pn Jcx rs
 unfold stD
 refine⟨?_,?_⟩
 ·rw[PyData.canLay0,PyData.canLayAll0,PyData.canLayAll0,PyData.canLayAll0,PyData.canLayAll0,a,c,e];rfl
 ·rw[PyData.depth,PyData.depthAll,PyData.depthAll,PyData.depthAll,PyData.depthAll];lia
theorem Pt(hs:List T2)(os:List (T2×Int×List T2))(rs:List (T2×Int)):Okd (stD hs os rs):=⟨(Z1 hs os rs).1,Nat.le_trans (Z1 hs os rs).2 (by decide)⟩
theorem Pp(t:T2):Okd (thD t):=⟨(D3 t).1,Nat.le_trans (D3 t).2 (by decide)⟩
def ThsAt(H:Hp):List Addr→List T2→Prop:=Paired fun a t=>H a=some (.tup (tv t))
theorem Fv{K:W.Frag}{H:Hp}{a:Addr}{t:T2}(e:H a=some (.tup (tv t))):RepT K H (.ref a) (thD t):=.tupP (SqT.of e) (.cons (.int _) (.cons (.int _) .nil))
theorem Hx{K:W.Frag}{H:Hp}:∀{as:List Addr} {ts:List T2},ThsAt H as ts→Paired (RepT K H) (as.map V.ref) (ts.map thD)
 | _,_,.nil=>.nil
 | _,_,.cons e t=>.cons (Fv e) (Hx t)
def lt2(a b:T2):Prop:=HT.lexLt [a.1,a.2] [b.1,b.2]=true
theorem Gm(a b:T2):lt2 a b↔(a.1<b.1∨(a.1=b.1∧a.2<b.2)):=by
 unfold lt2
 rw[HT.lexLt_cons,HT.lexLt_cons]
 by_cases h1:a.1=b.1
 ·rw[if_pos h1]
  by_cases h2:a.2=b.2
  ·rw[if_pos h2,HT.lexLt_nil_nil]
   constructor
   ·intro z;cases z
   ·intro z;lia
  ·rw[if_neg h2]
   constructor
   ·intro z;exact .inr ⟨h1,of_decide_eq_true z⟩
   ·intro z;exact decide_eq_true (by lia)
 ·rw[if_neg h1]
  constructor
  ·intro z;exact .inl (of_decide_eq_true z)
  ·intro z;exact decide_eq_true (by lia)
section
variable {X:Cx}
theorem Cr(hc:X.calm=true):Em X (.builtin "sorted") (fun xs H Q=>∃d,∃l:List (T2×V),∃ss:List T2,xs=[.ref d]∧Rd H d (.dT (l.map fun q=>(tk q.1,q.2)))∧l.length<64∧ss.Perm (l.map (·.1))∧ss.Pairwise lt2 ∧
 ∀(r:Addr)(as:List Addr),H r=none→ThsAt H as ss→Q (.ref r) (upd H r (.lst (as.map V.ref)))):=by
 intro pins s σ H xs us Q I rv h
 obtain⟨d,l,ss,rfl,hd,h64,pm,pw,q⟩:=h
 refine Kf hc pins s σ H _ us Q I rv ⟨d,l.map fun q=>([q.1.1,q.1.2],q.2),rfl,?_,by rw[ZA];exact h64,?_,?_,fun r M hr mp mw ma=>?_⟩
 ·have e:((l.map fun q=>(([q.1.1,q.1.2]:List Int),q.2)).map fun p=>((p.1.map Sum.inl:List Key),p.2))=l.map fun q=>(tk q.1,q.2):=by
   rw[List.map_map];rfl
  rw[e];exact hd
 ·have nd:ss.Nodup:=pw.imp fun{a b} h z=>by
   rw[Gm,z] at h;lia
  have nd2:(l.map (·.1)).Nodup:=pm.nodup_iff.mp nd
  have e:(l.map fun q=>(([q.1.1,q.1.2]:List Int),q.2)).map (·.1)=(l.map (·.1)).map fun t=>[t.1,t.2]:=by
   rw[List.map_map,List.map_map];rfl
  rw[e]
  exact List.Pairwise.map _ (fun a b h z=>h (by obtain⟨a1,a2⟩:=a;obtain⟨b1,b2⟩:=b;simp at z;rw[z.1,z.2])) nd2
 ·intro p hp
  obtain⟨q,_,e⟩:=ZN hp
  rw[←e];simp
 ·have e:(l.map fun q=>(([q.1.1,q.1.2]:List Int),q.2)).map (·.1)=(l.map (·.1)).map fun t=>[t.1,t.2]:=by
   rw[List.map_map,List.map_map];rfl
  rw[e] at mp
  have e2:M.map (·.1)=ss.map fun t=>[t.1,t.2]:=by
   refine Hm (lt:=fun a b=>HT.lexLt a b=true) (fun a z=>by rw[Lg] at z;cases z) (fun a b h1 h2=>by have:=Re h1 h2;rw[Lg] at this;cases this) (mp.trans (pm.symm.map _)) ?_ ?_
   ·rw[List.pairwise_map];exact mw
   ·rw[List.pairwise_map];exact pw
  have hl:M.length=ss.length:=by have:=congrArg List.length e2;simpa using this
  have e3:(M.map fun p=>V.ref p.2)=(M.map (·.2)).map V.ref:=by rw[List.map_map];rfl
  rw[e3]
  refine q r _ hr (Dl (by rw[ZA];exact hl) fun j a t e4 e5=>?_)
  rw[ZH] at e4
  cases hm:M[j]? with
  | none=>rw[hm] at e4;cases e4
  | some m =>
    rw[hm] at e4
    cases e4
    have e6:(M.map (·.1))[j]?=some m.1:=by rw[ZH,hm];rfl
    rw[e2,ZH,e5] at e6
    have e7:[t.1,t.2]=m.1:=ZO e6
    have:=ma m (ZP hm)
    rw[←e7] at this
    exact this
end
theorem Xx{H:Hp}{d:Addr}{l:List T2}(h:H d=some (Bh l)):Rd H d (.dT ((l.map fun t=>(t,V.bl true)).map fun q=>(tk q.1,q.2))):=by
 have e:((l.map fun t=>(t,V.bl true)).map fun q=>(tk q.1,q.2))=l.map fun t=>(tk t,V.bl true):=by rw[List.map_map];rfl
 rw[e];exact .inl h
theorem Jbq{H:Hp}{d:Addr}{l:List (T2×Int)}(h:H d=some (Ct l)):Rd H d (.dT ((l.map fun q=>(q.1,V.int q.2)).map fun q=>(tk q.1,q.2))):=by
 have e:((l.map fun q=>(q.1,V.int q.2)).map fun q=>(tk q.1,q.2))=l.map fun q=>(tk q.1,V.int q.2):=by rw[List.map_map];rfl
 rw[e];exact .inl h
theorem Fb{K:W.Frag}{a p:Addr}{xs:List V}{tt:TT}{te:TE}{caps:List (Str×Nat)}{σ:L2.St}{H:Hp}{Q:Hp→Prop}(Pv:Nat→List V→Hp→Prop)(h0:Pv 0 [] (upd H p (.lst [])))(hl:∀i ys H2,i≤xs.length→Pv i ys H2→SqL K H2 a xs∧H2 p=some (.lst ys))(hs:∀i x ys H2 (N:List V→Hp→Prop),xs[i]?=some x→Pv i ys H2→(∀ys H,Pv (i+1) ys H→N ys H)→tt (some x::Ck σ caps) H2 fun b H4 =>
  if b=true then te (some x::Ck σ caps) H4 fun v H5=>H5 p=some (.lst ys)∧ys.length<sizeLine∧N (ys++[v]) (upd H5 p (.lst (ys++[v]))) else N ys H4)(hd:∀ys H2,Pv xs.length ys H2→Q H2) :
 ∃W:Nat→Nat→List V→Hp→Prop,(∃m,W 0 m [] (upd H p (.lst [])))∧∀i m ys H2,W i m ys H2→H2 p=some (.lst ys) ∧
  (((Itl K a).stop i H2∧Q H2)∨((Itl K a).go i H2∧∀x H3,(Itl K a).yld i H2 x H3→tt (some x::Ck σ caps) H3 fun b H4 =>
    if b=true then te (some x::Ck σ caps) H4 fun v H5=>H5 p=some (.lst ys)∧ys.length<sizeLine∧∃m',m'<m∧W (i+1) m' (ys++[v]) (upd H5 p (.lst (ys++[v])))
    else ∃m',m'<m∧W (i+1) m' ys H4)):=by
 refine⟨fun i m ys H=>m=xs.length-i∧i≤xs.length∧Pv i ys H,⟨xs.length,by simp,Nat.zero_le _,h0⟩,?_⟩
 rintro i m ys H2 ⟨rfl,hi,pv⟩
 obtain⟨q1,q2⟩:=hl i ys H2 hi pv
 refine⟨q2,?_⟩
 by_cases hlt:i<xs.length
 ·refine .inr ⟨⟨xs,xs[i],q1,by simp[hlt]⟩,fun x H3 y=>?_⟩
  obtain⟨e,y⟩:=y
  subst e
  exact hs i x ys _ (fun zs H'=>∃m',m'<xs.length-i∧(m'=xs.length-(i+1)∧i+1≤xs.length∧Pv (i+1) zs H')) (y xs q1) pv fun zs H' pz=>⟨_,by lia,rfl,hlt,pz⟩
 ·have e:i=xs.length:=by lia
  subst e
  exact .inl ⟨⟨xs,q1,ZG _⟩,hd ys H2 pv⟩
theorem Nm{lo:Int}{n:Nat}{p:Addr}{tt:TT}{te:TE}{caps:List (Str×Nat)}{σ:L2.St}{H:Hp}{Q:Hp→Prop}(Pv:Nat→List V→Hp→Prop)(h0:Pv 0 [] (upd H p (.lst [])))(hl:∀i ys H2,i≤n→Pv i ys H2→H2 p=some (.lst ys))(hs:∀i ys H2 (N:List V→Hp→Prop),i<n→Pv i ys H2→(∀ys H,Pv (i+1) ys H→N ys H)→tt (some (.int (lo+i))::Ck σ caps) H2 fun b H4 =>
  if b=true then te (some (.int (lo+i))::Ck σ caps) H4 fun v H5=>H5 p=some (.lst ys)∧ys.length<sizeLine∧N (ys++[v]) (upd H5 p (.lst (ys++[v]))) else N ys H4)(hd:∀ys H2,Pv n ys H2→Q H2) :
 ∃W:Nat→Nat→List V→Hp→Prop,(∃m,W 0 m [] (upd H p (.lst [])))∧∀i m ys H2,W i m ys H2→H2 p=some (.lst ys) ∧
  (((Itr lo n).stop i H2∧Q H2)∨((Itr lo n).go i H2∧∀x H3,(Itr lo n).yld i H2 x H3→tt (some x::Ck σ caps) H3 fun b H4 =>
    if b=true then te (some x::Ck σ caps) H4 fun v H5=>H5 p=some (.lst ys)∧ys.length<sizeLine∧∃m',m'<m∧W (i+1) m' (ys++[v]) (upd H5 p (.lst (ys++[v])))
    else ∃m',m'<m∧W (i+1) m' ys H4)):=by
 refine⟨fun i m ys H=>m=n-i∧i≤n∧Pv i ys H,⟨n,by simp,Nat.zero_le _,h0⟩,?_⟩
 rintro i m ys H2 ⟨rfl,hi,pv⟩
 refine⟨hl i ys H2 hi pv,?_⟩
 by_cases hlt:i<n
 ·refine .inr ⟨hlt,fun x H3 y=>?_⟩
  obtain⟨e,y⟩:=y
  subst e y
  exact hs i ys _ (fun zs H'=>∃m',m'<n-i∧(m'=n-(i+1)∧i+1≤n∧Pv (i+1) zs H')) hlt pv fun zs H' pz=>⟨_,by lia,rfl,hlt,pz⟩
 ·have e:i=n:=by lia
  subst e
  exact .inl ⟨ZG _,hd ys H2 pv⟩
section
variable {X:Cx}{sc:Scope}{cl:List (Str×Addr)}{pins:List (Addr×Obj)}{σ:L2.St}{H1:Hp}{s1:Shared}{fp:List Addr}{N:List Str}
theorem Jeb{x y0:Str}{caps:List (Str×Nat)}{h':Heap}{m:Str→Option Value}{t':Nat}{o:Obj}(I:Inv X pins σ H1 s1)(ok:(blk X sc cl s1.heap.objs.size (x::y0::Cy caps) s1 H1 fp pins).Ok)(hin:InCells X.env.cells cl)(hcap:CapsOk X sc cl caps)(hx:(relabel sc X.env).names.lookup x=some .local)(hn:h'.Ns s1.heap.objs.size m)(hs:Heap.SameBut s1.heap.objs.size (s1.heap.push o) h') :
 Inv (blk X sc cl s1.heap.objs.size (x::y0::Cy caps) s1 H1 fp pins) [] (none::none::Ck σ caps) H1 { s1 with heap:=h',toks:=t' }:=by
 have kp:∀b u,s1.heap.get? b=some u→h'.get? b=some u:=fun b u e=>(hs.2 b (Nat.ne_of_lt (Heap.lt_size e))).trans (ZT _ e)
 have hfree:H1 s1.heap.objs.size=none:=I.hok.fresh (ZG _)
 refine⟨ok,rfl,I.bare,Un.kept kp,⟨m,hn,fun i y v e1 e2 e3=>?_⟩,fun y c e=>?_,hfree,fun y c e=>I.freeC y c (hin.look e),fun p hp=>?_,I.hok.kept kp,?_⟩
 ·match i,e1,e2 with
  | 0,e1,e2=>simp at e2
  | 1,e1,e2=>simp at e2
  | j+2,e1,e2 =>
    have e1':(x::y0::Cy caps)[j+2]?=some y:=e1
    rw[List.getElem?_cons_succ,List.getElem?_cons_succ] at e1'
    have e2':(Ck σ caps)[j]?=some (some v):=by simpa using e2
    rw[ZH] at e1'
    unfold Ck at e2'
    rw[ZH] at e2'
    cases q:caps[j]? with
    | none=>rw[q] at e1';cases e1'
    | some p =>
      rw[q] at e1' e2'
      have e4:p.1=y:=ZO e1'
      have e5:(σ[p.2]?).join=some v:=ZO e2'
      have hc:=hcap.at q
      have e6:σ[p.2]?=some (some v):=by
       cases z:σ[p.2]? with
       | none=>rw[z] at e5;cases e5
       | some w' =>
         rw[z] at e5
         have:w'=some v:=e5
         rw[this]
      obtain⟨mm,hnn,hl⟩:=I.loc
      obtain⟨u,r,lk⟩:=hl p.2 p.1 v hc.n e6 (.inr (.inl hc.k))
      refine⟨u,r,.inr ⟨.inl (by rw[←e4];exact hc.f),?_⟩⟩
      rcases lk with⟨k1,_⟩|⟨_,c,hcl,ce⟩
      ·have:X.env.scope.names.lookup p.1=some .local:=k1
       rw[hc.k] at this;cases this
      ·obtain⟨oc,hoc,hd⟩:=ce
       exact⟨c,by rw[←e4];exact hc.l.trans hcl,oc,kp _ _ hoc,hd⟩
 ·obtain⟨v,oc,hoc,hd⟩:=I.cell y c (hin.look e)
  exact⟨v,oc,kp _ _ hoc,hd⟩
 ·have hp':p∈(X.pn++pins)++[]:=hp
  rw[List.append_nil] at hp'
  obtain⟨a1,a2,a3,a4,a5⟩:=I.pin p hp'
  refine⟨kp _ _ a1,a2,Nat.ne_of_lt (Heap.lt_size a1),fun z=>?_,a5⟩
  rcases ZM (I.stkSub _ z) with q|q
  ·exact a3 q
  ·exact a4 q
 ·simp[Ck,blk]
end
def Zx(K:W.Frag)(wi:TI)(caps:List (Str×Nat))(tt:TT)(te:TE):TE:=fun σ H Q=>wi σ H fun J H1=>∀p,H1 p=none→∃W:Nat→Nat→List V→Hp→Prop,(∃m,W 0 m [] (upd H1 p (.lst [])))∧∀i m ys H2,W i m ys H2→H2 p=some (.lst ys) ∧
 ((J.stop i H2∧Q (.ref p) H2)∨(J.go i H2∧∀x H3,J.yld i H2 x H3→∃a u v,x=.ref a∧SqT K H3 a [u,v]∧tt (some u::some v::Ck σ caps) H3 fun b H4 =>
   if b=true then te (some u::some v::Ck σ caps) H4 fun v H5=>H5 p=some (.lst ys)∧ys.length<sizeLine∧∃m',m'<m∧W (i+1) m' (ys++[v]) (upd H5 p (.lst (ys++[v])))
   else ∃m',m'<m∧W (i+1) m' ys H4))
section
variable {X:Cx}{elt iter:Expr}{x y0:Str}{px py0 pt pos:Pos}{kt:Nat}{ifs:List Expr}{sc:Scope}{cl:List (Str×Addr)}{caps:List (Str×Nat)}{wi:TI}{tt:TT}{te:TE}
theorem Wc{pins:List (Addr×Obj)}{σ:L2.St}{H:Hp}{s:Shared}{Q:VK}{use:Option (Value→Sem Unit)}{RQ:Value→Shared→Prop}(hc:X.calm=true)(hi:PI X (.Tuple [.Name x px,.Name y0 py0] kt pt) iter wi)(hclos:closureFor sc X.env=pure cl)(hcell:∀y∈sc.names,y.2≠.cell)(hkind:sc.kind=.function)(hnames:∀y∈sc.names,y.2=.local→sc.names.lookup y.1=some .local)(hx:sc.names.lookup x=some .local)(hy0:sc.names.lookup y0=some .local)(hin:InCells X.env.cells cl)(has:∀y,((relabel sc X.env).names.lookup y=some .cell∨(relabel sc X.env).names.lookup y=some .free)→∃c,cl.lookup y=some c)(hcap:CapsOk X sc cl caps)(hN:(x::y0::Cy caps).Nodup)(ht:∀C s1 H1 fp pins,PTs (blk X sc cl C (x::y0::Cy caps) s1 H1 fp pins) ifs tt)(he:∀C s1 H1 fp pins,PE (blk X sc cl C (x::y0::Cy caps) s1 H1 fp pins) elt te)(I:Inv X pins σ H s)(h:Zx X.K wi caps tt te σ H Q)(fin:∀(C D:Addr) (H':Hp) (s1 s':Shared) (H1:Hp),C=s1.heap.objs.size→Inv X pins σ H1 s1→Inv X pins σ H' s'→H' C=none→(∃m,s'.heap.Ns C m)→Q (.ref D) H'→compPost (model X.prog X.w) X.A X.xe use RQ (.ref D) C (.ok .next) s')(hs:∀v,foldedSetIterable iter X.env v=pure v) :
 wpAny (model X.prog X.w) X.A (comprehension (.ListComp elt [⟨.Tuple [.Name x px,.Name y0 py0] kt pt,iter,ifs,0⟩] sc pos) sc X.env (firstIterPos [⟨.Tuple [.Name x px,.Name y0 py0] kt pt,iter,ifs,0⟩] pos) (newList []) false (eval iter X.env) use) RQ X.xe s:=by
 refine wpAny_comprehension_free rfl hs hclos hkind hnames (thn (hi pins s σ H _ I h) fun v s1 h1=>thn h1 fun itv s2 h2=>?_)
 obtain⟨it,fp,tn,J,H2,e,I2,T,st2,f2,hW⟩:=h2
 subst e
 refine wpAny_newObj_type ?_
 have hfresh:H2 s2.heap.objs.size=none:=I2.hok.fresh (ZG _)
 have I3:Inv X pins σ (upd H2 s2.heap.objs.size (.lst [])) { s2 with heap:=s2.heap.push { cls:=.type "list",dict:=none,data:=.seq ([]:List Value).toArray } }:=I2.lnew (t':=s2.toks) (its:=[]) .nil (Nat.zero_le _)
 obtain⟨W,⟨m0,w0⟩,turn⟩:=hW s2.heap.objs.size hfresh
 have fpn:∀b∈fp,b≠s2.heap.objs.size:=fun b hb z=>by
  obtain⟨o,e,_⟩:=T.obj 0 _ st2 b hb
  exact absurd (Heap.lt_size e) (by rw[z];exact Nat.lt_irrefl _)
 have f3:∀b∈fp,K3 X pins (upd H2 s2.heap.objs.size (.lst [])) b:=fun b hb=>⟨by rw[Ad (fpn b hb)];exact(f2 b hb).1,(f2 b hb).2⟩
 have st3:tn 0 (s2.heap.push { cls:=.type "list",dict:=none,data:=.seq ([]:List Value).toArray }):=T.keep 0 _ _ st2 fun b hb o e=>ZT _ e
 obtain⟨D,hD⟩:∃D,D=s2.heap.objs.size:=⟨_,rfl⟩
 obtain⟨H3,hH3⟩:∃H3,H3=upd H2 s2.heap.objs.size (.lst []):=⟨_,rfl⟩
 obtain⟨s3,hs3⟩:∃s3:Shared,s3={ s2 with heap:=s2.heap.push { cls:=.type "list",dict:=none,data:=.seq ([]:List Value).toArray } }:=⟨_,rfl⟩
 have st3':tn 0 s3.heap:=by rw[hs3];exact st3
 rw[←hH3] at I3 f3 w0
 rw[←hs3] at I3
 rw[←hD] at turn
 show wpAny _ _ _ _ _ ({ s2 with heap:=s2.heap.push { cls:=.type "list",dict:=none,data:=.seq ([]:List Value).toArray } }:Shared)
 rw[←hs3,←hD]
 refine wpAny_newFunctionEnv hcell (by intro y hy;simp at hy) (fun h1 hn1 hs1=>?_) hkind
 have ok:=Jb5 (N:=x::y0::Cy caps) I3 f3 (fun b hb=>let⟨o,e,_⟩:=T.obj 0 _ st3' b hb;⟨o,e⟩) hkind hin has
 have hx':(relabel sc X.env).names.lookup x=some .local:=lookup_relabel_local hx
 have hy':(relabel sc X.env).names.lookup y0=some .local:=lookup_relabel_local hy0
 have J4:=Jeb (y0:=y0) (t':=s3.toks+([]:List (Str×Value)).length) I3 ok hin hcap hx' hn1 hs1
 have st4:tn 0 h1:=T.keep 0 _ _ st3' fun b hb o e=>(hs1.2 b (Nat.ne_of_lt (Heap.lt_size e))).trans (ZT _ e)
 have stat:∀{H':Hp},(∀b∈fp,H' b=none)→∀b∈fp,K3 (blk X sc cl s3.heap.objs.size (x::y0::Cy caps) s3 H3 fp pins) [] H' b:=fun hn b hb=>by
  refine⟨hn b hb,?_,fun z=>ok.exfs b hb z,.inl hb,fun y c e=>(f3 b hb).2.2.2.2.1 y c (hin.look e),fun p hp=>?_⟩
  ·exact(ok.exf b hb).1
  ·have hp':p∈(X.pn++pins)++[]:=hp
   rw[List.append_nil] at hp'
   exact(f3 b hb).2.2.2.2.2 p hp'
 have loop:∀s4:Shared,s4={ s3 with heap:=h1,toks:=s3.toks+([]:List (Str×Value)).length } →
  codeAny (model X.prog X.w) X.A (.compLoop (.ListComp elt [⟨.Tuple [.Name x px,.Name y0 py0] kt pt,iter,ifs,0⟩] sc pos) 0 (.ref it) (.ref D) (compEnvC sc cl s3.heap.objs.size X.env)) (compPost (model X.prog X.w) X.A X.xe use RQ (.ref D) s3.heap.objs.size) s4:=by
  rintro s4 rfl
  refine O9 (fun k s'=>∃i v0 v1 ys H',Inv (blk X sc cl s3.heap.objs.size (x::y0::Cy caps) s3 H3 fp pins) [] (v0::v1::Ck σ caps) H' s'∧tn i s'.heap∧(∀b∈fp,H' b=none)∧W i k ys H') ?_ m0
   ⟨0,none,none,[],H3,J4,st4,fun b hb=>(f3 b hb).1,w0⟩
  rintro k s5 ⟨i,v0,v1,ys,H5,I5,st5,fr5,w5⟩
  obtain⟨hD5,stop|⟨go,step⟩⟩:=turn i k ys H5 w5
  ·obtain⟨stop,q⟩:=stop
   refine thn (T.done (blk X sc cl s3.heap.objs.size (x::y0::Cy caps) s3 H3 fp pins) rfl rfl rfl hc i [] s5 _ H5 (fun _ _=>False) I5 (stat fr5) st5 stop) fun r s6 ⟨hr,I6⟩=>?_
   subst hr
   obtain⟨mm,hnn,_⟩:=I6.loc
   exact fin _ D H5 s3 s6 H3 rfl I3 (X5 I3 f3 I6) I6.free ⟨mm,hnn⟩ q
  ·refine thn (T.item (blk X sc cl s3.heap.objs.size (x::y0::Cy caps) s3 H3 fp pins) rfl rfl rfl hc i [] s5 _ H5 (fun _ _=>False) I5 (stat fr5) st5 go) fun r s6 ⟨u,hr,h6⟩=>?_
   subst hr
   refine thn h6 fun _ s7 ⟨y,H7,I7,r7,y7,st7,fr7⟩=>?_
   have I7':=I7.pinned (stat fr7) (T.obj _ _ st7)
   obtain⟨ay,uu,vv,ey,hsq,step'⟩:=step y _ y7
   refine thn (J0 (X:=blk X sc cl s3.heap.objs.size (x::y0::Cy caps) s3 H3 fp pins) hc (Bs (Bq (i:=0) hN rfl (.inl hx') (.inr hx')) (Bs (Bq (i:=1) hN rfl (.inl hy') (.inr hy')) Gj)) rfl rfl _ s7 (v0::v1::Ck σ caps) H7 y u (fun σ' H'=>σ'=some uu::some vv::Ck σ caps∧H'=H7) I7' r7 ⟨ay,_,ey,hsq,rfl,_,_,rfl,_,_,rfl,rfl,rfl,rfl⟩) fun _ s8 ⟨σ8,H8,I8,e8,e8'⟩=>?_
   subst e8
   subst e8'
   have back:∀{σ9:L2.St} {H9:Hp} {s9:Shared},Inv (blk X sc cl s3.heap.objs.size (x::y0::Cy caps) s3 H3 fp pins) ([]++Jy fp s7.heap) σ9 H9 s9→tn (i+1) s9.heap∧∀b∈fp,H9 b=none:=fun{σ9 H9 s9} I9=>by
    refine⟨T.keep _ _ _ st7 fun b hb o e=>(I9.pin (b,o) (ZC _ (ZC _ (Dz hb e)))).1,fun b hb=>?_⟩
    obtain⟨o,e,d⟩:=T.obj _ _ st7 b hb
    exact(I9.pin (b,o) (ZC _ (ZC _ (Dz hb e)))).2.1
   refine thn (ht _ _ _ _ _ _ s8 _ _ _ I8 step') fun ok s9 ⟨H9,I9,q9⟩=>?_
   cases ok with
   | false =>
     simp only[Bool.false_eq_true,if_false] at q9 ⊢
     obtain⟨m',hm,w9⟩:=q9
     exact⟨m',hm,i+1,some uu,some vv,ys,H9,I9.unpinned,(back I9).1,(back I9).2,w9⟩
   | true =>
     simp only[if_true] at q9 ⊢
     refine thn (he _ _ _ _ _ _ s9 _ _ _ I9 q9) fun xv s10 ⟨v,H10,I10,r10,hD10,hlt,m',hm,w10⟩=>?_
     refine thn (Dm (X:=blk X sc cl s3.heap.objs.size (x::y0::Cy caps) s3 H3 fp pins) _ s10 _ H10 (.ref D) [v] (.ref D) [xv] (fun _ H'=>H'=upd H10 D (.lst (ys++[v]))) I10 rfl (.cons r10 .nil) ⟨D,ys,v,rfl,rfl,hD10,hlt,rfl⟩) fun _ s11 ⟨_,H11,I11,_,e11⟩=>?_
     subst e11
     exact⟨m',hm,i+1,some uu,some vv,ys++[v],_,I11.unpinned,(back I11).1,(back I11).2,w10⟩
 exact codeAny_compStart_list (loop _ rfl) (T.self _ 0 _ _ _ st4 (loop _ rfl))
theorem Jat(hc:X.calm=true)(hi:PI X (.Tuple [.Name x px,.Name y0 py0] kt pt) iter wi)(hclos:closureFor sc X.env=pure cl)(hcell:∀y∈sc.names,y.2≠.cell)(hkind:sc.kind=.function)(hnames:∀y∈sc.names,y.2=.local→sc.names.lookup y.1=some .local)(hx:sc.names.lookup x=some .local)(hy0:sc.names.lookup y0=some .local)(hin:InCells X.env.cells cl)(has:∀y,((relabel sc X.env).names.lookup y=some .cell∨(relabel sc X.env).names.lookup y=some .free)→∃c,cl.lookup y=some c)(hcap:CapsOk X sc cl caps)(hN:(x::y0::Cy caps).Nodup)(ht:∀C s1 H1 fp pins,PTs (blk X sc cl C (x::y0::Cy caps) s1 H1 fp pins) ifs tt)(he:∀C s1 H1 fp pins,PE (blk X sc cl C (x::y0::Cy caps) s1 H1 fp pins) elt te)(hs:∀v,foldedSetIterable iter X.env v=pure v:=by intro _;rfl):PE X (.ListComp elt [⟨.Tuple [.Name x px,.Name y0 py0] kt pt,iter,ifs,0⟩] sc pos) (Zx X.K wi caps tt te):=by
 intro pins s σ H Q I h
 rw[eval_ListComp]
 refine Wc (use:=none) hc hi hclos hcell hkind hnames hx hy0 hin has hcap hN ht he I h (fun C D H' s1 s' H1 hC I1 I' hn ⟨m,hm⟩ q=>?_) hs
 subst hC
 exact⟨m,hm,fun h' hs'=>⟨.ref D,H',Ru (s':=s') I1 I' hn hs',rfl,q⟩⟩
end
theorem Wb{K:W.Frag}{a p:Addr}{xs:List V}{tt:TT}{te:TE}{caps:List (Str×Nat)}{σ:L2.St}{H:Hp}{Q:Hp→Prop}(Pv:Nat→List V→Hp→Prop)(h0:Pv 0 [] (upd H p (.lst [])))(hl:∀i ys H2,i≤xs.length→Pv i ys H2→SqL K H2 a xs∧H2 p=some (.lst ys))(hs:∀i x ys H2 (N:List V→Hp→Prop),xs[i]?=some x→Pv i ys H2→(∀ys H,Pv (i+1) ys H→N ys H)→∃a' u v',x=.ref a'∧SqT K H2 a' [u,v']∧tt (some u::some v'::Ck σ caps) H2 fun b H4 =>
  if b=true then te (some u::some v'::Ck σ caps) H4 fun v H5=>H5 p=some (.lst ys)∧ys.length<sizeLine∧N (ys++[v]) (upd H5 p (.lst (ys++[v]))) else N ys H4)(hd:∀ys H2,Pv xs.length ys H2→Q H2) :
 ∃W:Nat→Nat→List V→Hp→Prop,(∃m,W 0 m [] (upd H p (.lst [])))∧∀i m ys H2,W i m ys H2→H2 p=some (.lst ys) ∧
  (((Itl K a).stop i H2∧Q H2)∨((Itl K a).go i H2∧∀x H3,(Itl K a).yld i H2 x H3→∃a' u v',x=.ref a'∧SqT K H3 a' [u,v']∧tt (some u::some v'::Ck σ caps) H3 fun b H4 =>
    if b=true then te (some u::some v'::Ck σ caps) H4 fun v H5=>H5 p=some (.lst ys)∧ys.length<sizeLine∧∃m',m'<m∧W (i+1) m' (ys++[v]) (upd H5 p (.lst (ys++[v])))
    else ∃m',m'<m∧W (i+1) m' ys H4)):=by
 refine⟨fun i m ys H=>m=xs.length-i∧i≤xs.length∧Pv i ys H,⟨xs.length,by simp,Nat.zero_le _,h0⟩,?_⟩
 rintro i m ys H2 ⟨rfl,hi,pv⟩
 obtain⟨q1,q2⟩:=hl i ys H2 hi pv
 refine⟨q2,?_⟩
 by_cases hlt:i<xs.length
 ·refine .inr ⟨⟨xs,xs[i],q1,by simp[hlt]⟩,fun x H3 y=>?_⟩
  obtain⟨e,y⟩:=y
  subst e
  exact hs i x ys _ (fun zs H'=>∃m',m'<xs.length-i∧(m'=xs.length-(i+1)∧i+1≤xs.length∧Pv (i+1) zs H')) (y xs q1) pv fun zs H' pz=>⟨_,by lia,rfl,hlt,pz⟩
 ·have e:i=xs.length:=by lia
  subst e
  exact .inl ⟨⟨xs,q1,ZG _⟩,hd ys H2 pv⟩
def XAt(h:Heap)(g:Addr→Prop)(e:Addr)(cls:Value):Prop:=g e∧∃oe vs a0,h.get? e=some oe∧oe.cls=cls∧oe.data=.fields vs∧vs[0]?=some a0 ∧
 (vs[1]?=some .none∨∃T oT ts,vs[1]?=some (.ref T)∧g T∧T≠e∧h.get? T=some oT∧oT.data=.fields ts∧ts[3]?=some .none)
theorem XAt.mono{h:Heap}{g g':Addr→Prop}{e:Addr}{cls:Value}(x:XAt h g e cls)(k:∀b,g b→g' b):XAt h g' e cls:=by
 obtain⟨g1,oe,vs,a0,h1,h2,h4,h5,h6⟩:=x
 refine⟨k _ g1,oe,vs,a0,h1,h2,h4,h5,h6.imp (fun z=>z) ?_⟩
 rintro⟨T,oT,ts,t1,t2,t3⟩
 exact⟨T,oT,ts,t1,k _ t2,t3⟩
def XTr(h:Heap)(g:Addr→Prop)(e:Addr)(cls:Value):Prop:=g e∧∃oe vs a0 T oT ts,h.get? e=some oe∧oe.cls=cls∧oe.data=.fields vs∧vs[0]?=some a0∧vs[1]?=some (.ref T)∧g T∧T≠e∧h.get? T=some oT∧oT.data=.fields ts∧ts[3]?=some .none
theorem XTr.at{h:Heap}{g:Addr→Prop}{e:Addr}{cls:Value}(x:XTr h g e cls):XAt h g e cls:=by
 obtain⟨g1,oe,vs,a0,T,oT,ts,h1,h2,h3,h4,h5⟩:=x
 exact⟨g1,oe,vs,a0,h1,h2,h3,h4,.inr ⟨T,oT,ts,h5⟩⟩
def CX1(P:Program)(w:World):CXT:=fun outer H s E e s'=>∃ex cls H',e=.ref ex∧XTr s'.heap (fun b=>s.heap.get? b=none∧H' b=none) ex cls∧E cls none H'∧s'.os=s.os∧AllBare s'.gens∧Un (frs outer) [] H H' s.heap s'.heap∧HOk P w H' s'.heap
theorem Kb{P:Program}{w:World}{H:Hp}{h:Heap}(ok:HOk P w H h){a:Addr}{o:HO}(e:H a=some o):∃ob,h.get? a=some ob:=by
 have x:=ok a o e
 cases o with
 | lst xs=>obtain⟨_,_,_,_,e⟩:=x;exact⟨_,e⟩
 | tup xs=>obtain⟨_,_,_,o,e,_⟩:=x;exact⟨_,e⟩
 | dK kvs=>obtain⟨_,_,_,_,o,_,_,e,_⟩:=x;exact⟨_,e⟩
 | dT kvs=>obtain⟨_,_,_,_,o,_,_,e,_⟩:=x;exact⟨_,e⟩
 | set S n=>obtain⟨o,_,_,_,e,_⟩:=x;exact⟨_,e⟩
 | ins C dx fs=>obtain⟨_,_,_,e,_⟩:=x;exact⟨_,e⟩
 | own y=>obtain⟨_,e⟩:=x;exact⟨_,e⟩
 | xd fs=>obtain⟨_,⟨_,_,_,e,_⟩,_⟩:=x;exact⟨_,e⟩
 | rng lo hi=>obtain⟨_,_,_,e⟩:=x;exact⟨_,e⟩
 | frz ob u=>obtain⟨e,_⟩:=x;exact⟨_,e⟩
 | tbl ps=>exact⟨_,(show h.get? a=some _ from x)⟩
 | met f y=>exact⟨_,(show h.get? a=some _ from x)⟩
 | ext φ=>obtain⟨_,⟨_,e⟩,_⟩:=x;exact⟨_,e⟩
structure Aside(fr:List Addr)(g:Addr→Prop)(h h':Heap):Prop where
 keep:∀b o,h.get? b=some o→b∉fr→¬g b→h'.get? b=some o
 slot:∀b o,h.get? b=some o→b∈fr→∃sl,h'.get? b=some { o with slots:=sl }
theorem Aside.trans{fr:List Addr}{g:Addr→Prop}{h h1 h2:Heap}(a:Aside fr g h h1)(b:Aside fr g h1 h2):Aside fr g h h2 :=
 ⟨fun c o e n1 n2=>b.keep c o (a.keep c o e n1 n2) n1 n2,fun c o e m=>by
  obtain⟨sl,e1⟩:=a.slot c o e m
  obtain⟨sl2,e2⟩:=b.slot c _ e1 m
  exact⟨sl2,e2⟩⟩
section
variable {M:Model}{A:Around}{E:Value→Shared→Prop}{s:Shared}{base:Heap}{env:Env}{outer:List Env}{L e:Addr}{cls:Value}{g:Addr→Prop}
theorem Nr{h h':Heap}{Hd:List Addr}(hl:h.FunFrames base (env::outer))(hd:∀b∈Hd,b∈frs (env::outer)∨g b)(k1:(W.hideAll h Hd).StaysIn h')(k4:∀b o,h.get? b=some o→(∀vs,o.data≠.fields vs)→∃sl,h'.get? b=some { o with slots:=sl }):Aside (frs (env::outer)) g h h':=by
 refine⟨fun b o e n1 n2=>k1 b o (W.hideAll_get _ e fun m=>?_),fun b o e m=>?_⟩
 ·rcases hd b m with z|z
  ·exact n1 z
  ·exact n2 z
 ·obtain⟨_,o',e',hn⟩:=hl.mem m
  rw[e] at e';cases e'
  exact k4 b o e hn
theorem J3{h h':Heap}{Hd:List Addr}{T:Addr}{oT:Obj}{ts:Array Value}(hl:h.FunFrames base (env::outer))(hd:∀b∈Hd,b∈frs (env::outer)∨g b)(k4:∀b o,h.get? b=some o→(∀vs,o.data≠.fields vs)→∃sl,h'.get? b=some { o with slots:=sl })(hT:(W.hideAll h Hd).get? T=none)(eT:h'.get? T=some oT)(dT:oT.data=.fields ts)(fresh:∀b,h.get? b=none→g b):g T:=by
 cases q:h.get? T with
 | none=>exact fresh T q
 | some o =>
   have m:T∈Hd:=by
    apply Classical.byContradiction
    intro n
    rw[W.hideAll_get _ q n] at hT
    cases hT
   rcases hd T m with z|z
   ·exfalso
    obtain⟨_,o',e',hn⟩:=hl.mem z
    rw[q] at e';cases e'
    obtain⟨sl,e2⟩:=k4 T o q hn
    rw[eT] at e2
    cases e2
    exact hn ts dT
   ·exact z
theorem Kc{l:List Env}:∀en∈l,∀a,en.frame=some a→a∈frs l:=fun en he a ha=>List.mem_filterMap.mpr ⟨en,he,ha⟩
theorem Jds{Q:Unit→Shared→Prop}(hfr:A.frames=some (env::outer))(hl:s.heap.FunFrames base (env::outer))(hf:env.frame=some L)(x:XAt s.heap g e cls)(fresh:∀b,s.heap.get? b=none→g b)(h:∀h',XTr h' g e cls→Aside (frs (env::outer)) g s.heap h'→Q () { s with heap:=h' }):wpAny M A (leaving env (.ref e)) Q E s:=by
 obtain⟨ge,oe,vs,a0,h1,h2,h3,h4,h5⟩:=x
 subst h2
 rcases h5 with h5|⟨T,oT,ts,t1,t2,t3,t4,t5,t6⟩
 ·have hd:∀b∈frs (env::outer)++[e],b∈frs (env::outer)∨g b:=fun b hb=>by
   rcases ZI hb with z|z
   ·exact .inl z
   ·have:b=e:=by simpa using z
    rw[this];exact .inr ge
  refine wpAny_leaving_firstW (base:=W.hideAll s.heap (frs (env::outer)++[e])) (a0:=a0) hfr (W.funFrames_hide hl fun en he a ha=>ZB _ (Kc en he a ha)) hf h1 (fun b o q=>W.of_hideAll _ q) (W.hideAll_none _ (by simp)) h3 h5 h4 fun h' hL=>?_
  obtain⟨k1,k2,⟨oe',vs',T',oT',ts',b1,⟨b2,b3⟩,b4,b5,b6,b7,b8,b9,b10⟩,k4⟩:=hL
  exact h h' ⟨ge,oe',vs',a0,T',oT',ts',b1,b2,b4,b3,b5,J3 hl hd k4 b6 b8 b9 fresh,b7,b8,b9,b10⟩ (Nr hl hd k1 k4)
 ·have hd:∀b∈frs (env::outer)++[e,T],b∈frs (env::outer)∨g b:=fun b hb=>by
   rcases ZI hb with z|z
   ·exact .inl z
   ·have:b=e∨b=T:=by simpa using z
    rcases this with rfl|rfl
    ·exact .inr ge
    ·exact .inr t2
  refine wpAny_leaving_nextW (base:=W.hideAll s.heap (frs (env::outer)++[e,T])) (cls:=oe.cls) (a0:=a0) hfr (W.funFrames_hide hl fun en he a ha=>ZB _ (Kc en he a ha)) hf ⟨oe,vs,T,oT,ts,h1,⟨rfl,h4⟩,h3,t1,W.hideAll_none _ (by simp),t3,t4,t5,t6⟩
   (fun b o q=>W.of_hideAll _ q) (W.hideAll_none _ (by simp)) fun h' hL=>?_
  obtain⟨k1,k2,⟨oe',vs',T',oT',ts',b1,⟨b2,b3⟩,b4,b5,b6,b7,b8,b9,b10⟩,k4⟩:=hL
  exact h h' ⟨ge,oe',vs',a0,T',oT',ts',b1,b2,b4,b3,b5,J3 hl hd k4 b6 b8 b9 fresh,b7,b8,b9,b10⟩ (Nr hl hd k1 k4)
theorem Jfp{Q:Unit→Shared→Prop}(hfr:A.frames=some (env::outer))(hl:s.heap.FunFrames base (env::outer))(hf:env.frame=some L)(x:XTr s.heap g e cls)(fresh:∀b,s.heap.get? b=none→g b)(h:∀h',XTr h' g e cls→Aside (frs (env::outer)) g s.heap h'→Q () { s with heap:=h' }):wpAny M A (noteFrame (.ref e) env) (fun _ s2=>wpAny M A (setFlight (.ref e) none) Q E s2) E s:=by
 obtain⟨ge,oe,vs,a0,T,oT,ts,h1,h2,h3,h4,t1,t2,t3,t4,t5,t6⟩:=x
 subst h2
 have hd:∀b∈frs (env::outer)++[e,T],b∈frs (env::outer)∨g b:=fun b hb=>by
  rcases ZI hb with z|z
  ·exact .inl z
  ·have:b=e∨b=T:=by simpa using z
   rcases this with rfl|rfl
   ·exact .inr ge
   ·exact .inr t2
 refine wpAny_noteFrame_onW (base:=W.hideAll s.heap (frs (env::outer)++[e,T])) (cls:=oe.cls) (a0:=a0) hfr (W.funFrames_hide hl fun en he a ha=>ZB _ (Kc en he a ha)) hf ⟨oe,vs,T,oT,ts,h1,⟨rfl,h4⟩,h3,t1,W.hideAll_none _ (by simp),t3,t4,t5,t6⟩
  (fun b o q=>W.of_hideAll _ q) (W.hideAll_none _ (by simp)) fun h' hN=>?_
 obtain⟨k1,k2,k3,k4⟩:=hN
 refine wpAny_setFlight_noneW (s:={ s with heap:=h' }) k1 k2 k3 fun h2 j1 j2 j3 j4=>?_
 obtain⟨oe',vs',T',oT',ts',b1,⟨b2,b3⟩,b4,b5,b6,b7,b8,b9,b10⟩:=j3
 have kk:∀b o,s.heap.get? b=some o→(∀vs,o.data≠.fields vs)→∃sl,h2.get? b=some { o with slots:=sl }:=fun b o q n=>by
  obtain⟨sl,q2⟩:=k4 b o q n
  exact⟨sl,j4 b _ q2 n⟩
 exact h h2 ⟨ge,oe',vs',a0,T',oT',ts',b1,b2,b4,b3,b5,J3 hl hd kk b6 b8 b9 fresh,b7,b8,b9,b10⟩ (Nr hl hd j1 kk)
theorem Jfq{Q:Unit→Shared→Prop}{fr:List Addr}(x:XTr s.heap g e cls)(hg:∀b∈fr,¬g b)(h:∀h',XTr h' g e cls→Aside fr g s.heap h'→Q () { s with heap:=h' }):wpAny M A (setFlight (.ref e) none) Q E s:=by
 obtain⟨ge,oe,vs,a0,T,oT,ts,h1,h2,h3,h4,t1,t2,t3,t4,t5,t6⟩:=x
 subst h2
 have hsz:3<ts.size:=(Array.getElem?_eq_some_iff.mp t6).1
 refine wpAny_setFlight_none h1 h3 t1 t4 t5 hsz (h _ ⟨ge,oe,vs,a0,T,_,_,(Heap.get?_update_other _ _ t3).trans h1,rfl,h3,h4,t1,t2,t3,Heap.get?_update_self _ t4 (Obj.isFreed_of_fields (Obj.data_mapFields t5 _)),Obj.data_mapFields t5 _,by simp[hsz]⟩ ⟨fun b o q _ n=>?_,fun b o q m=>?_⟩)
 ·exact(Heap.get?_update_other _ _ (fun z=>n (by rw[←z];exact t2))).trans q
 ·refine⟨o.slots,(Heap.get?_update_other _ _ (fun z=>hg b m (by rw[←z];exact t2))).trans q⟩
end
section
variable {X:Cx}{pins:List (Addr×Obj)}{σ:L2.St}{H H1:Hp}{s s1:Shared}{h':Heap}{g:Addr→Prop}{ex:Addr}{cls:Value}
theorem Ox{P:Program}{w:World}{fr:List Addr}{h:Heap}(ok:HOk P w H1 h)(a:Aside fr g h h')(hf:∀b∈fr,H1 b=none)(hg:∀b,g b→H1 b=none):HOk P w H1 h':=fun b o e =>
 (ok b o e).stay (fun c u hc q=>a.keep c u q (fun m=>by
  have:=hf c m
  rcases hc with rfl|hc
  ·rw[this] at e;cases e
  ·rw[this] at hc;cases hc) (fun m=>by
  have:=hg c m
  rcases hc with rfl|hc
  ·rw[this] at e;cases e
  ·rw[this] at hc;cases hc)) (fun _ q=>q) fun _ _ q=>q
theorem R7{fr:List Addr}{h:Heap}{s0:Heap}{H0:Hp}{fs:List Addr}(u:Un fs [] H0 H1 s0 h)(a:Aside fr g h h')(hg:∀b o,s0.get? b=some o→¬g b)(hfr:∀b o,s0.get? b=some o→b∈fr→b∈fs)(hH:∀b∈fr,H1 b=none):Un fs [] H0 H1 s0 h' where
 keep:=fun b o e n1 n2 n3=>a.keep b o (u.keep b o e n1 n2 n3) (fun m=>n2 (hfr b o e m)) (hg b o e)
 slot:=fun b o e n1 m n3=>by
  obtain⟨sl,q⟩:=u.slot b o e n1 m n3
  by_cases hm:b∈fr
  ·obtain⟨sl2,q2⟩:=a.slot b _ q hm
   exact⟨sl2,q2⟩
  ·exact⟨sl,a.keep b _ q hm (hg b o e)⟩
 free:=u.free
 there:=fun b o e n=>by
  obtain⟨o',q⟩:=u.there b o e n
  by_cases hm:b∈fr
  ·obtain⟨sl2,q2⟩:=a.slot b _ q hm
   exact⟨_,q2⟩
  ·exact⟨_,a.keep b _ q hm (hg b o e)⟩
 tups:=u.tups
 frzs:=u.frzs
 tbls:=u.tbls
end
def Jca(X:Cx)(E:XK):Prop:=∀(pins:List (Addr×Obj))(σ:L2.St)(H1:Hp)(s1:Shared)(ex:Addr)(cls:Value),Inv X pins σ H1 s1→XAt s1.heap (fun b=>X.s₀.heap.get? b=none∧H1 b=none) ex cls→E cls none H1→X.xe (.ref ex) s1
section
variable {P:Program}{w:World}{K:W.Frag}{mg:Str→Option Value}{base:Heap}{N:List Str}{qual:Str}{scope:Scope}{f:Addr}{cd:Value}{A:Around}{outer:List Env}{s:Shared}{H:Hp}{E:XK}
theorem Ff:Jca (Ke (CX1 P w) P w K mg base N qual scope f cd A outer s H E) E:=by
 intro pins σ H1 s1 ex cls I x hE
 have hs0:∀b o,s.heap.get? b=some o→∃o',s1.heap.get? b=some o':=fun b o e=>I.base.there b o e (by simp[Ke])
 refine Jds (base:=base) (L:=s.heap.objs.size) I.ok.frames I.stack rfl x (fun b q=>?_) fun h' x' as=>?_
 ·constructor
  ·cases q2:s.heap.get? b with
   | none=>exact q2
   | some o =>
     obtain⟨o',e⟩:=hs0 b o q2
     rw[q] at e;cases e
  ·cases q2:H1 b with
   | none=>rfl
   | some o =>
     obtain⟨ob,e⟩:=Kb I.hok q2
     rw[q] at e;cases e
 ·have hfree:∀b∈frs (envOfC qual scope s.heap.objs.size f cd::outer),H1 b=none:=fun b hb=>I.stkFree b hb
  refine⟨ex,cls,H1,rfl,x',hE,I.os,I.bare,R7 (fs:=frs outer) I.base as (fun b o e z=>?_) (fun b o e m=>?_) hfree,Ox I.hok as hfree fun b z=>z.2⟩
  ·have:=z.1
   have e':s.heap.get? b=some o:=e
   rw[show(Ke (CX1 P w) P w K mg base N qual scope f cd A outer s H E).s₀.heap.get? b=s.heap.get? b from rfl,e'] at this
   cases this
  ·rcases ZM (show b∈s.heap.objs.size::frs outer from m) with z|z
   ·have:=Heap.lt_size (show s.heap.get? b=some o from e)
    rw[z] at this
    exact absurd this (Nat.lt_irrefl _)
   ·exact z
theorem Bb:Fn (CX1 P w) (Ke (CX1 P w) P w K mg base N qual scope f cd A outer s H E) E:=by
 intro pins σ H0 s0 e s' I ⟨ex,cls,H',he,x,hE,ho,hg,u,ok⟩
 subst he
 have I':Inv (Ke (CX1 P w) P w K mg base N qual scope f cd A outer s H E) pins σ H' s':=I.call' (ch:=[]) ho u ok hg (fun b hb=>by simp at hb)
 refine Ff pins σ H' s' ex cls I' (x.at.mono fun b z=>⟨?_,z.2⟩) hE
 cases q:s.heap.get? b with
 | none=>exact q
 | some o =>
   obtain⟨o',e⟩:=I.base.there b o q (by simp[Ke])
   rw[z.1] at e;cases e
end
section
variable {P:Program}{w:World}{K:W.Frag}{mg:Str→Option Value}{base:Heap}
theorem ok1{x qual:Str}{st:Stmt}{f:Addr}{fd:FuncData}{N ps:List Str}{k:Nat}{sp:Sp}(F:Fun K x qual st f fd)(S:Ao N ps (Aj st))(len:∀vs H Q E,sp vs H Q E→vs.length=ps.length)(hbody:∀(cdv:Value) (A:Around) (outer:List Env) (s:Shared) (H:Hp) (vs:List V) (Q:VK) (E:XK),Room k (A.deeper (envOfC qual (Aj st) s.heap.objs.size f cdv))→sp vs H Q E →
  ∃t,PSs (Ke (CX1 P w) P w K mg base N qual (Aj st) f cdv A outer s H E) (Gv st) t∧t { nx:=fun _ H'=>Q .non H',rt:=Q } (start N vs) H):FnOk P w K mg base (CX1 P w) (k+1) f fd ps sp:=by
 obtain⟨oc,od,kV,doc,pm,an,cdv,ct,osl,rfl,lk,hcd⟩:=F.ex
 exact Jer lk hcd S len fun A outer s H vs Q E hr hsp=>hbody cdv A outer s H vs Q E hr hsp
theorem FnOk.to1{k:Nat}{f:Addr}{fd:FuncData}{ps:List Str}{sp:Sp}(F:FnOk P w K mg base CX0 k f fd ps sp):FnOk P w K mg base (CX1 P w) k f fd ps sp :=
 ⟨F.len,fun A outer s H args us vs Q E hr he hb hv hs=>codeAny_mono (F.run A outer s H args us vs Q E hr he hb hv hs) fun r s' h=>by
  cases r with
  | ok fl=>cases fl<;>exact h
  | error e=>exact False.elim h⟩
end
def Zg:List Value:=[.type "ValueError",.type "Exception",.type "BaseException",.type "object"]
structure Ry(K:W.Frag)(mg:Str→Option Value)(x:Str)(C:Addr):Prop where
 mg:mg x=some (.ref C)
 ex:W.excIn K C Zg "ValueError.__new__"=true
section
variable {X:Cx}{x:Str}{C:Addr}{E:XK}{np cpos pos p1:Pos}{msg:Str}{j:Nat}
theorem X0{K:W.Frag}{h:Heap}{C:Addr}(XK:K.In h)(q:W.excIn K C Zg "ValueError.__new__"=true):∃nm q N bs bm hdct sn sub ab col dd k0 k1 k2 k3 k5 mN,h.get? C=some (excClassObj nm q C N bs bm hdct sn sub ab col dd k0 k1 k2 k3 k5 "ValueError.__new__")∧h.Ns N mN∧mN "__init__"=none∧OwnTail h Zg bm:=by
 unfold W.excIn at q
 split at q
 ·rename_i dd cd sl ho
  split at q
  ·rename_i C' bm k0 k1 k2 k3 n k5 hm hs
   simp only[Bool.and_eq_true,beq_iff_eq,Bool.not_eq_true'] at q
   obtain⟨⟨⟨⟨⟨rfl,rfl⟩,hdel⟩,ht⟩,hok⟩,hni⟩:=q
   obtain⟨nm,bs,mro,ns,qn,hd,sn,sub,ab,col,del⟩:=cd
   dsimp only at hm hdel hok hni
   subst hm hdel
   have hsl:sl=#[k0,k1,k2,k3,some (.builtin "ValueError.__new__"),k5]:=by
    obtain⟨l⟩:=sl
    simp only at hs
    rw[hs]
   subst hsl
   exact⟨nm,qn,ns,bs,bm,hd,sn,sub,ab,col,dd,k0,k1,k2,k3,k5,_,XK _ _ ho,.of_isNs (W.isNs_of_in XK hok),W.nsMap_none_of_in XK hok hni,W.tail_of_in XK ht⟩
  ·cases q
 ·cases q
theorem Zl{h:Heap}{mg:Str→Option Value}(XK:X.K.In h)(c:Ry X.K mg x C):∃nm q N bs bm hdct sn sub ab col dd k0 k1 k2 k3 k5 mN,h.get? C=some (excClassObj nm q C N bs bm hdct sn sub ab col dd k0 k1 k2 k3 k5 "ValueError.__new__")∧h.Ns N mN∧mN "__init__"=none∧OwnTail h Zg bm:=X0 XK c.ex
theorem E6(hc:X.calm=true)(hg:Gl X x)(c:Ry X.K X.mg x C)(hx:Jca X E)(hex:X.ex=[]:=by rfl)(hd:(x==("__debug__":Str))=false:=by decide)(hplain:(backTo cpos (starEach [.Constant (.str msg) j p1] X.env)).any (·.1)=false:=by rfl)(hs:starEach [.Constant (.str msg) j p1] X.env=[(false,eval (.Constant (.str msg) j p1) X.env)]:=by rfl) :
 PS X (.Raise (some (.Call (.Name x np) [.Constant (.str msg) j p1] [] cpos)) none pos) (fun _ _ H=>E (.ref C) none H):=by
 intro pins s σ H D I h
 obtain⟨nm,q,N,bs,bm,hdct,sn,sub,ab,col,dd,k0,k1,k2,k3,k5,mN,hC,hN,hni,tl⟩:=Zl (X:=X) I.mod.kin c
 refine wpAny_Raise_call_subU (C:=C) (nm:=nm) (q:=q) (N:=N) (bs:=bs) (bm:=bm) (hdct:=hdct) (sn:=sn) (sub:=sub) (ab:=ab) (col:=col) (dd:=dd) (k0:=k0) (k1:=k1) (k2:=k2) (k3:=k3) (k5:=k5) F.excBase_ValueError (bmB:=Zg) (by decide +kernel) F.excBase_ValueError (tl.hasType (by decide +kernel)) (I.ok.hd hc) hplain hni ?_
 refine Gp I hg c.mg ⟨rfl,?_⟩ hd
 have ha:PA X [.Constant (.str msg) j p1] (Dk (tC (.str msg)) Jo):=Aa As Ae hs
 have hA:=ha cpos pins s σ H (fun vs H1=>vs=[.str msg]∧H1=H) I ⟨rfl,rfl⟩
 rw[hs] at hA ⊢
 refine Calls.evalArgs_plain (thn hA fun us s2 ⟨vs,H2,I2,r2,e1,e2⟩=>?_)
 subst e1 e2
 refine⟨rfl,by show us.length≤sizeLine;rw[←r2.length];show 1≤sizeLine;decide,I2.bk _ _ hC,(let⟨o,es,ep,e,r⟩:=hN;⟨o,es,ep,I2.bk _ _ e,r⟩),tl.keeps I2.bk,fun h' e hm=>?_⟩
 obtain⟨t,ht,_⟩:=hm.there
 have none_:∀b,s2.heap.get? b=none→X.s₀.heap.get? b=none∧H2 b=none:=fun b q=>by
  constructor
  ·cases q2:X.s₀.heap.get? b with
   | none=>rfl
   | some o =>
     obtain⟨o',e'⟩:=I2.base.there b o q2 (by rw[hex];simp)
     rw[q] at e';cases e'
  ·cases q2:H2 b with
   | none=>rfl
   | some o =>
     obtain⟨ob,e'⟩:=Kb I2.hok q2
     rw[q] at e';cases e'
 have I3:Inv X pins σ H2 { s2 with heap:=h' }:=I2.kept (t':=s2.toks) hm.keeps
 exact hx pins σ H2 _ e (.ref C) I3 ⟨none_ e hm.new,_,_,_,ht,rfl,rfl,rfl,.inl rfl⟩ h
end
section
variable {X:Cx}{pins:List (Addr×Obj)}{σ:L2.St}{H:Hp}{s:Shared}
end
def Ow(X:Cx)(pins:List (Addr×Obj))(E:Value→Shared→Prop):Cx:={ X with pn:=X.pn++pins,xe:=E }
def inX(X:Cx)(ex:Addr):Cx:={ X with A:=X.A.mark (some (.ref ex)),calm:=false,xe:=fun _ _=>False }
section
variable {X:Cx}{pins pins':List (Addr×Obj)}{σ:L2.St}{H:Hp}{s:Shared}{E:Value→Shared→Prop}{ex:Addr}
theorem Cx.Ok.toTry(ok:X.Ok):(Ow X pins E).Ok:=⟨ok.mod,ok.kind,ok.glob,ok.blt,ok.above,ok.inj,ok.has,ok.cab,ok.hd,ok.frames,ok.stk,ok.exf,ok.bs,ok.bsz,ok.noex,ok.exfs,ok.funs,ok.frf⟩
theorem Cx.Ok.ofTry(ok:(Ow X pins E).Ok):X.Ok:=⟨ok.mod,ok.kind,ok.glob,ok.blt,ok.above,ok.inj,ok.has,ok.cab,ok.hd,ok.frames,ok.stk,ok.exf,ok.bs,ok.bsz,ok.noex,ok.exfs,ok.funs,ok.frf⟩
theorem Cx.Ok.toX(ok:X.Ok):(inX X ex).Ok:=⟨ok.mod,ok.kind,ok.glob,ok.blt,ok.above,ok.inj,ok.has,ok.cab,fun z=>(by cases z),ok.frames,ok.stk,ok.exf,ok.bs,ok.bsz,ok.noex,ok.exfs,ok.funs,ok.frf⟩
theorem Y7(I:Inv X pins σ H s):Inv (Ow X pins E) [] σ H s:=⟨Cx.Ok.toTry I.ok,I.os,I.bare,I.base,I.loc,I.cell,I.free,I.freeC,fun p hp=>I.pin p (by
 have hp':p∈(X.pn++pins)++[]:=hp
 rwa [List.append_nil] at hp'),I.hok,I.len⟩
theorem Fa(I:Inv (Ow X pins E) pins' σ H s):Inv X pins σ H s:=⟨Cx.Ok.ofTry I.ok,I.os,I.bare,I.base,I.loc,I.cell,I.free,I.freeC,fun p hp=>I.pin p (ZB _ hp),I.hok,I.len⟩
theorem Xt(I:Inv X pins σ H s):Inv (inX X ex) pins σ H s:=⟨Cx.Ok.toX I.ok,I.os,I.bare,I.base,I.loc,I.cell,I.free,I.freeC,I.pin,I.hok,I.len⟩
theorem Lh(I:Inv (inX X ex) pins σ H s)(ok:X.Ok):Inv X pins σ H s:=⟨ok,I.os,I.bare,I.base,I.loc,I.cell,I.free,I.freeC,I.pin,I.hok,I.len⟩
theorem Y6{a:Addr}{o:HO}(I:Inv X pins σ H s)(hn:H a=none)(h0:X.s₀.heap.get? a=none)(h1:a≠X.env.locals)(h2:∀x c,X.env.cells.lookup x=some c→c≠a)(h3:∀p∈X.pn++pins,p.1≠a)(ok:ObjOk X.prog X.w (upd H a o) s.heap a o):Inv X pins σ (upd H a o) s:=by
 have ne:∀{b:Addr} {u:HO},H b=some u→b≠a:=fun e=>Am e hn
 refine⟨I.ok,I.os,I.bare,⟨I.base.keep,I.base.slot,fun b ob e n hx=>?_,I.base.there,fun b xs e=>?_,fun b ob u e=>?_,fun b ps e=>?_⟩,I.loc,I.cell,by rw[Ad (Ne.symm h1)];exact I.free,fun x c e=>by rw[Ad (h2 x c e)];exact I.freeC x c e,fun p hp=>?_,fun b u e=>?_,I.len⟩
 ·rw[Ad (fun z=>by rw[z,h0] at e;cases e)];exact I.base.free b ob e n hx
 ·have:=I.base.tups b xs e
  rw[Ad (ne this)];exact this
 ·have:=I.base.frzs b ob u e
  rw[Ad (ne this)];exact this
 ·obtain⟨more,q⟩:=I.base.tbls b ps e
  exact⟨more,by rw[Ad (ne q)];exact q⟩
 ·obtain⟨a1,a2,a3⟩:=I.pin p hp
  exact⟨a1,by rw[Ad (h3 p hp)];exact a2,a3⟩
 ·by_cases hb:b=a
  ·subst hb;rw[Ab] at e;cases e;exact ok
  ·rw[Ad hb] at e
   exact(I.hok b u e).stay (fun c w' _ q=>q) (fun c q=>by rw[Ad (ne q)];exact q) fun c xs q=>by rw[Ad (ne q)];exact q
end
def R0(X:Cx)(ES:L2.St→XK):Prop:=∀(pins:List (Addr×Obj))(σ:L2.St)(H:Hp)(s:Shared)(e:Value)(s':Shared),Inv X pins σ H s→CX1 X.prog X.w X.stack H s (ES σ) e s'→X.xe e s'
section
variable {X:Cx}{k:Nat}{f C:Addr}{fd:FuncData}{ps:List Str}{sp:Sp}{ES:L2.St→XK}{x m:Str}{p pos apos:Pos}{e o:Expr}{es:List Expr}{ta:TE}{t:TA}
theorem Jcu{pins:List (Addr×Obj)}{σ:L2.St}{H:Hp}{s:Shared}{Q:VK}{us:List Value}{vs:List V}(F:FnOk X.prog X.w X.K X.mg X.base (CX1 X.prog X.w) k f fd ps sp)(hr:Room k X.A)(hb:Binds X.K fd ps [])(hx:R0 X ES)(I:Inv X pins σ H s)(r:Vals vs us)(h:sp vs H Q (ES σ)):wpAny (model X.prog X.w) X.A (call (.ref f) us) (EP X pins σ Q) X.xe s:=by
 have hl:us.length=ps.length:=by rw[←r.length];exact F.len _ _ _ _ h
 refine wpAny_call (codeAny_mono (F.run X.A X.stack s H ⟨us,[]⟩ us vs Q (ES σ) hr I.env0 (by have:=hb s us I.kIn (by rw[List.append_nil];exact hl);rwa [List.append_nil] at this) r h) fun r s' hq=>?_)
 cases r with
 | error e=>exact hx pins σ H s e s' I hq
 | ok fl =>
   cases fl with
   | ret u=>exact I.after hq
   | next=>exact hq.elim
   | brk=>exact hq.elim
   | cont=>exact hq.elim
def Je6(sp:Sp)(ES:L2.St→XK)(t:TA):TE:=fun σ H Q=>t σ H fun vs H1=>sp vs H1 Q (ES σ)
theorem Tn(F:FnOk X.prog X.w X.K X.mg X.base (CX1 X.prog X.w) k f fd ps sp)(hr:Room k X.A)(hg:Gl X x)(hm:X.mg x=some (.ref f))(hk:W.keepIn X.K (.ref f)=true)(hb:Binds X.K fd ps [])(hx:R0 X ES)(ha:PA X (e::es) t)(hdb:(x==("__debug__":Str))=false:=by decide)(he:starEach (e::es) X.env=(false,eval e X.env)::starEach es X.env:=by rfl)(hpl:(backTo pos (starEach es X.env)).any (·.1)=false:=by rfl):PE X (.Call (.Name x p) (e::es) [] pos) (Je6 sp ES t):=by
 intro pins s σ H Q I h
 refine wpAny_Call_Name_kw (Gp I hg hm (W.callWith_K (h₀:=X.base) I.ok.mod.kin hk (thn (ha pos pins s σ H _ I h) fun us s1 ⟨vs,H1,I1,r,q⟩=>⟨I1.kIn,Jcu F hr hb hx I1 r q⟩) he hpl) hdb)
end
theorem Jet{M:Model}{A:Around}{E:Value→Shared→Prop}{s:Shared}{K:W.Frag}{C D e:Addr}{oe:Obj}{Q:Bool→Shared→Prop}(XK:K.In s.heap)(cD:W.excIn K D Zg "ValueError.__new__"=true)(hsub:W.mroIn K C (.ref D)=some true)(he:s.heap.get? e=some oe)(hcls:oe.cls=.ref C)(hq:Q true s):wpAny M A (excMatches (.ref e) (.ref D)) Q E s:=by
 obtain⟨h,g,d,t,os⟩:=s
 obtain⟨nm,q,N,bs,bm,hdct,sn,sub,ab,col,dd,k0,k1,k2,k3,k5,mN,hD,hN,hni,tl⟩:=X0 XK cD
 have hB:(Value.ref D::bm).contains (.type "BaseException")=true:=by rw[List.contains_cons,tl.hasType (b:=true) (by decide +kernel),Bool.or_true]
 have f:=tc_notTuple
 have LS:=W.looks_mroIn (M:=M) XK hsub
 unfold excMatches
 repeat (first|(with_reducible refine wpAny_loadPart_at he ?_;rw[hcls])|with_reducible refine wpAny_loadPart_at hD ?_|(with_reducible refine wpAny_isSubtype_exc hD ?_;rw[hB])|with_reducible refine LS.at ?_|wp_step)
 exact hq
def Jf7(K:W.Frag)(D:Addr)(cls:Value)(C:Addr):Prop:=cls=.ref C∧W.mroIn K C (.ref D)=some true
section
variable {X:Cx}{body suite:List Stmt}{b₀:Stmt}{n x:Str}{D:Addr}{i:Nat}{np hpos pos:Pos}{tb:(L2.St→XK)→TS}{ts:Addr→TS}
end
def Jhd(K:W.Frag)(D:Addr)(tb:(L2.St→XK)→TS)(ts:TS):TS:=fun E σ H=>tb (fun σ' cls _ H'=>∃C,Jf7 K D cls C∧ts E σ' H') E σ H
section
variable {X:Cx}{body suite:List Stmt}{b₀:Stmt}{x:Str}{D:Addr}{np hpos pos:Pos}{tb:(L2.St→XK)→TS}{ts:TS}
theorem Jaj(hstk:X.stack=X.env::X.outer)(hfr:X.env.frame=some X.env.locals)(hex:X.ex=[])(hg:Gl X x)(cD:Ry X.K X.mg x D)(hb:∀(pins:List (Addr×Obj)) (E:Value→Shared→Prop) (ES:L2.St→XK),R0 (Ow X pins E) ES→PSs (Ow X pins E) body (tb ES))(hs:∀ex,PSs (inX X ex) (b₀::suite) ts)(hd:(x==("__debug__":Str))=false:=by decide) :
 PS X (.Try body [.ExceptHandler (some (.Name x np)) none (b₀::suite) hpos] [] [] pos) (Jhd X.K D tb ts):=by
 intro pins s σ H E I h
 refine wpAny_Try_except (wpAny_mono (hb pins (fun e s1=>wpAny (model X.prog X.w) X.A (noteFrame e X.env) (fun _ s2=>wpAny (model X.prog X.w) X.A (setFlight e none) (fun _ s3=>wpAny (model X.prog X.w) X.A (handleBy e X.env [.ExceptHandler (some (.Name x np)) none (b₀::suite) hpos]) (SP X pins E) X.xe s3) X.xe s2) X.xe s1) _ ?_ [] s σ H E (Y7 I) h) (fun f s1 q=>?_) fun e s1 q=>q)
 ·
  intro pins' σ' H0 s0 e s' I0 ⟨ex,cls,H',he,xt,⟨C,⟨hcls,hsub⟩,hE⟩,ho,hga,u,ok⟩
  subst he hcls
  have I1:Inv X pins σ' H0 s0:=Fa I0
  have frn:∀b∈frs (X.env::X.outer),H' b=none:=fun b hb=>by
   have:=I1.stkFree b (by rw[hstk];exact hb)
   obtain⟨o,e1,_⟩:=(I1.stack.mem (by rw[hstk];exact hb)).2
   exact u.free b o e1 this (by simp)
  have frg:∀b∈frs (X.env::X.outer),¬(s0.heap.get? b=none∧H' b=none):=fun b hb z=>by
   obtain⟨o,e1,_⟩:=(I1.stack.mem (by rw[hstk];exact hb)).2
   rw[e1] at z;cases z.1
  have I2:Inv X pins σ' H' s':=I1.call' (ch:=[]) ho u ok hga (fun b hb=>by simp at hb)
  have fl:s'.heap.FunFrames X.base (X.env::X.outer):=by have:=I2.stack;rwa [hstk] at this
  have hfm:X.A.frames=some (X.env::X.outer):=by rw[I1.ok.frames,hstk]
  have none_:∀b,s'.heap.get? b=none→s0.heap.get? b=none∧H' b=none:=fun b q=>by
   constructor
   ·cases q2:s0.heap.get? b with
    | none=>rfl
    | some o =>
      obtain⟨o',e1⟩:=u.there b o q2 (by simp)
      rw[q] at e1;cases e1
   ·cases q2:H' b with
    | none=>rfl
    | some o =>
      obtain⟨ob,e1⟩:=Kb ok q2
      rw[q] at e1;cases e1
  have back:∀{h':Heap} (t:Nat),Aside (frs (X.env::X.outer)) (fun b=>s0.heap.get? b=none∧H' b=none) s'.heap h'→Inv X pins σ' H' { s' with heap:=h',toks:=t }:=fun{h'} t as=>by
   refine I1.call' (s':={ s' with heap:=h',toks:=t }) (ch:=[]) ho ?_ (Ox ok as frn fun b z=>z.2) hga (fun b hb=>by simp at hb)
   have u':Un (frs X.stack) [] H0 H' s0.heap s'.heap:=u
   exact R7 u' as (fun b o e1 z=>by rw[e1] at z;cases z.1) (fun b o e1 m=>by rw[hstk];exact m) frn
  refine Jfp (base:=X.base) (L:=X.env.locals) hfm fl hfr xt none_ fun h1 x1 as1=>?_
  have J1:=back s'.toks as1
  obtain⟨oe,vs,a0,T,oT,ts',b1,b2,b3,_⟩:=x1.2
  refine wpAny_handleBy_cons (codeAny_handlers_test (Gp (X:=inX X ex) (Xt J1) hg cD.mg ?_ hd)) (by intro q;cases q)
  refine Jet J1.kIn cD.ex hsub b1 b2 ?_
  refine codeAny_handlers_suite (Jfq (s:={ s' with heap:=h1 }) x1 frg fun h2 x2 as2=>?_)
  have J2:=back s'.toks (as1.trans as2)
  refine wpAny_mono (hs ex pins _ _ _ E (Xt J2) hE) (fun f s5 q=>?_) fun _ _ z=>z.elim
  cases f with
  | next=>obtain⟨σ5,H5,J5,q5⟩:=q;exact⟨_,H5,Lh J5 J2.ok,q5⟩
  | brk=>obtain⟨σ5,H5,J5,q5⟩:=q;exact⟨_,H5,Lh J5 J2.ok,q5⟩
  | cont=>obtain⟨σ5,H5,J5,q5⟩:=q;exact⟨_,H5,Lh J5 J2.ok,q5⟩
  | ret v=>obtain⟨v5,σ5,H5,J5,r5,q5⟩:=q;exact⟨v5,_,H5,Lh J5 J2.ok,r5,q5⟩
 ·cases f with
  | next=>obtain⟨σ1,H1,I1,q1⟩:=q;exact wpAny_execs_nil ⟨σ1,H1,Fa I1,q1⟩
  | brk=>obtain⟨σ1,H1,I1,q1⟩:=q;exact⟨σ1,H1,Fa I1,q1⟩
  | cont=>obtain⟨σ1,H1,I1,q1⟩:=q;exact⟨σ1,H1,Fa I1,q1⟩
  | ret v=>obtain⟨v1,σ1,H1,I1,r1,q1⟩:=q;exact⟨v1,σ1,H1,Fa I1,r1,q1⟩
end
end FX
namespace FX
open PySem PySem.Spec PySem.Calls PyProof.Rows L2 Builtin Builtin.ObjectAttr Builtin.Getset_descriptor
set_option maxHeartbeats 400000
section
variable {prog:Program}{w:World}{A:Around}{E:Value→Shared→Prop}{s:Shared}{K:W.Frag}{x C:Addr}
end
theorem N8:∀{ds:List Addr} {its:List Value},Vals (ds.map V.ref) its→its=ds.map Value.ref
 | [],_,.nil=>rfl
 | d::ds,_,.cons h1 h2=>by
   cases h1
   rw[N8 h2];rfl
section
variable {X:Cx}
end
end FX
namespace FX
open PySem PySem.Spec PyProof.Rows L2
theorem FnOk.no{P:Program}{w:World}{K:W.Frag}{mg:Str→Option Value}{base:Heap}{k:Nat}{f:Addr}{fd:FuncData}{ps:List Str}{sp:Sp}(F:FnOk P w K mg base (CX1 P w) k f fd ps sp):FnOk P w K mg base CX0 k f fd ps (fun vs H Q _=>sp vs H Q E0) :=
 ⟨fun vs H Q E q=>F.len vs H Q E0 q,fun A outer s H args us vs Q E hr he hb hv hs=>codeAny_mono (F.run A outer s H args us vs Q E0 hr he hb hv hs) fun r s' h=>by
  cases r with
  | ok fl=>cases fl<;>exact h
  | error e=>obtain⟨_,_,_,_,_,z,_⟩:=h;exact z.elim⟩
end FX
namespace FX
open PySem L2
end FX
namespace FX
open PySem PySem.Spec PyProof.Rows L2
def ItW(h:Heap)(it d:Addr)(i n ep:Nat):Prop :=
 ∃(own ok ov:Value)(f:Bool),(own=.none∨∃a:Nat,own=rawInt a)∧h.get? it=some { cls:=.type "dict_itemiterator",dict:=none,data:=.fields #[own,.bool f,.ref d,.int i 0,.int n 0,.int ep 0,ok,ov],slots:=#[] }
def U3(h:Heap)(a:Addr)(k v:Value):Prop:=h.get? a=some { cls:=.type "tuple",data:=.seq #[k,v] }
section
variable {prog:Program}{w:World}{A:Around}{E:Value→Shared→Prop}{s:Shared}{it d:Addr}{i n ep:Nat}
theorem ItW.ty(x:ItW s.heap it d i n ep):s.TypeIs (.ref it) "dict_itemiterator":=let⟨_,_,_,_,_,e⟩:=x;⟨_,e,rfl⟩
theorem ItW.to{h h':Heap}(x:ItW h it d i n ep)(k:∀o,h.get? it=some o→h'.get? it=some o):ItW h' it d i n ep:=let⟨a,b,c,f,g,e⟩:=x;⟨a,b,c,f,g,k _ e⟩
theorem Jeg{a:Addr}{Q:Option Obj→Shared→Prop}(h:Q (s.heap.get? a) s):wpAny (model prog w) A (loadIfAlive a) Q E s:=fun _ _ _=>h
theorem Z0{Q:Value→Shared→Prop}(h:∀h' e,Shared.TypeIs { s with heap:=h' } (.ref e) "StopIteration"→(∀b o,s.heap.get? b=some o→h'.get? b=some o)→Q (.ref e) { s with heap:=h' }):wpAny (model prog w) A (newExc (.type "StopIteration") []) Q E s:=by
 have first:firstArgMember (.type "StopIteration") []=pure .none:=by
  unfold firstArgMember
  cases (Manifest.find? "StopIteration").elim false fun t=>t.mro.contains "StopIteration" || t.mro.contains "SystemExit" <;> rfl
 unfold newExc newTuple
 rw[first]
 refine ZR (wpAny_newObj_type (ZR (ZS (wpAny_newObj_type (h _ _ ⟨_,ZU _ rfl,rfl⟩ fun b o e=>ZT _ (ZT _ e)) (by size_fits)))) (by size_fits))
theorem Jau{k v:Value}{Q:Value→Shared→Prop}(hw:ItW s.heap it d i n ep)(hQ:∀h',ItW h' it d i n ep→U3 h' s.heap.objs.size k v→(∀b o,b≠it→s.heap.get? b=some o→h'.get? b=some o)→Q (.ref s.heap.objs.size) { s with heap:=h' }) :
 wpAny (model prog w) A (Builtin.Dict_items.pairFromOwner (.ref it) 6 k v) Q E s:=by
 obtain⟨own,ok,ov,f,ho,e0⟩:=hw
 have il:it<s.heap.objs.size:=Heap.lt_size e0
 have inew:s.heap.objs.size≠it:=Nat.ne_of_gt il
 obtain⟨h1,eh⟩:∃h1,h1=s.heap.push { cls:=.type "tuple",data:=.seq ([k,v]:List Value).toArray }:=⟨_,rfl⟩
 have p1:U3 h1 s.heap.objs.size k v:=by rw[eh];exact ZU _ rfl
 have k1:∀b o,s.heap.get? b=some o→h1.get? b=some o:=fun b o e=>by rw[eh];exact ZT _ e
 have e1:=k1 it _ e0
 have fin:∀h2,ItW h2 it d i n ep→Heap.SameBut it h1 h2→Q (.ref s.heap.objs.size) { s with heap:=h2 }:=fun h2 x y =>
  hQ h2 x ((y.2 _ inew).trans p1) fun b o hb e=>(y.2 b hb).trans (k1 b o e)
 have free:wpAny (model prog w) A (do
  let old:=[←field (.ref it) 6,←field (.ref it) (6+1)]
  setField (.ref it) 6 k;setField (.ref it) (6+1) v
  setField (.ref it) 0 (rawInt s.heap.objs.size);setField (.ref it) 1 (.bool false)
  letGo old [.ref s.heap.objs.size]
  return .ref s.heap.objs.size) Q E { s with heap:=h1 }:=by
  refine ZR (wpAny_field (x:=ok) e1 rfl rfl (ZR (wpAny_field (x:=ov) e1 rfl rfl ?_)))
  refine ZR (wpAny_setField_rec e1 (by simp) fun g2 q2 b2=>ZR (wpAny_setField_rec q2 (by simp) fun g3 q3 b3=>ZR (wpAny_setField_rec q3 (by simp) fun g4 q4 b4=>ZR (wpAny_setField_rec q4 (by simp) fun g5 q5 b5=>?_))))
  refine ZR (wpAny_letGo (ZS (fin g5 ⟨_,_,_,_,.inr ⟨s.heap.objs.size,rfl⟩,q5⟩ ⟨?_,fun b hb=>?_⟩)))
  ·rw[b5.1,b4.1,b3.1,b2.1]
  ·rw[b5.2 b hb,b4.2 b hb,b3.2 b hb,b2.2 b hb]
 unfold Builtin.Dict_items.pairFromOwner
 refine ZR (wpAny_newTuple ?_)
 rw[←eh]
 refine ZR ?_
 unfold Builtin.Dict_items.ownedTupleIsFree
 refine ZR (wpAny_field (x:=own) e1 rfl rfl ?_)
 rcases ho with rfl|⟨a,rfl⟩
 ·exact ZS free
 ·show wpAny _ _ (loadIfAlive ((a:Int).toNat) >>= _) _ _ _
  refine ZR (Jeg ?_)
  cases ha:h1.get? (a:Int).toNat with
  | none=>exact ZS free
  | some oa =>
    refine ZR (wpAny_field (x:=.bool f) e1 rfl rfl ?_)
    cases f with
    | true=>exact ZS (ZS (fin h1 ⟨_,_,_,_,.inr ⟨a,rfl⟩,e1⟩ (Heap.SameBut.refl _ _)))
    | false=>exact ZR (wpAny_setField_rec e1 (by simp) fun g2 q2 b2=>ZS (ZS (fin g2 ⟨_,_,_,_,.inr ⟨a,rfl⟩,q2⟩ b2)))
theorem V1{v:Addr}{es:Array DictEntry}{Q:Value→Shared→Prop}(hv:s.heap.IsItemsView v d)(hm:RawD s.heap d es ep)(hQ:∀h',ItW h' s.heap.objs.size d 0 es.size ep→(∀b o,s.heap.get? b=some o→h'.get? b=some o)→Q (.ref s.heap.objs.size) { s with heap:=h' }):wpAny (model prog w) A (pyIter (.ref v)) Q E s:=by
 obtain⟨o1,e1,c1,f1⟩:=id hv
 obtain⟨o2,e2,c2,f2⟩:=hm
 refine wpAny_pyIter_slot hv.typeIs F.slot_dict_items_iter (wpAny_call_entry F.slot_dict_items_iter hv.typeIs F.entry_dict_items_iter ?_ (F.args_dict_items_iter_1 _))
 unfold Builtin.«dict_items.__iter__» Builtin.Dict_items.dictOf Builtin.Dict_items.newIterator
 refine ZR (ZS (ZR (ZR (wpAny_field (x:=.ref d) e1 f1 rfl (ZS (ZR (ZR (wpAny_dictEntries e2 f2 (ZR (wpAny_dictEpoch e2 f2 ?_))))))))))
 have own:Builtin.Dict_items.ownsTuple "dict_itemiterator"=true:=by decide
 simp only[own,if_true,Bool.false_eq_true,if_false]
 refine wpAny_newObj_type (ZS ⟨_,rfl,"dict_itemiterator",_,⟨_,ZU _ rfl,rfl⟩,F.slot_dict_itemiterator_next.lookup,?_⟩) (by simp[sizeOk,Builtin.Dict_items.ownedTupleFields,sizeLine_eq])
 exact hQ _ ⟨.none,.none,.none,false,.inl rfl,(ZU _ rfl).trans (by simp[rawInt,Builtin.Dict_items.ownedTupleFields])⟩ fun b o e=>ZT _ e
theorem V0{es:Array DictEntry}{Q:Option Value→Shared→Prop}(hw:ItW s.heap it d i es.size ep)(hm:RawD s.heap d es ep)(hi:i<es.size)(hQ:∀h',ItW h' it d (i+1) es.size ep→U3 h' s.heap.objs.size es[i].key es[i].val→(∀b o,b≠it→s.heap.get? b=some o→h'.get? b=some o)→Q (some (.ref s.heap.objs.size)) { s with heap:=h' }):wpAny (model prog w) A (pyNext (.ref it)) Q E s:=by
 have ty:=hw.ty
 obtain⟨own,ok,ov,f,ho,e0⟩:=hw
 obtain⟨o2,e2,c2,f2⟩:=hm
 have owns:Builtin.Dict_items.ownsTuple "dict_itemiterator"=true:=by decide
 unfold pyNext
 refine ZR (wpAny_attempt (wpAny_callSpecial?_slot (name:=Str.ofString "__next__") ty F.slot_dict_itemiterator_next (wpAny_call_entry F.slot_dict_itemiterator_next ty F.entry_dict_itemiterator_next (ZR (ZS (ZR ?_))) (F.args_dict_itemiterator_next_1 _))))
 refine ZR (ZR (wpAny_typeNameOfWhole_itemiter ty (ZS (ZR (wpAny_fieldsOf e0 rfl ?_)))))
 simp only[owns,if_true]
 refine(show wpAny (model prog w) _ (if(Value.ref d==Value.none)=true then _ else _) _ _ s from ?_)
 rw[if_neg (show ¬((Value.ref d==Value.none)=true) from Bool.false_ne_true)]
 refine ZR (ZS (ZR (wpAny_dictEntries e2 f2 ?_)))
 rw[if_neg (by simp)]
 refine ZR (ZS (ZR (wpAny_dictEpoch e2 f2 ?_)))
 rw[if_neg (by simp)]
 refine ZS ?_
 simp only[show ¬((i:Int)<0) by lia,if_false,Int.toNat_natCast,Array.getElem?_eq_getElem hi]
 refine ZR (ZR (wpAny_typeNameOfWhole_itemiter ty (ZS (ZR (wpAny_isOneOf_itemiter ty ?_)))))
 refine(show wpAny (model prog w) _ (setField (.ref it) 3 (rawInt ((i:Int)+1)) >>= _) _ _ s from ?_)
 refine ZR (wpAny_setField_rec e0 (by simp) fun h1 q1 b1=>?_)
 have w1:ItW h1 it d (i+1) es.size ep:=⟨own,ok,ov,f,ho,by rw[show((i+1:Nat):Int)=(i:Int)+1 by lia];simpa [rawInt] using q1⟩
 have ty1:Shared.TypeIs { s with heap:=h1 } (.ref it) "dict_itemiterator":=ItW.ty (s:={ s with heap:=h1 }) w1
 refine ZR (wpAny_holding (ZR (wpAny_isOneOf_itemiter ty1 (ZR (wpAny_isOneOf_itemiter ty1 ?_)))))
 refine Jau (s:={ s with heap:=h1 }) w1 fun h2 w2 p2 k2=>?_
 have z1:h1.objs.size=s.heap.objs.size:=b1.1
 dsimp only at p2 k2 ⊢
 rw[z1] at p2 ⊢
 exact ZS ⟨_,rfl,ZS (hQ h2 w2 p2 fun b o hb e=>k2 b o hb ((b1.2 b hb).trans e))⟩
theorem Y4{es:Array DictEntry}{Q:Option Value→Shared→Prop}(hh:A.handled=none)(hw:ItW s.heap it d i es.size ep)(hm:RawD s.heap d es ep)(hi:es.size≤i)(hQ:∀h',(∀b o,b≠it→s.heap.get? b=some o→h'.get? b=some o)→Q none { s with heap:=h' }):wpAny (model prog w) A (pyNext (.ref it)) Q E s:=by
 have ty:=hw.ty
 obtain⟨own,ok,ov,f,ho,e0⟩:=hw
 obtain⟨o2,e2,c2,f2⟩:=hm
 have owns:Builtin.Dict_items.ownsTuple "dict_itemiterator"=true:=by decide
 unfold pyNext
 refine ZR (wpAny_attempt (wpAny_callSpecial?_slot (name:=Str.ofString "__next__") ty F.slot_dict_itemiterator_next (wpAny_call_entry F.slot_dict_itemiterator_next ty F.entry_dict_itemiterator_next (ZR (ZS (ZR ?_))) (F.args_dict_itemiterator_next_1 _))))
 refine ZR (ZR (wpAny_typeNameOfWhole_itemiter ty (ZS (ZR (wpAny_fieldsOf e0 rfl ?_)))))
 simp only[owns,if_true]
 refine(show wpAny (model prog w) _ (if(Value.ref d==Value.none)=true then _ else _) _ _ s from ?_)
 rw[if_neg (show ¬((Value.ref d==Value.none)=true) from Bool.false_ne_true)]
 refine ZR (ZS (ZR (wpAny_dictEntries e2 f2 ?_)))
 rw[if_neg (by simp)]
 refine ZR (ZS (ZR (wpAny_dictEpoch e2 f2 ?_)))
 rw[if_neg (by simp)]
 refine ZS ?_
 simp only[show ¬((i:Int)<0) by lia,if_false,Int.toNat_natCast,Array.getElem?_eq_none hi]
 refine ZR (ZR (wpAny_typeNameOfWhole_itemiter ty (ZS ?_)))
 refine ZR (wpAny_setField_rec (k:=2) e0 (by simp) fun h1 q1 b1=>?_)
 refine ZR (Z0 fun h2 x t2 k2=>wpAny_raiseNew_none hh (ZR (wpAny_isInstance t2 isSubtype_stop (ZS (hQ h2 fun b o hb e=>k2 b o ((b1.2 b hb).trans e))))))
end
def Prs(h:Heap)(it:Addr)(es:Array DictEntry)(as:List Addr):Prop:=∀(j:Nat)(a:Addr),as[j]?=some a→it<a∧∃e:DictEntry,es[j]?=some e∧U3 h a e.key e.val
theorem Prs.to{h h':Heap}{it:Addr}{es:Array DictEntry}{as:List Addr}(x:Prs h it es as)(k:∀b o,it<b→h.get? b=some o→h'.get? b=some o):Prs h' it es as :=
 fun j a e=>let⟨l,d,e1,e2⟩:=x j a e;⟨l,d,e1,k a _ l e2⟩
theorem Jit{h:Heap}{it a:Addr}{es:Array DictEntry}{as:List Addr}(x:Prs h it es as)(hi:as.length<es.size)(l:it<a)(p:U3 h a es[as.length].key es[as.length].val):Prs h it es (as++[a]):=fun j b e=>by
 rcases Nat.lt_trichotomy j as.length with hj|hj|hj
 ·rw[List.getElem?_append_left hj] at e;exact x j b e
 ·subst hj
  have e':a=b:=by simpa using e
  subst e'
  exact⟨l,_,by simp[hi],p⟩
 ·rw[List.getElem?_eq_none (by simp;lia)] at e;cases e
section
variable {prog:Program}{w:World}{A:Around}{R:Result→Shared→Prop}{S it d:Addr}{ep:Nat}{es:Array DictEntry}
theorem Mu(hh:A.handled=none)(l1:S<it)(n1:d≠S)(n2:d≠it)(hz:es.size≤sizeLine)(res:Value) :
 ∀(k:Nat)(s:Shared)(as:List Addr)(c:Nat),as.length+k=es.size→ItW s.heap it d as.length es.size ep→RawD s.heap d es ep→s.heap.get? S=some (seqObj "list" (as.map Value.ref).toArray c)→Prs s.heap it es as→as.Nodup →
  (∀h' as' c',as'.length=es.size→as'.Nodup→(∀b o,b≠S→b≠it→s.heap.get? b=some o→h'.get? b=some o)→h'.get? S=some (seqObj "list" (as'.map Value.ref).toArray c')→Prs h' it es as'→R (.ok (.ret res)) { s with heap:=h' }) →
  codeAny (model prog w) A (.builtin "list.extend.loop" ⟨[.ref S,.ref it,res],[]⟩) R s
 | 0,s,as,c,hk,iw,rd,hS,ps,nd,q=>by
   refine codeAny_builtin PySem.F.entry_extend_loop ?_
   rw[Around.under_plainId PySem.F.plain_extend_loop _]
   refine(ZR (m:=pyNext (.ref it)) (Y4 hh iw rd (by lia) fun h' kp=>ZS (q h' as c (by lia) nd (fun b o _ hb e=>kp b o hb e) (kp S _ (Nat.ne_of_lt l1) hS) (ps.to fun b o hb e=>kp b o (Nat.ne_of_gt hb) e))))
 | k+1,s,as,c,hk,iw,rd,hS,ps,nd,q=>by
   have hi:as.length<es.size:=by lia
   have al:it<s.heap.objs.size:=let⟨_,_,_,_,_,e⟩:=iw;Heap.lt_size e
   refine codeAny_builtin PySem.F.entry_extend_loop ?_
   rw[Around.under_plainId PySem.F.plain_extend_loop _]
   refine ZR (m:=pyNext (.ref it)) (V0 iw rd hi fun h1 iw1 p1 k1=>?_)
   have hS1:=k1 S _ (Nat.ne_of_lt l1) hS
   have sz:(as.map Value.ref).toArray.size=as.length:=by simp
   refine ZR (m:=updateSeq S (·.push (Value.ref s.heap.objs.size))) (wpAny_updateSeq hS1 rfl (ZS ⟨plainId_quiet PySem.F.plain_extend_loop _,?_⟩) (by rw[sz];lia) (by rw[Array.size_push,sz];lia))
   have up:∀b o,b≠S→h1.get? b=some o→(h1.update S (Obj.mapSeq (·.push (Value.ref s.heap.objs.size)))).get? b=some o:=fun b o hb e=>(Heap.get?_update_other _ _ (Ne.symm hb)).trans e
   refine Mu hh l1 n1 n2 hz res k { s with heap:=h1.update S (Obj.mapSeq (·.push (Value.ref s.heap.objs.size))) } (as++[s.heap.objs.size]) (c+1) (by simp;lia) (by rw[ZE];exact iw1.to fun o e=>up it o (Nat.ne_of_gt l1) e) (rd.at fun o e=>up d o n1 (k1 d o n2 e)) ?_ ?_ ?_ fun h' as' c' a1 a0 a2 a3 a4=>q h' as' c' a1 a0 (fun b o hb hc e=>a2 b o hb hc (up b o hb (k1 b o hc e))) a3 a4
   ·refine(get?_update_seq hS1 _).trans ?_
    simp[seqObj]
   ·exact Jit (ps.to fun b o hb e=>up b o (Nat.ne_of_gt (Nat.lt_trans l1 hb)) (k1 b o (Nat.ne_of_gt hb) e)) hi al (up _ _ (Nat.ne_of_gt (Nat.lt_trans l1 al)) p1)
   ·refine List.nodup_append.mpr ⟨nd,by simp,fun a ha b hb z=>?_⟩
    have e:b=s.heap.objs.size:=by simpa using hb
    obtain⟨j,hj⟩:=List.mem_iff_getElem?.mp ha
    obtain⟨_,_,_,e2⟩:=ps j a hj
    exact absurd (Heap.lt_size e2) (by rw[z,e];exact Nat.lt_irrefl _)
end
section
variable {prog:Program}{w:World}{A:Around}{E:Value→Shared→Prop}{s:Shared}{v d:Addr}{ep:Nat}{es:Array DictEntry}
theorem N6{R:List Value→Shared→Prop}(hh:A.handled=none)(hv:s.heap.IsItemsView v d)(hm:RawD s.heap d es ep)(hz:es.size≤sizeLine)(h:∀h' as it,as.length=es.size→as.Nodup→s.heap.objs.size≤it→(∀b o,s.heap.get? b=some o→h'.get? b=some o)→Prs h' it es as→R (as.map Value.ref) { s with heap:=h' }) :
 wpAny (model prog w) A (collect (.ref v)) R E s:=by
 have lv:v<s.heap.objs.size:=let⟨_,e,_⟩:=hv;Heap.lt_size e
 have ld:d<s.heap.objs.size:=let⟨_,e,_⟩:=hm;Heap.lt_size e
 unfold collect
 refine ZR (wpAny_runValue (codeAny_builtin PySem.F.entry_proto_collect ?_))
 rw[Around.under_plainId PySem.F.plain_proto_collect _]
 refine ZR (m:=newList []) (wpAny_newObj_type (ZS ⟨plainId_quiet PySem.F.plain_list_iadd _,codeAny_builtin PySem.F.entry_list_iadd ?_⟩) (by size_fits))
 rw[Around.under_plainId PySem.F.plain_list_iadd _]
 generalize hS0:s.heap.push { cls:=.type "list",data:=.seq ([]:List Value).toArray }=h0
 have gS:h0.get? s.heap.objs.size=some (seqObj "list" #[] 0):=by rw[←hS0];exact ZU _ rfl
 have k0:∀b o,s.heap.get? b=some o→h0.get? b=some o:=fun b o e=>by rw[←hS0];exact ZT _ e
 have hv0:h0.IsItemsView v d:=let⟨o,e,r⟩:=hv;⟨o,k0 v o e,r⟩
 have hm0:RawD h0 d es ep:=hm.at fun o e=>k0 d o e
 have z0:h0.objs.size=s.heap.objs.size+1:=by rw[←hS0,Heap.size_push]
 have low:∀b o,s.heap.get? b=some o→b<s.heap.objs.size:=fun b o e=>Heap.lt_size e
 obtain⟨S,hS⟩:∃S:Addr,S=s.heap.objs.size:=⟨_,rfl⟩
 rw[←hS] at gS z0 lv ld low ⊢
 have lS:S<h0.objs.size:=by rw[z0];exact Nat.lt_succ_self _
 refine(show wpAny (model prog w) _ (Builtin.List.listExtendWith (.ref S) (.ref v) (.ref S)) _ _ { s with heap:=h0 } from ?_)
 have fin:∀(R':Result→Shared→Prop),(∀h' as' c',as'.length=es.size→as'.Nodup→(∀b o,s.heap.get? b=some o→h'.get? b=some o)→h'.get? S=some (seqObj "list" (as'.map Value.ref).toArray c')→Prs h' h0.objs.size es as'→R' (.ok (.ret (.ref S))) { s with heap:=h' }) →
  ∀h1 c1,ItW h1 h0.objs.size d 0 es.size ep→RawD h1 d es ep→h1.get? S=some (seqObj "list" #[] c1)→(∀b o,s.heap.get? b=some o→h1.get? b=some o)→codeAny (model prog w) A (.builtin "list.extend.loop" ⟨[.ref S,.ref h0.objs.size,.ref S],[]⟩) R' { s with heap:=h1 }:=fun R' q h1 c1 a1 a2 a3 a4 =>
  Mu hh lS (Nat.ne_of_lt ld) (Nat.ne_of_lt (Nat.lt_trans ld lS)) hz _ es.size { s with heap:=h1 } [] c1 (by simp) a1 a2 (by simpa using a3) (fun j a e=>by simp at e) List.nodup_nil fun h' as' c' q1 q0 q2 q3 q4=>q h' as' c' q1 q0 (fun b o e=>q2 b o (Nat.ne_of_lt (low b o e)) (Nat.ne_of_lt (Nat.lt_trans (low b o e) lS)) (a4 b o e)) q3 q4
 unfold Builtin.List.listExtendWith
 refine ZR (wpAny_typeOf (T:="dict_items") (Heap.IsItemsView.typeIs (s:={ s with heap:=h0 }) hv0) ?_)
 have n1:Builtin.List.listSameRef (.ref S) (.ref v)=false:=by simp[Builtin.List.listSameRef,Nat.ne_of_gt lv]
 have n2:(Value.type "dict_items" == Value.type "list")=false:=by decide
 have n3:(Value.type "dict_items" == Value.type "tuple")=false:=by decide
 simp only[n1,n2,n3,Bool.or_false,Bool.false_eq_true,if_false]
 refine ZR (V1 (s:={ s with heap:=h0 }) hv0 hm0 fun h1 iw k1=>?_)
 refine ZR (wpAny_holding (W.kdx_hint (s:={ s with heap:=h1 }) (let⟨o,e,c,_⟩:=hv0;⟨o,k1 v o e,c⟩) ?_))
 have gS1:=k1 _ _ gS
 have loop:∀h2 c2,(∀b o,b≠S→h1.get? b=some o→h2.get? b=some o)→h2.get? S=some (seqObj "list" #[] c2) →
  codeAny (model prog w) A (.builtin "list.extend.loop" ⟨[.ref S,.ref h0.objs.size,.ref S],[]⟩) (fun q s'=>∃h' as' c',q=.ok (.ret (.ref S))∧s'={ s with heap:=h' }∧as'.length=es.size∧as'.Nodup∧(∀b o,s.heap.get? b=some o→h'.get? b=some o)∧h'.get? S=some (seqObj "list" (as'.map Value.ref).toArray c')∧Prs h' h0.objs.size es as') { s with heap:=h2 }:=fun h2 c2 k2 g2 =>
  fin _ (fun h' as' c' a1 a0 a2 a3 a4=>⟨h',as',c',rfl,rfl,a1,a0,a2,a3,a4⟩) h2 c2 (iw.to fun o e=>k2 _ o (Nat.ne_of_gt lS) e) (hm0.at fun o e=>k2 d o (Nat.ne_of_lt ld) (k1 d o e)) g2 fun b o e=>k2 b o (Nat.ne_of_lt (low b o e)) (k1 b o (k0 b o e))
 refine wpAny_ite_split (fun _=>?_) (fun _=>ZS ⟨plainId_quiet PySem.F.plain_extend_loop _,?_⟩)
 ·refine ZR (wpAny_rule (ZR (m:=updateSeq S (·.push .none) >>= fun _=>updateSeq S (·.pop)) (ZR (wpAny_updateSeq gS1 rfl (wpAny_updateSeq (get?_update_seq gS1 _) rfl (ZS ⟨plainId_quiet PySem.F.plain_extend_loop _,?_⟩) ?_ ?_) ?_ ?_))))
  ·refine codeAny_mono (loop _ _ (fun b o hb e=>(Heap.get?_update_other _ _ (Ne.symm hb)).trans ((Heap.get?_update_other _ _ (Ne.symm hb)).trans e)) (get?_update_seq (get?_update_seq gS1 _) _)) fun q s' y=>?_
   obtain⟨h',as',c',rfl,rfl,a1,a0,a2,a3,a4⟩:=y
   refine ZR (m:=load S) (wpAny_load a3 (ZS ?_))
   exact h h' as' _ a1 a0 (by rw[←hS];exact Nat.le_of_lt lS) a2 a4
  all_goals (simp[seqObj,sizeLine_eq])
 ·refine codeAny_mono (loop h1 0 (fun b o _ e=>e) gS1) fun q s' y=>?_
  obtain⟨h',as',c',rfl,rfl,a1,a0,a2,a3,a4⟩:=y
  refine ZR (m:=load S) (wpAny_load a3 (ZS ?_))
  exact h h' as' _ a1 a0 (by rw[←hS];exact Nat.le_of_lt lS) a2 a4
end
section
variable {prog:Program}{w:World}{A:Around}{E:Value→Shared→Prop}{s:Shared}
theorem Mx:∀{vs:List Value} {ns:List Int},IntsAre vs ns→ItemsAre (intKind prog w) ns vs
 | _,_,.nil=>.nil
 | _,_,.cons n t r=>.cons (intKind_is prog w n t) (Mx r)
theorem Wj{h:Heap}{a:Addr}{its:Array Value}{ns:List Int}(x:IsTup h a its)(y:IntsAre its.toList ns):IsTupleKey (intKind prog w) h ns a :=
 let⟨o,ho,hc,n,hd⟩:=x;⟨o,its,n,ho,hc,hd,Mx y⟩
def PairAt(h:Heap)(a:Addr)(q:List Int×Int):Prop:=∃ka its t,U3 h a (.ref ka) (.int q.2 t)∧IsTup h ka its∧IntsAre its.toList q.1
theorem PairAt.to{h h':Heap}{a:Addr}{q:List Int×Int}(k:∀b o,h.get? b=some o→o.cls=.type "tuple"→h'.get? b=some o)(x:PairAt h a q):PairAt h' a q :=
 let⟨ka,its,t,e1,⟨o,ho,hc,r⟩,e3⟩:=x;⟨ka,its,t,k _ _ e1 rfl,⟨o,k ka o ho hc,hc,r⟩,e3⟩
theorem Jc5{a b:Addr}{p q:List Int×Int}{C:Bool→Shared→Prop}(hu:A.units<cLine)(x:PairAt s.heap a p)(y:PairAt s.heap b q)(same:p.1=q.1→p.2=q.2)(h:C (HT.lexLt p.1 q.1) s) :
 wpAny (model prog w) A (keyLt' (tuples' false) (.ref a) (.ref b)) C (fun _ _=>False) s:=by
 obtain⟨ka,its,t,e1,e2,e3⟩:=x
 obtain⟨kb,jts,u,f1,f2,f3⟩:=y
 refine W.kat_lt e1 rfl f1 rfl (W.kat_cons (wpAny_eqBool_tuple hu (Wj e2 e3) (Wj f2 f3) (W.kat_go (fun e=>W.kat_yes (W.kat_cons (wpAny_eqBool_int (W.kat_go (fun _=>W.kat_yes (W.kat_nil ?_)) fun z=>?_)))) fun e=>W.kat_no (W.kat_one _ _ (HT.lt_tupInts e2 f2 e3 f3 hu h)))))
 ·have e:=of_decide_eq_true e
  rw[e,Lg] at h
  exact h
 ·rw[same (of_decide_eq_true e)] at z
  simp at z
def Gx(h:Heap):List Addr→List (List Int×Int)→Prop:=Paired (PairAt h)
theorem Iv{h:Heap}:∀{as:List Addr} {L:List (List Int×Int)},Gx h as L→∃fs:List Value,W.KatTups h (as.map Value.ref) fs∧fs.length=as.length∧∀v∈fs,∃ka its,v=Value.ref ka∧IsTup h ka its
 | _,_,.nil=>⟨[],trivial,rfl,fun v hv=>by simp at hv⟩
 | _,_,.cons ⟨ka,its,t,e1,e2,e3⟩ r=>by
   obtain⟨fs,a1,a2,a3⟩:=Iv r
   refine⟨.ref ka::fs,W.KatTups.cons e1 rfl rfl rfl a1,by simp[a2],fun v hv=>?_⟩
   rcases ZM hv with rfl|hv
   ·exact⟨ka,its,rfl,e2⟩
   ·exact a3 v hv
theorem Oj{h:Heap}{as:List Addr}{L:List (List Int×Int)}(x:Gx h as L){i:Nat}(hi:i<as.length):∃a q,as[i]?=some a∧L[i]?=some q∧(as.map Value.ref).getD i .none=.ref a∧(L.map (·.1)).getD i []=q.1∧PairAt h a q:=by
 have hl:=Paired.length x
 obtain⟨a,ha⟩:=A1 (xs:=as) (j:=i) hi
 obtain⟨q,hq⟩:=A1 (xs:=L) (j:=i) (by lia)
 refine⟨a,q,ha,hq,?_,?_,A2 x i a q ha hq⟩
 ·rw[List.getD_eq_getElem?_getD,ZH,ha];rfl
 ·rw[List.getD_eq_getElem?_getD,ZH,hq];rfl
theorem T8{a:Addr}{as:List Addr}{L:List (List Int×Int)}{n:Nat}{P:PySem.Fin→Shared→Prop}(hu:A.units<cLine)(ho:s.heap.get? a=some (seqObj "list" (as.map Value.ref).toArray n))(h64:as.length<64)(x:Gx s.heap as L)(nd:(L.map (·.1)).Nodup)(h:∀q:List Nat,q.Perm (List.range as.length)→q.Pairwise (fun i j=>HT.lexLt ((L.map (·.1)).getD i []) ((L.map (·.1)).getD j [])=true)→∀h' c,(∀b o,b≠a→s.heap.get? b=some o→h'.get? b=some o)→h'.get? a=some (seqObj "list" (q.map fun i=>(as.map Value.ref).getD i .none).toArray c)→P (.done (.ret .none)) { s with heap:=h' }) :
 wpAny (model prog w) A (Builtin.«list.sort» ⟨[.ref a],[]⟩) P E s:=by
 have hl:=Paired.length x
 have hml:(as.map Value.ref).length=as.length:=ZA ..
 have key:∀i,i<as.length→∃h:i<(L.map (·.1)).length,(L.map (·.1)).getD i []=(L.map (·.1))[i]:=fun i hi=>⟨by rw[ZA];lia,by simp[show i<L.length by lia]⟩
 have one:∀i j,i<as.length→j<as.length→(L.map (·.1)).getD i []=(L.map (·.1)).getD j []→i=j:=fun i j hi hj e=>by
  obtain⟨l1,e1⟩:=key i hi
  obtain⟨l2,e2⟩:=key j hj
  rw[e1,e2] at e
  exact(List.getElem_inj nd).mp e
 refine Oq (lt:=fun i j=>HT.lexLt ((L.map (·.1)).getD i []) ((L.map (·.1)).getD j [])) ho (by rw[hml];exact h64) ⟨fun i j k _ _ _=>Re,fun i j hi hj hij e=>Rf (fun z=>hij (one i j (by lia) (by lia) z)) e⟩ (fun h2 h' kp Q hQ=>?_) (by rw[hml];exact h)
 have x':Gx h' as L:=Ay (fun b q y=>y.to fun b o e c=>kp b o (fun z=>by rw[z,ho] at e;cases e;exact absurd (show Value.type "list"=Value.type "tuple" from c) (by decide)) e) x
 obtain⟨fs,f1,f2,f3⟩:=Iv x'
 refine W.kat_kind (s:={ s with heap:=h' }) (T:=.type "tuple") f1 (by rw[f2];lia) (fun v hv=>?_) rfl (hQ _ fun i j hi hj C hC=>?_)
 ·obtain⟨ka,its,rfl,o,e,c,_⟩:=f3 v hv
  have z:W.Looks (model prog w) h' (typeOf (.ref ka)) o.cls:=(W.Looks.ld e).andThen .now
  rw[c] at z;exact z
 ·rw[hml] at hi hj
  obtain⟨a1,q1,g1,g2,g3,g4,g5⟩:=Oj x' hi
  obtain⟨a2,q2,k1,k2,k3,k4,k5⟩:=Oj x' hj
  unfold W.kas_ask
  rw[g3,k3]
  dsimp only at hC
  rw[g4,k4] at hC
  refine Jc5 (s:={ s with heap:=h' }) hu g5 k5 (fun z=>?_) hC
  have e:=one i j hi hj (by rw[g4,k4,z])
  subst e
  rw[g2] at k2;cases k2;rfl
end
def lay(H:Hp):List (Addr×List V)→Hp
 | []=>H
 | p::r=>upd (lay H r) p.1 (.tup p.2)
theorem Rh{H:Hp}{b:Addr}:∀{ps:List (Addr×List V)},b∉ps.map (·.1)→lay H ps b=H b
 | [],_=>rfl
 | p::r,h=>by
   have h1:b≠p.1:=fun z=>h (by rw[z];exact ZL ..)
   show(upd (lay H r) p.1 (.tup p.2)) b=_
   rw[Ad h1]
   exact Rh fun z=>h (ZD _ z)
theorem Xn{H:Hp}:∀{ps:List (Addr×List V)},(ps.map (·.1)).Nodup→∀p∈ps,lay H ps p.1=some (.tup p.2)
 | [],_,p,hp=>by cases hp
 | q::r,nd,p,hp=>by
   have nd':=List.nodup_cons.mp nd
   rcases ZM hp with rfl|hp
   ·exact Ab
   ·have ne:p.1≠q.1:=fun z=>nd'.1 (List.mem_map.mpr ⟨p,hp,z⟩)
    show(upd (lay H r) q.1 (.tup q.2)) p.1=_
    rw[Ad ne]
    exact Xn nd'.2 p hp
section
variable {X:Cx}{pins:List (Addr×Obj)}{σ:L2.St}{H:Hp}{s:Shared}
def Jha(X:Cx)(pins:List (Addr×Obj))(a:Addr):Prop:=X.s₀.heap.get? a=none∧a≠X.env.locals∧(∀x c,X.env.cells.lookup x=some c→c≠a)∧∀p∈X.pn++pins,p.1≠a
theorem Jiu{a:Addr}(I:Inv X pins σ H s)(h:s.heap.objs.size≤a):Jha X pins a :=
 let x:=I.fpOk (H':=fun _=>none) h rfl
 ⟨Heap.get?_none_of_le (Nat.le_trans I.sz h),x.2.1,x.2.2.2.2.1,x.2.2.2.2.2⟩
theorem Xu:∀{ps:List (Addr×List V)},Inv X pins σ H s→(ps.map (·.1)).Nodup→(∀p∈ps,Jha X pins p.1∧H p.1=none∧∀H',ObjOk X.prog X.w H' s.heap p.1 (.tup p.2))→Inv X pins σ (lay H ps) s
 | [],I,_,_=>I
 | p::r,I,nd,h=>by
   have nd':=List.nodup_cons.mp nd
   obtain⟨⟨a1,a2,a3,a4⟩,a5,a6⟩:=h p (ZL ..)
   exact Y6 (Xu I nd'.2 fun q hq=>h q (ZD _ hq)) (by rw[Rh nd'.1];exact a5) a1 a2 a3 a4 (a6 _)
end
def RecAt(H:Hp)(a:Addr)(q:T2×Int):Prop:=∃ka,H a=some (.tup [.ref ka,.int q.2])∧H ka=some (.tup (tv q.1))
theorem Jbm{P:Program}{w:World}{H:Hp}{h1:Heap}{n:Nat}:∀{as:List Addr} {L:List (T2×Int)},Paired (fun a q=>n≤a∧∃ka t,U3 h1 a (.ref ka) (.int q.2 t)∧H ka=some (.tup (tv q.1))) as L →
 ∃ps:List (Addr×List V),ps.map (·.1)=as∧(∀p∈ps,n≤p.1∧∀H',ObjOk P w H' h1 p.1 (.tup p.2))∧Paired (fun p q=>∃ka,p.2=[.ref ka,.int q.2]∧H ka=some (.tup (tv q.1))) ps L
 | _,_,.nil=>⟨[],rfl,fun p hp=>by(cases hp),.nil⟩
 | a::_,q::_,.cons ⟨la,ka,t,e1,e2⟩ r=>by
   obtain⟨ps,b1,b2,b3⟩:=Jbm (P:=P) (w:=w) r
   refine⟨(a,[.ref ka,.int q.2])::ps,by rw[List.map_cons,b1],fun p hp=>?_,.cons ⟨ka,rfl,e2⟩ b3⟩
   rcases ZM hp with rfl|hp
   ·exact⟨la,fun H'=>⟨by show 2≤sizeLine;rw[sizeLine_eq];lia,[.ref ka,.int q.2 t],.cons rfl (.cons ⟨t,rfl⟩ .nil),⟨_,e1,rfl,_,rfl⟩⟩⟩
   ·exact b2 p hp
section
variable {X:Cx}
theorem Jj(hc:X.calm=true)(hu:X.A.units+64<cLine):Em X (.builtin "sorted") (fun xs H Q=>∃v d,∃L rs:List (T2×Int),xs=[.ref v]∧H v=some (Ri v d)∧H d=some (Ct L)∧L.length<64∧rs.Perm L∧(rs.map (·.1)).Pairwise lt2 ∧
 ∀(r:Addr)(as:List Addr)(H':Hp),Bp H H'→H r=none→H' r=some (.lst (as.map V.ref))→Paired (RecAt H') as rs→Q (.ref r) H'):=by
 intro pins s σ H xs us Q I rv h
 obtain⟨v,d,L,rs,rfl,hv,hd,h64,pm,pw,q⟩:=h
 obtain⟨u,rfl,rx⟩:=vals1 rv
 cases rx
 obtain⟨z,lo,ys,rel,o,es,ep,g1,g2,g3,g4,g5⟩:=(show ObjOk X.prog X.w H s.heap d (Ct L) from I.hok d _ hd)
 have vw:s.heap.IsItemsView v d:=(I.hok v _ hv).1
 have hes:es.size=ys.length:=size_of_entries g4
 have hyl:ys.length=L.length:=by have:=Paired.length rel;rw[ZA] at this;exact this.symm
 have ent:∀(j:Nat)(e:DictEntry)(q:T2×Int),es[j]?=some e→L[j]?=some q→∃ka t,e.key=.ref ka∧e.val=.int q.2 t∧H ka=some (.tup (tv q.1)):=fun j e q h1 h2=>by
  rw[entry_at g4 j] at h1
  cases hy:ys[j]? with
  | none=>rw[hy] at h1;cases h1
  | some y =>
    rw[hy] at h1
    cases h1
    obtain⟨r1,r2,r3⟩:=A2 rel j (tk q.1,V.int q.2) y (by rw[ZH,h2];rfl) hy
    obtain⟨t,r3⟩:=r3
    exact⟨y.2.1,t,rfl,r3,r2⟩
 have ndL:(L.map (·.1)).Nodup:=(pm.map (·.1)).nodup_iff.mp (List.Pairwise.imp (fun{a b} (h:lt2 a b) (z:a=b)=>by rw[Gm,z] at h;lia) pw)
 refine Calls.call_function_entry kind_sorted plain_sorted entry_sorted (args_sorted1 _) (by
  unfold Builtin.«sorted»
  refine ZR (m:=checkCount "sorted" 1 1 _) (ZS (ZR (N6 (show _ from I.ok.hd hc) vw ⟨o,g1,g2,g3⟩ (by rw[hes,hyl,sizeLine_eq];lia) fun h1 as it hl nda hit kp prs=>?_)))
  have I1:Inv X pins σ H { s with heap:=h1,toks:=s.toks }:=I.kept kp
  have hasL:as.length=L.length:=by lia
  have fct:Paired (fun a q=>s.heap.objs.size≤a∧∃ka t,U3 h1 a (.ref ka) (.int q.2 t)∧H ka=some (.tup (tv q.1))) as L:=Dl hasL fun j a q e1 e2=>by
   obtain⟨la,e,e3,e4⟩:=prs j a e1
   obtain⟨ka,t,k1,k2,k3⟩:=ent j e q e3 e2
   rw[k1,k2] at e4
   exact⟨Nat.le_of_lt (Nat.lt_of_le_of_lt hit la),ka,t,e4,k3⟩
  obtain⟨ps,b1,b2,b3⟩:=Jbm (P:=X.prog) (w:=X.w) fct
  have hno:∀a,s.heap.objs.size≤a→H a=none:=fun a ha=>I.hok.fresh ha
  have I2:Inv X pins σ (lay H ps) { s with heap:=h1,toks:=s.toks }:=Xu I1 (by rw[b1];exact nda) fun p hp=>⟨Jiu I (b2 p hp).1,hno _ (b2 p hp).1,(b2 p hp).2⟩
  have sm:Bp H (lay H ps):=fun b ob e=>by
   rw[Rh (fun z=>?_)]
   ·exact e
   ·obtain⟨p,hp,rfl⟩:=ZN z
    rw[hno _ (b2 p hp).1] at e;cases e
  have rec0:Paired (RecAt (lay H ps)) as L:=by
   rw[←b1]
   refine Dl (by rw[ZA];exact Paired.length b3) fun j a q e1 e2=>?_
   rw[ZH] at e1
   cases hp:ps[j]? with
   | none=>rw[hp] at e1;cases e1
   | some p =>
     rw[hp] at e1
     cases e1
     obtain⟨ka,k1,k2⟩:=A2 b3 j p q hp e2
     exact⟨ka,by rw[Xn (by rw[b1];exact nda) p (ZP hp),k1],sm _ _ k2⟩
  have prs2:Gx h1 as (L.map fun q=>(([q.1.1,q.1.2]:List Int),q.2)):=Dl (by rw[ZA];exact hasL) fun j a q e1 e2=>by
   rw[ZH] at e2
   cases hq:L[j]? with
   | none=>rw[hq] at e2;cases e2
   | some q0 =>
     rw[hq] at e2
     cases e2
     obtain⟨_,ka,t,k1,k2⟩:=A2 fct j a q0 e1 hq
     obtain⟨its,rv,it2,_⟩:=I1.tuple (SqT.of (K:=X.K) k2)
     exact⟨ka,its.toArray,t,k1,it2,by simpa using intsAre_of (ns:=[q0.1.1,q0.1.2]) rv⟩
  have eK:(L.map fun q=>(([q.1.1,q.1.2]:List Int),q.2)).map (·.1)=L.map fun q=>[q.1.1,q.1.2]:=by rw[List.map_map];rfl
  have ndK:((L.map fun q=>(([q.1.1,q.1.2]:List Int),q.2)).map (·.1)).Nodup:=by
   have e:(L.map fun q=>([q.1.1,q.1.2]:List Int))=(L.map (·.1)).map fun t=>[t.1,t.2]:=by rw[List.map_map];rfl
   rw[eK,e]
   exact List.Pairwise.map _ (fun a b h z=>h (by obtain⟨a1,a2⟩:=a;obtain⟨c1,c2⟩:=b;simp at z;rw[z.1,z.2])) ndL
  refine ZR (wpAny_newList ?_ (by rw[ZA,sizeLine_eq];lia))
  have g1:(h1.push (seqObj "list" (as.map Value.ref).toArray 0)).get? h1.objs.size=some (seqObj "list" (as.map Value.ref).toArray 0):=ZU _ rfl
  have prs3:Gx (h1.push (seqObj "list" (as.map Value.ref).toArray 0)) as (L.map fun q=>(([q.1.1,q.1.2]:List Int),q.2)):=Ay (fun a q y=>y.to fun b o e _=>ZT _ e) prs2
  refine ZR (wpAny_holding (wpAny_call_entry slot_list_sort ⟨_,g1,rfl⟩ entry_list_sort (T8 (by show X.A.units+1+1<cLine;lia) g1 (by lia) prs3 ndK fun p pp po h2 c kp2 e=>⟨_,rfl,?_⟩) (args_list_sort _)))
  have hn:H h1.objs.size=none:=I1.hok.fresh (ZG _)
  have hn2:lay H ps h1.objs.size=none:=I2.hok.fresh (ZG _)
  have inr:∀i∈p,i<as.length:=fun i hi=>List.mem_range.mp (pp.mem_iff.mp hi)
  have eR:p.map (fun i=>L.getD i ((0,0),0))=rs:=by
   refine Hm (lt:=fun a b:T2×Int=>lt2 a.1 b.1) (fun a z=>by rw[Gm] at z;lia) (fun a b h1 h2=>by rw[Gm] at h1 h2;lia) ?_ ?_ (by rw[←List.pairwise_map (f:=fun q:T2×Int=>q.1) (R:=lt2)];exact pw)
   ·have e2:(List.range as.length).map (fun i=>L.getD i ((0,0),0))=L:=by
     refine List.ext_getElem? fun j=>?_
     rw[ZH]
     by_cases hj:j<L.length
     ·rw[show(List.range as.length)[j]?=some j by simp[hasL,hj]];simp[hj]
     ·rw[show(List.range as.length)[j]?=none by simp[hasL];lia,List.getElem?_eq_none (by lia)];rfl
    have e7:=pp.map fun i=>L.getD i ((0,0),0)
    rw[e2] at e7
    exact e7.trans pm.symm
   ·rw[List.pairwise_map]
    refine List.Pairwise.imp_of_mem (fun{i j} hi hj z=>?_) po
    have li:=inr i hi
    have lj:=inr j hj
    rw[eK] at z
    simpa [lt2,show i<L.length by lia,show j<L.length by lia] using z
  have eV:(p.map fun i=>(as.map Value.ref).getD i .none)=(p.map fun i=>as.getD i 0).map Value.ref:=by
   rw[List.map_map]
   refine List.map_congr_left fun i hi=>?_
   have:=inr i hi
   simp[this]
  have rec1:Paired (RecAt (upd (lay H ps) h1.objs.size (.lst ((p.map fun i=>as.getD i 0).map V.ref)))) (p.map fun i=>as.getD i 0) rs:=by
   rw[←eR]
   refine Dl (by rw[ZA,ZA]) fun j a q e1 e2=>?_
   rw[ZH] at e1 e2
   cases hp:p[j]? with
   | none=>rw[hp] at e1;cases e1
   | some i =>
     rw[hp] at e1 e2
     cases e1
     cases e2
     have li:=inr i (ZP hp)
     obtain⟨ka,k1,k2⟩:=A2 rec0 i (as.getD i 0) (L.getD i ((0,0),0)) (by simp[li]) (by simp[show i<L.length by lia])
     exact⟨ka,Ah hn2 _ _ k1,Ah hn2 _ _ k2⟩
  refine ZS ⟨_,rfl,.ref h1.objs.size,_,I2.laid (a:=h1.objs.size) (o:=.lst ((p.map fun i=>as.getD i 0).map V.ref)) (t':=s.toks) (fun b o hb=>kp2 b o (Nat.ne_of_lt (Heap.lt_size hb)) (ZT _ hb)) (ZG _) ⟨?_,(p.map fun i=>as.getD i 0).map Value.ref,c,Jw _,?_⟩,rfl,q _ (p.map fun i=>as.getD i 0) _ (Ak sm (Ah hn2)) hn Ab rec1⟩
  ·rw[ZA,ZA,pp.length_eq,List.length_range,sizeLine_eq];lia
  ·rw[←eV];exact e)
end
theorem Mo{α β:Type}(f:α→β):∀(xs:List α)(j:Nat),(xs.map f).eraseIdx j=(xs.eraseIdx j).map f
 | [],_=>rfl
 | _::_,0=>rfl
 | x::xs,j+1=>congrArg (f x :: ·) (Mo f xs j)
section
variable {prog:Program}{w:World}{K:Type}[DecidableEq K]{knd:HeapKind prog w K}{A:Around}{E:Value→Shared→Prop}{s:Shared}
theorem Pq{d a:Addr}{xs:List (K×Addr×Value)}{k:K}{p:Addr×Value}{j:Nat}{Q:Option DictEntry→Shared→Prop}(hu:knd.room A)(hkey:knd.is s.heap k a)(hm:s.heap.DictOfH knd d xs)(hz:xs.length≤sizeLine)(hj:xs[j]?=some (k,p))(hQ:∀h' o es ep,h'.get? d=some o→o.ExactDict→o.data=.dict es ep→es.toList=(xs.eraseIdx j).map (entryOfKey knd)→Heap.SameBut d s.heap h'→Q (some (entryOfKey knd (k,p))) { s with heap:=h',toks:=s.toks+knd.draws k }) :
 wpAny (model prog w) A (Builtin.Dict.takeOut d (.ref a)) Q E s:=by
 obtain⟨o,es,ep,ho,hc,hd,he,his,hn⟩:=hm
 unfold Builtin.Dict.takeOut
 refine wpAny_holding (ZR (knd.pyHash hu hkey (ZR (wpAny_dictFind_heap (s:={ s with toks:=s.toks+knd.draws k }) hu hkey ho hd he his hn (fun no=>absurd hj (no j p)) fun i q hi=>?_))))
 obtain rfl:=idxH_unique hn hi hj
 rw[hj] at hi;cases hi
 refine ZR (wpAny_dictEntries (s:={ s with toks:=s.toks+knd.draws k }) ho hd ?_)
 rw[entry_at he i,hj]
 refine ZR (wpAny_updateDictKeys (hz:=by rw[size_of_entries he];exact hz) (s:={ s with toks:=s.toks+knd.draws k }) ho hd (ZS (hQ _ _ _ _ (Heap.get?_update_self _ ho (Obj.isFreed_of_dict (Obj.data_mapDictKeys hd _))) (hc.mapDictKeys _) (Obj.data_mapDictKeys hd _) ?_ (Heap.SameBut.update ..))))
 have e1:(es.eraseIdxIfInBounds i).toList=es.toList.eraseIdx i:=by simp
 rw[e1,he];exact Mo _ _ _
theorem Jan{d a:Addr}{xs:List (K×Addr×Value)}{k:K}{p:Addr×Value}{j:Nat}{Q:PySem.Fin→Shared→Prop}(hu:knd.room A)(hkey:knd.is s.heap k a)(hm:s.heap.DictOfH knd d xs)(hz:xs.length≤sizeLine)(hj:xs[j]?=some (k,p))(hQ:∀h' o es ep,h'.get? d=some o→o.ExactDict→o.data=.dict es ep→es.toList=(xs.eraseIdx j).map (entryOfKey knd)→Heap.SameBut d s.heap h'→Q (.done (.ret p.2)) { s with heap:=h',toks:=s.toks+knd.draws k }) :
 wpAny (model prog w) A (Builtin.«dict.pop» ⟨[.ref d,.ref a],[]⟩) Q E s:=by
 have ty:=hm.typeIs
 obtain⟨o,es,ep,ho,hc,hd,he,his,hn⟩:=id hm
 have ne:es.isEmpty=false:=by
  have h1:=size_of_entries he
  have h2:j<xs.length:=(ZJ hj).1
  cases h3:es.isEmpty with
  | false=>rfl
  | true=>rw[Array.isEmpty_iff_size_eq_zero] at h3;omega
 unfold Builtin.«dict.pop» Builtin.Dict.keyAndDefault
 refine ZR (ZR (wpAny_notOrdered_dict ty (ZS ?_)))
 dsimp only
 rw[if_neg (show ¬(keyPart (Value.ref a)).isSome=true from Bool.false_ne_true)]
 refine ZR (wpAny_dictEntries ho hd (ZR (ZS ?_)))
 rw[if_neg (by rw[ne];exact Bool.false_ne_true)]
 refine ZR (Pq hu hkey hm hz hj fun h' o' es' ep' a1 a2 a3 a4 a5=>?_)
 exact ZR (wpAny_letGo (ZS (hQ h' o' es' ep' a1 a2 a3 a4 a5)))
end
section
variable {κ:Type}[DecidableEq κ]
theorem Nk:∀{kvs:List (κ×V)} {k:κ} {v:V} {j:Nat},(kvs.map (·.1)).Nodup→kvs[j]?=some (k,v)→C4 kvs k=kvs.eraseIdx j
 | [],_,_,j,_,h=>by simp at h
 | p::r,k,v,0,nd,h=>by
   have h:p=(k,v):=by simpa using h
   have nd':=List.nodup_cons.mp nd
   rw[Zf (by rw[h]),Nl (by rw[h] at nd';exact nd'.1)]
   rfl
 | p::r,k,v,j+1,nd,h=>by
   have h:r[j]?=some (k,v):=by simpa using h
   have nd':=List.nodup_cons.mp nd
   have ne:¬p.1=k:=fun z=>nd'.1 (List.mem_map.mpr ⟨(k,v),ZP h,z.symm⟩)
   rw[O6 ne,Nk nd'.2 h]
   rfl
theorem Wi:∀{kvs:List (κ×V)} {k:κ} {v:V},Cw kvs k=some v→∃j:Nat,kvs[j]?=some (k,v)
 | [],k,v,h=>by cases h
 | p::r,k,v,h=>by
   by_cases e:p.1=k
   ·rw[D2 e] at h
    exact⟨0,by rw[←e,←ZO h];rfl⟩
   ·rw[B6 e] at h
    obtain⟨j,hj⟩:=Wi h
    exact⟨j+1,by simpa using hj⟩
end
section
variable {X:Cx}{pins:List (Addr×Obj)}{σ:L2.St}{H:Hp}{s:Shared}{A:Around}{E:Value→Shared→Prop}{a b:Addr}
theorem Mr:∀{kvs:List (List Key×V)} {xs:List (List Key×Addr×Value)},KT H kvs xs→xs.map (·.1)=kvs.map (·.1)
 | _,_,.nil=>rfl
 | _,_,.cons r t=>by rw[List.map_cons,List.map_cons,Mr t,r.1]
theorem Jfy{kvs:List (List Key×V)}{k:List Key}{v:V}{Q:Value→Shared→Prop}(hu:A.units+1<cLine)(I:Inv X pins σ H s)(e:H a=some (.dT kvs))(eb:H b=some (.tup (k.map kV)))(l:Cw kvs k=some v)(h:∀w' s',Inv X pins σ (upd H a (.dT (C4 kvs k))) s'→RelV v w'→Q w' s'):wpAny (model X.prog X.w) A (call (.builtin "dict.pop") [.ref a,.ref b]) Q E s:=by
 obtain⟨z,hd,xs,rel,dd⟩:=Ni I.hok e
 have hz:xs.length≤sizeLine:=by rw[←Paired.length rel];exact z
 obtain⟨j,hj⟩:=Wi l
 have hjx:j<xs.length:=by rw[←Paired.length rel];exact(ZJ hj).1
 obtain⟨x,hx⟩:=A1 hjx
 obtain⟨r1,r2,r3⟩:=A2 rel j _ _ hj hx
 obtain⟨k',p⟩:=x
 have r1:k=k':=r1
 subst r1
 have nd:(kvs.map (·.1)).Nodup:=by
  obtain⟨_,_,_,_,_,_,_,_,nd⟩:=id dd
  rw[←Mr rel];exact nd
 have ndx:((xs.eraseIdx j).map (·.1)).Nodup:=by
  rw[←Mo,Mr rel];exact nd.sublist (List.eraseIdx_sublist _ _)
 refine wpAny_call_entry PySem.F.slot_dict_pop dd.typeIs PySem.F.entry_dict_pop (Jan (tupleKind_room_in1 hu) (Fk I.hok eb) dd hz hx fun h' o es ep a1 a2 a3 a4 a5=>⟨_,rfl,h _ _ ?_ r3⟩) (PySem.F.args_dict_pop_2 _ _)
 rw[Nk nd hj]
 refine Gw I (by rw[e];exact True.intro) a5 ⟨o,a1⟩ ⟨?_,hd,xs.eraseIdx j,KT.keeps (Iw j rel) fun c ys ec=>?_,o,es,ep,a1,a2,a3,a4,ndx⟩
 ·exact Nat.le_trans (by rw[List.length_eraseIdx];split<;>omega) z
 ·rw[Ad (L9 ec e (fun z=>nomatch z))]
  exact ec
def Je0(td ty:TE):TE:=fun σ H Q=>td σ H fun x H1=>∃a,x=.ref a∧IsD H1 a∧ty σ H1 fun y H2=>∃kvs k v b,H2 a=some (.dT kvs)∧y=.ref b∧H2 b=some (.tup (k.map kV))∧Cw kvs k=some v∧Q v (upd H2 a (.dT (C4 kvs k)))
theorem Fz{o e:Expr}{apos cpos:Pos}{td ty:TE}(hu:X.A.units+1<cLine)(ho:PE X o td)(he:PE X e ty)(m:M1 X o "pop" apos e cpos):PE X (.Call (.Attribute o "pop" apos) [e] [] cpos) (Je0 td ty):=by
 intro pins s σ H Q I h
 refine wpAny_Call_method m.base m.few m.line PySem.F.plainAttrs_dict PySem.F.slot_dict_pop PySem.F.type_dict_pop (thn (ho pins s σ H _ I h) fun u s1 ⟨x,H1,I1,rx,a,ex,d,q1⟩=>?_)
 subst ex
 obtain rfl:u=Value.ref a:=rx
 obtain⟨t1,t2,_⟩:=Rj I1 d
 refine⟨t1,t2,?_⟩
 rw[m.trees]
 refine Calls.callWith_builtin rfl (Calls.evalArgs_plain (Calls.spliced_cons (thn (he pins s1 σ H1 _ I1 q1) fun iv s2 ⟨y,H2,I2,ry,kvs,k,v,b,ea,ey,eb,l,q2⟩=>Calls.spliced_nil ?_)))
 subst ey
 obtain rfl:iv=Value.ref b:=ry
 exact Jfy hu I2 ea eb l fun w' s3 I3 rw'=>⟨v,_,I3,rw',q2⟩
end
def Fx(l:List (T2×Addr×List T2))(a:Addr)(h:List T2):List (T2×Addr×List T2):=l.map fun q=>if q.2.1=a then(q.1,a,h) else q
theorem Lz(l:List (T2×Addr×List T2))(a:Addr)(h:List T2):(Fx l a h).map (·.2.1)=l.map (·.2.1):=by
 unfold Fx
 rw[List.map_map]
 refine List.map_congr_left fun q _=>?_
 show(if q.2.1=a then(q.1,a,h) else q).2.1=q.2.1
 by_cases e:q.2.1=a
 ·rw[if_pos e];exact e.symm
 ·rw[if_neg e]
theorem Z5(l:List (T2×Addr×List T2))(a:Addr)(h:List T2):(Fx l a h).map (fun q=>(tk q.1,V.ref q.2.1))=l.map fun q=>(tk q.1,V.ref q.2.1):=by
 unfold Fx
 rw[List.map_map]
 refine List.map_congr_left fun q _=>?_
 show(tk (if q.2.1=a then(q.1,a,h) else q).1,V.ref (if q.2.1=a then(q.1,a,h) else q).2.1)=_
 by_cases e:q.2.1=a
 ·rw[if_pos e,←e]
 ·rw[if_neg e]
theorem Jbk{l:List (T2×Addr×List T2)}{a:Addr}{h:List T2}{q:T2×Addr×List T2}(m:q∈Fx l a h):(∃q0∈l,q0.2.1=a∧q=(q0.1,a,h))∨(q∈l∧q.2.1≠a):=by
 unfold Fx at m
 obtain⟨q0,h0,e⟩:=ZN m
 by_cases e1:q0.2.1=a
 ·rw[if_pos e1] at e;exact .inl ⟨q0,h0,e1,e.symm⟩
 ·rw[if_neg e1] at e;rw[←e];exact .inr ⟨h0,e1⟩
section
variable {C p:Addr}{H H':Hp}{G:HGh}
theorem HouseAt.setHold(x:HouseAt C H p G){q:T2×Addr×List T2}(hq:q∈G.holds)(l:List T2):HouseAt C (upd H q.2.1 (Bh l)) p { G with holds:=Fx G.holds q.2.1 l }:=by
 obtain⟨_,_,_,d1⟩:=x.nds
 obtain⟨n1,n2,n3,n4⟩:=d1 q hq
 have mem:q.2.1∈foot G:=by
  unfold foot
  exact ZD _ (ZD _ (ZD _ (ZD _ (List.mem_map_of_mem hq))))
 have np:=x.p_ne mem
 obtain⟨dx,e⟩:=x.ob
 refine⟨⟨dx,by rw[Ad np.symm];exact e⟩,by rw[Ad n1.symm];exact x.dh,by rw[Ad n2.symm];exact x.dO,?_,by rw[Ad n4.symm];exact x.dr,fun r hr=>?_,?_⟩
 ·rw[Ad n3.symm]
  show H G.l=some (.dT ((Fx G.holds q.2.1 l).map fun q=>(tk q.1,V.ref q.2.1)))
  rw[Z5];exact x.dl
 ·rcases Jbk hr with⟨q0,_,e1,e2⟩|⟨h1,h2⟩
  ·rw[e2];exact Ab
  ·rw[Ad h2];exact x.hl r h1
 ·have e2:foot { G with holds:=Fx G.holds q.2.1 l }=foot G:=by
   unfold foot
   rw[Lz]
  rw[e2];exact x.nd
end
def Bo(l:List T2)(t:T2):List T2:=if t∈l then l else l++[t]
def El(l:List T2)(t:T2):List T2:=l.filter fun u=>decide (u≠t)
theorem Zd(l:List T2)(t:T2):l.find? (fun q=>decide (q=t))=if t∈l then some t else none:=by
 by_cases h:t∈l
 ·rw[if_pos h]
  cases e:l.find? fun q=>decide (q=t) with
  | none=>exact absurd (List.find?_eq_none.mp e t h) (by simp)
  | some u =>
    have:=List.find?_some e
    have:u=t:=by simpa using this
    rw[this]
 ·rw[if_neg h]
  exact List.find?_eq_none.mpr fun u hu=>by
   have:¬u=t:=fun z=>h (z▸hu)
   simpa using this
theorem Gc(l:List T2)(t:T2):Cw (l.map fun q=>(tk q,V.bl true)) (tk t)=if t∈l then some (V.bl true) else none:=by
 rw[Dp (k:=fun q:T2=>q) (f:=fun _=>V.bl true),Zd]
 by_cases h:t∈l
 ·rw[if_pos h,if_pos h];rfl
 ·rw[if_neg h,if_neg h];rfl
theorem Eb(l:List T2)(t:T2):putK (l.map fun q=>(tk q,V.bl true)) (tk t) (V.bl true)=(Bo l t).map fun q=>(tk q,V.bl true):=by
 unfold Bo
 by_cases h:t∈l
 ·rw[if_pos h]
  unfold putK
  rw[Fu,Gc,if_pos h,if_pos (show(some (V.bl true)).isSome=true from rfl),List.map_map]
  refine List.map_congr_left fun q _=>?_
  show(if tk q=tk t then(tk q,V.bl true) else(tk q,V.bl true))=_
  by_cases e:tk q=tk t
  ·rw[if_pos e]
  ·rw[if_neg e]
 ·rw[if_neg h,Ip (k:=fun q:T2=>q) (f:=fun _=>V.bl true) _ (fun q hq z=>h (by rw[←z];exact hq)),ZF]
  rfl
theorem Ga{α:Type}(l:List α)(k:α→T2)(f:α→V)(t:T2):C4 (l.map fun q=>(tk (k q),f q)) (tk t)=(l.filter fun q=>decide (k q≠t)).map fun q=>(tk (k q),f q):=by
 unfold C4
 rw[List.filter_map]
 congr 1
 refine List.filter_congr fun q _=>?_
 show decide (tk (k q)≠tk t)=decide (k q≠t)
 by_cases e:k q=t
 ·rw[e];simp
 ·have e2:¬tk (k q)=tk t:=fun z=>e (Vb z)
  simp[e,e2]
def Ba(l:List (T2×Int))(t:T2)(v:Int):List (T2×Int):=if t∈l.map (·.1) then l.map fun q=>if q.1=t then(q.1,v) else q else l++[(t,v)]
theorem Eg(l:List (T2×Int))(t:T2)(v:Int):putK (l.map fun q=>(tk q.1,V.int q.2)) (tk t) (V.int v)=(Ba l t v).map fun q=>(tk q.1,V.int q.2):=by
 unfold Ba
 by_cases h:t∈l.map (·.1)
 ·rw[if_pos h]
  unfold putK
  have e1:((l.map fun q=>(tk q.1,V.int q.2)).any fun kv=>decide (kv.1=tk t))=true:=by
   obtain⟨q,hq,e⟩:=ZN h
   exact List.any_eq_true.mpr ⟨(tk q.1,V.int q.2),List.mem_map_of_mem hq,by simp[e]⟩
  rw[e1,if_pos rfl,List.map_map,List.map_map]
  refine List.map_congr_left fun q _=>?_
  show(if tk q.1=tk t then(tk q.1,V.int v) else(tk q.1,V.int q.2))=(tk (if q.1=t then(q.1,v) else q).1,V.int (if q.1=t then(q.1,v) else q).2)
  by_cases e:q.1=t
  ·rw[if_pos e,if_pos (by rw[e])]
  ·rw[if_neg e,if_neg fun z=>e (Vb z)]
 ·rw[if_neg h,Ip (k:=fun q:T2×Int=>q.1) (f:=fun q=>V.int q.2) _ fun q hq z=>h (List.mem_map.mpr ⟨q,hq,z⟩),ZF]
  rfl
section
variable {X:Cx}
end
noncomputable def isT (H:Hp) (tb:T2):Value→Bool
 | .ref a=>@decide (H a=some (.tup (tv tb))) (Classical.propDecidable _)
 | _=>false
section
variable {X:Cx}{pins:List (Addr×Obj)}{σ:L2.St}{H:Hp}{s:Shared}{A:Around}
end
section
variable {prog:Program}{w:World}{A:Around}{R:Result→Shared→Prop}{s:Shared}{l:Addr}{items:Array Value}{n:Nat}{x:Value}
end
section
variable {X:Cx}
end
theorem kne{a b:Str}(h:¬a=b):¬((Sum.inr a:Key)=Sum.inr b):=fun z=>h (Sum.inr.inj z)
theorem ThsAt.keep{H H':Hp}(k:KeepT H H'){as:List Addr}{ts:List T2}(x:ThsAt H as ts):ThsAt H' as ts:=Ay (fun _ _ e=>k.tup _ _ e) x
section
variable {p:Addr}{H H':Hp}{G:HGh}
theorem Ei{α β:Type}{f:α→β}:∀{l:List α},(l.map f).Nodup→∀{a b:α},a∈l→b∈l→f a=f b→a=b
 | [],_,_,_,ha,_,_=>by cases ha
 | x::l,nd,a,b,ha,hb,e=>by
   have nd:=List.nodup_cons.mp nd
   rcases ZM ha with ha|ha<;>rcases ZM hb with hb|hb
   ·rw[ha,hb]
   ·exact absurd (List.mem_map.mpr ⟨b,hb,by rw[←e,ha]⟩) nd.1
   ·exact absurd (List.mem_map.mpr ⟨a,ha,by rw[e,hb]⟩) nd.1
   ·exact Ei nd.2 ha hb e
end
abbrev HL:=List (T2×Addr×List T2)
def hs0(l:HL):List (T2×List T2):=l.map fun q=>(q.1,q.2.2)
def setH(l:HL)(t:T2)(h:List T2):HL:=l.map fun q=>if q.1=t then(q.1,q.2.1,h) else q
def getH(l:HL)(t:T2):List T2:=((l.find? fun q=>decide (q.1=t)).map (·.2.2)).getD []
theorem My(l:HL)(t:T2):(hs0 l).find? (fun q=>decide (q.1=t))=(l.find? fun q=>decide (q.1=t)).map fun q=>(q.1,q.2.2):=by
 unfold hs0
 rw[List.find?_map]
 rfl
theorem Uk(l:HL)(t:T2):getH l t=(((hs0 l).find? fun q=>decide (q.1=t)).map (·.2)).getD []:=by
 unfold getH
 rw[My,Option.map_map]
 rfl
theorem Sl(l:HL)(t:T2)(h:List T2):hs0 (setH l t h)=(hs0 l).map fun q=>if q.1=t then(q.1,h) else q:=by
 unfold hs0 setH
 rw[List.map_map,List.map_map]
 refine List.map_congr_left fun q _=>?_
 show((if q.1=t then(q.1,q.2.1,h) else q).1,(if q.1=t then(q.1,q.2.1,h) else q).2.2)=if q.1=t then(q.1,h) else(q.1,q.2.2)
 by_cases e:q.1=t
 ·rw[if_pos e,if_pos e]
 ·rw[if_neg e,if_neg e]
theorem Z7(l:HL)(t:T2)(h:List T2):(setH l t h).map (·.2.1)=l.map (·.2.1):=by
 unfold setH
 rw[List.map_map]
 refine List.map_congr_left fun q _=>?_
 show(if q.1=t then(q.1,q.2.1,h) else q).2.1=q.2.1
 by_cases e:q.1=t
 ·rw[if_pos e]
 ·rw[if_neg e]
theorem Z6(l:HL)(t:T2)(h:List T2):(setH l t h).map (·.1)=l.map (·.1):=by
 unfold setH
 rw[List.map_map]
 refine List.map_congr_left fun q _=>?_
 show(if q.1=t then(q.1,q.2.1,h) else q).1=q.1
 by_cases e:q.1=t
 ·rw[if_pos e]
 ·rw[if_neg e]
theorem Ja{l:HL}{t:T2}{h:List T2}{q:T2×Addr×List T2}(m:q∈setH l t h):(q.1=t∧q.2.2=h)∨q∈l:=by
 obtain⟨q0,h0,e⟩:=ZN m
 by_cases c:q0.1=t
 ·rw[if_pos c] at e;subst e;exact .inl ⟨c,rfl⟩
 ·rw[if_neg c] at e;subst e;exact .inr h0
theorem Jd0{l:HL}{t:T2}{a:Addr}{hl:List T2}(f:l.find? (fun q=>decide (q.1=t))=some (t,a,hl)):getH l t=hl:=by
 unfold getH;rw[f];rfl
theorem Rp{l:HL}{t:T2}(h:t∈l.map (·.1)):∃a,l.find? (fun q=>decide (q.1=t))=some (t,a,getH l t):=by
 cases e:l.find? fun q=>decide (q.1=t) with
 | none =>
   obtain⟨q,hq,e2⟩:=ZN h
   have:=List.find?_eq_none.mp e q hq
   exact absurd e2 (by simpa using this)
 | some q =>
   have h1:q.1=t:=by have:=List.find?_some e;simpa using this
   refine⟨q.2.1,?_⟩
   have:getH l t=q.2.2:=by unfold getH;rw[e];rfl
   rw[this,←h1]
theorem Ge{l:HL}(ka:(l.map (·.2.1)).Nodup)(kt:(l.map (·.1)).Nodup){t:T2}{a:Addr}{hl:List T2}(f:l.find? (fun q=>decide (q.1=t))=some (t,a,hl))(h:List T2):Fx l a h=setH l t h:=by
 have m:=List.mem_of_find?_eq_some f
 unfold Fx setH
 refine List.map_congr_left fun q hq=>?_
 by_cases e:q.1=t
 ·have:=Ei kt hq m e
  rw[this,if_pos rfl,if_pos rfl]
 ·have:¬q.2.1=a:=fun z=>e (by rw[Ei ka hq m z])
  rw[if_neg this,if_neg e]
structure Like(M G:HGh):Prop where
 num:M.num=G.num
 made:M.made=G.made
 ticks:M.ticks=G.ticks
 hand:M.hand=G.hand
 outs:M.outs=G.outs
 recs:M.recs=G.recs
 holds:hs0 M.holds=hs0 G.holds
theorem Like.getH{M G:HGh}(x:Like M G)(t:T2):FX.getH M.holds t=FX.getH G.holds t:=by rw[Uk,Uk,x.holds]
structure Ok(G:HGh)(n:Nat):Prop where
 hn:G.hand.Nodup
 hz:G.hand.length≤n
 on:(G.outs.map (·.1)).Nodup
 oz:G.outs.length≤n
 ke:G.holds.map (·.1)=G.outs.map (·.1)
 rn:(G.recs.map (·.1)).Nodup
 rz:G.recs.length≤n
 ln:∀q∈G.holds,q.2.2.Nodup∧q.2.2.length≤n
 new:∀t∈G.outs.map (·.1),t.1=G.num∧t.2<G.made
 hk:∀t∈G.hand,t.1=G.num→t∈G.outs.map (·.1)
 lk:∀q∈G.holds,∀t∈q.2.2,t.1=G.num→t∈G.outs.map (·.1)
 rk:∀t∈G.recs.map (·.1),t.1≠G.num
theorem Ok.mono{G:HGh}{n m:Nat}(x:Ok G n)(h:n≤m):Ok G m :=
 ⟨x.hn,Nat.le_trans x.hz h,x.on,Nat.le_trans x.oz h,x.ke,x.rn,Nat.le_trans x.rz h,fun q hq=>⟨(x.ln q hq).1,Nat.le_trans (x.ln q hq).2 h⟩,x.new,x.hk,x.lk,x.rk⟩
theorem Like.ok{M G:HGh}(x:Like M G){n:Nat}(k:Ok G n):Ok M n:=by
 have e1:M.holds.map (·.1)=G.holds.map (·.1):=by
  have:=congrArg (List.map (·.1)) x.holds
  unfold hs0 at this
  rw[List.map_map,List.map_map] at this
  exact this
 have mm:∀q∈M.holds,∃r∈G.holds,r.1=q.1∧r.2.2=q.2.2:=fun q hq=>by
  have m:(q.1,q.2.2)∈hs0 M.holds:=List.mem_map.mpr ⟨q,hq,rfl⟩
  rw[x.holds] at m
  obtain⟨r,hr,e⟩:=ZN m
  exact⟨r,hr,(Prod.mk.inj e).1,(Prod.mk.inj e).2⟩
 refine⟨by rw[x.hand];exact k.hn,by rw[x.hand];exact k.hz,by rw[x.outs];exact k.on,by rw[x.outs];exact k.oz,by rw[e1,x.outs];exact k.ke,by rw[x.recs];exact k.rn,by rw[x.recs];exact k.rz,fun q hq=>?_,by rw[x.outs,x.num,x.made];exact k.new,by rw[x.hand,x.outs,x.num];exact k.hk,fun q hq=>?_,by rw[x.recs,x.num];exact k.rk⟩
 ·obtain⟨r,hr,_,e⟩:=mm q hq
  rw[←e];exact k.ln r hr
 ·obtain⟨r,hr,_,e⟩:=mm q hq
  rw[←e,x.outs,x.num];exact k.lk r hr
def tk1(G:HGh):HGh:={ G with ticks:=G.ticks+1 }
def mkG(G:HGh)(a:Addr):HGh:={ G with made:=G.made+1,hand:=G.hand++[(G.num,G.made)],outs:=G.outs++[((G.num,G.made),0)],holds:=G.holds++[((G.num,G.made),a,[])] }
theorem mem_addT'{l:List T2}{t u:T2}:u∈Bo l t↔u∈l∨u=t:=by
 unfold Bo
 by_cases h:t∈l
 ·rw[if_pos h]
  exact⟨.inl,fun z=>z.elim id fun z=>by rw[z];exact h⟩
 ·rw[if_neg h];simp
theorem mem_delT'{l:List T2}{t u:T2}:u∈El l t↔u∈l∧u≠t:=by
 unfold El
 rw[List.mem_filter];simp
theorem Ma{l:List T2}(t:T2)(h:l.Nodup):(Bo l t).Nodup:=by
 unfold Bo
 by_cases e:t∈l
 ·rw[if_pos e];exact h
 ·rw[if_neg e];exact Er h e
theorem Gn(l:List T2)(t:T2):(Bo l t).length≤l.length+1:=by
 unfold Bo
 by_cases e:t∈l
 ·rw[if_pos e];lia
 ·rw[if_neg e];simp
section
variable {M G:HGh}{n:Nat}
theorem Ok.tk1(x:Ok G n):Ok (tk1 G) n:=⟨x.hn,x.hz,x.on,x.oz,x.ke,x.rn,x.rz,x.ln,x.new,x.hk,x.lk,x.rk⟩
theorem Ok.hand(x:Ok G n){l:List T2}(h1:l.Nodup)(h2:l.length≤n)(h3:∀t∈l,t.1=G.num→t∈G.outs.map (·.1)):Ok { G with hand:=l } n:=⟨h1,h2,x.on,x.oz,x.ke,x.rn,x.rz,x.ln,x.new,h3,x.lk,x.rk⟩
theorem Ok.holds(x:Ok G n){t:T2}{l:List T2}(h1:l.Nodup)(h2:l.length≤n)(h3:∀t∈l,t.1=G.num→t∈G.outs.map (·.1)):Ok { G with holds:=setH G.holds t l } n:=by
 refine⟨x.hn,x.hz,x.on,x.oz,(Z6 ..).trans x.ke,x.rn,x.rz,fun q hq=>?_,x.new,x.hk,fun q hq=>?_,x.rk⟩
 ·rcases Ja hq with⟨_,e⟩|hq
  ·rw[e];exact⟨h1,h2⟩
  ·exact x.ln q hq
 ·rcases Ja hq with⟨_,e⟩|hq
  ·rw[e];exact h3
  ·exact x.lk q hq
theorem Ok.mkG(x:Ok G n)(a:Addr):Ok (mkG G a) (n+1):=by
 have nw:(G.num,G.made)∉G.outs.map (·.1):=fun m=>by have:=(x.new _ m).2;exact absurd this (by show ¬G.made<G.made;lia)
 have eo:(G.outs++[((G.num,G.made),(0:Int))]).map (·.1)=G.outs.map (·.1)++[(G.num,G.made)]:=by rw[ZF];rfl
 refine⟨?_,?_,?_,?_,?_,x.rn,by have:=x.rz;show G.recs.length≤n+1;lia,fun q hq=>?_,?_,?_,?_,x.rk⟩
 ·exact Er x.hn fun m=>nw (x.hk _ m rfl)
 ·show(G.hand++[(G.num,G.made)]).length≤n+1
  rw[ZE];have:=x.hz;show G.hand.length+1≤n+1;lia
 ·show((G.outs++[((G.num,G.made),(0:Int))]).map (·.1)).Nodup
  rw[eo];exact Er x.on nw
 ·show(G.outs++[((G.num,G.made),(0:Int))]).length≤n+1
  rw[ZE];have:=x.oz;show G.outs.length+1≤n+1;lia
 ·show(G.holds++[((G.num,G.made),a,([]:List T2))]).map (fun(q:T2×Addr×List T2)=>q.1)=(G.outs++[((G.num,G.made),(0:Int))]).map (·.1)
  rw[eo,ZF,x.ke];rfl
 ·rcases ZI hq with hq|hq
  ·exact⟨(x.ln q hq).1,Nat.le_succ_of_le (x.ln q hq).2⟩
  ·have:q=((G.num,G.made),a,[]):=by simpa using hq
   rw[this];exact⟨List.nodup_nil,Nat.zero_le _⟩
 ·intro t ht
  have ht:t∈(G.outs++[((G.num,G.made),(0:Int))]).map (·.1):=ht
  show t.1=G.num∧t.2<G.made+1
  rw[eo] at ht
  rcases ZI ht with ht|ht
  ·have:=x.new t ht;exact⟨this.1,by have:=this.2;lia⟩
  ·have:t=(G.num,G.made):=by simpa using ht
   rw[this];exact⟨rfl,by show G.made<G.made+1;lia⟩
 ·intro t ht e
  show t∈(G.outs++[((G.num,G.made),(0:Int))]).map (·.1)
  rw[eo]
  rcases ZI ht with ht|ht
  ·exact ZB _ (x.hk t ht e)
  ·exact ZC _ ht
 ·intro q hq t ht e
  show t∈(G.outs++[((G.num,G.made),(0:Int))]).map (·.1)
  rw[eo]
  rcases ZI hq with hq|hq
  ·exact ZB _ (x.lk q hq t ht e)
  ·have:q=((G.num,G.made),a,[]):=by simpa using hq
   rw[this] at ht;cases ht
theorem Ok.fresh(x:Ok G n):(∀t∈G.hand,t≠(G.num,G.made))∧(∀q∈G.outs,q.1≠(G.num,G.made))∧∀q∈G.holds,q.1≠(G.num,G.made):=by
 have nw:(G.num,G.made)∉G.outs.map (·.1):=fun m=>by have:=(x.new _ m).2;exact absurd this (by show ¬G.made<G.made;lia)
 refine⟨fun t ht e=>nw (by rw[←e];exact x.hk t ht (by rw[e])),fun q hq e=>nw (by rw[←e];exact List.mem_map_of_mem hq),fun q hq e=>nw (by rw[←e,←x.ke];exact List.mem_map_of_mem hq)⟩
theorem Ok.lens(x:Ok G n):G.holds.length≤n:=by
 have:=congrArg List.length x.ke
 rw[ZA,ZA] at this
 rw[this];exact x.oz
theorem Ok.get(x:Ok G n)(t:T2):(getH G.holds t).Nodup∧(getH G.holds t).length≤n∧∀u∈getH G.holds t,u.1=G.num→u∈G.outs.map (·.1):=by
 unfold getH
 cases e:G.holds.find? fun q=>decide (q.1=t) with
 | none=>exact⟨List.nodup_nil,Nat.zero_le _,fun u hu=>by cases hu⟩
 | some q =>
   have m:=List.mem_of_find?_eq_some e
   exact⟨(x.ln q m).1,(x.ln q m).2,x.lk q m⟩
theorem Ok.find(x:Ok G n){t:T2}(h1:t∈G.hand)(h2:t.1=G.num):∃a,G.holds.find? (fun q=>decide (q.1=t))=some (t,a,getH G.holds t):=Rp (by rw[x.ke];exact x.hk t h1 h2)
theorem Like.setH(x:Like M G)(t:T2)(l:List T2):Like { M with holds:=setH M.holds t l } { G with holds:=setH G.holds t l } :=
 ⟨x.num,x.made,x.ticks,x.hand,x.outs,x.recs,by show hs0 (FX.setH M.holds t l)=hs0 (FX.setH G.holds t l);rw[Sl,Sl,x.holds]⟩
theorem Like.mk2(x:Like M G)(a b:Addr):Like (tk1 (mkG M a)) (tk1 (mkG G b)):=by
 refine⟨x.num,?_,?_,?_,?_,x.recs,?_⟩
 ·show M.made+1=G.made+1;rw[x.made]
 ·show M.ticks+1=G.ticks+1;rw[x.ticks]
 ·show M.hand++_=G.hand++_;rw[x.hand,x.num,x.made]
 ·show M.outs++_=G.outs++_;rw[x.outs,x.num,x.made]
 ·show hs0 (M.holds++[((M.num,M.made),a,[])])=hs0 (G.holds++[((G.num,G.made),b,[])])
  unfold hs0
  rw[ZF,ZF,show M.holds.map (fun q=>(q.1,q.2.2))=G.holds.map fun q=>(q.1,q.2.2) from x.holds,x.num,x.made];rfl
end
def Ai(l:List (T2×Int))(t:T2):Int:=((l.find? fun q=>decide (q.1=t)).map (·.2)).getD 0
theorem E4(l:List (T2×Int))(t:T2)(v:Int):(Ba l t v).map (·.1)=if t∈l.map (·.1) then l.map (·.1) else l.map (·.1)++[t]:=by
 unfold Ba
 by_cases h:t∈l.map (·.1)
 ·rw[if_pos h,if_pos h,List.map_map]
  refine List.map_congr_left fun q _=>?_
  show(if q.1=t then(q.1,v) else q).1=q.1
  by_cases e:q.1=t
  ·rw[if_pos e]
  ·rw[if_neg e]
 ·rw[if_neg h,if_neg h,ZF];rfl
theorem Ok.came{G:HGh}{n:Nat}(x:Ok G n){tb:T2}(hf:tb.1≠G.num)(v:Int):Ok { G with hand:=Bo G.hand tb,recs:=Ba G.recs tb v } (n+1):=by
 have x1:=x.mono (Nat.le_succ n)
 refine⟨Ma _ x.hn,by have:=Gn G.hand tb;have:=x.hz;show(Bo G.hand tb).length≤n+1;lia,x1.on,x1.oz,x1.ke,?_,?_,x1.ln,x1.new,fun t ht e=>?_,x1.lk,?_⟩
 ·show((Ba G.recs tb v).map (·.1)).Nodup
  rw[E4]
  by_cases h:tb∈G.recs.map (·.1)
  ·rw[if_pos h];exact x.rn
  ·rw[if_neg h];exact Er x.rn h
 ·have h0:=congrArg List.length (E4 G.recs tb v)
  have:=x.rz
  show(Ba G.recs tb v).length≤n+1
  rw[ZA] at h0
  rw[h0]
  by_cases h:tb∈G.recs.map (·.1)
  ·rw[if_pos h,ZA];lia
  ·rw[if_neg h,ZE,ZA];show G.recs.length+1≤n+1;lia
 ·rcases mem_addT'.mp ht with ht|ht
  ·exact x.hk t ht e
  ·exact absurd (by rw[←ht];exact e) hf
 ·show ∀t∈(Ba G.recs tb v).map (·.1),t.1≠G.num
  rw[E4]
  intro t ht
  by_cases h:tb∈G.recs.map (·.1)
  ·rw[if_pos h] at ht;exact x.rk t ht
  ·rw[if_neg h] at ht
   rcases ZI ht with ht|ht
   ·exact x.rk t ht
   ·have:t=tb:=by simpa using ht
    rw[this];exact hf
section
variable {C p m:Addr}{H H':Hp}{G M:HGh}{n:Nat}
theorem Jbw(G:HGh)(a:Addr):foot (tk1 (mkG G a))=foot G++[a]:=by unfold foot mkG tk1;simp
end
theorem F6{l:List (T2×Int)}{t:T2}(h:t∈l.map (·.1)):l.find? (fun q=>decide (q.1=t))=some (t,Ai l t):=by
 cases e:l.find? fun q=>decide (q.1=t) with
 | none =>
   obtain⟨q,hq,e2⟩:=ZN h
   have:=List.find?_eq_none.mp e q hq
   exact absurd e2 (by simpa using this)
 | some q =>
   have h1:q.1=t:=by have:=List.find?_some e;simpa using this
   have:Ai l t=q.2:=by unfold Ai;rw[e];rfl
   rw[this,←h1]
theorem Xh{l:List (T2×Int)}{t:T2}(h:t∈l.map (·.1))(v:Int):(Ba l t v).map (·.1)=l.map (·.1):=by rw[E4,if_pos h]
theorem Ti{l:List (T2×Int)}{t:T2}(h:t∈l.map (·.1))(v:Int):(Ba l t v).length=l.length:=by
 have:=congrArg List.length (Xh h v)
 rw[ZA,ZA] at this
 exact this
section
variable {G M:HGh}{n:Nat}
theorem Ok.outs(x:Ok G n){tb:T2}(h:tb∈G.outs.map (·.1))(v:Int):Ok { G with outs:=Ba G.outs tb v } n:=by
 have e:=Xh h v
 refine⟨x.hn,x.hz,by show((Ba G.outs tb v).map (·.1)).Nodup;rw[e];exact x.on,by show(Ba G.outs tb v).length≤n;rw[Ti h];exact x.oz,by show G.holds.map (·.1)=(Ba G.outs tb v).map (·.1);rw[e];exact x.ke,x.rn,x.rz,x.ln,?_,?_,?_,x.rk⟩
 ·show ∀t∈(Ba G.outs tb v).map (·.1),_;rw[e];exact x.new
 ·show ∀t∈G.hand,t.1=G.num→t∈(Ba G.outs tb v).map (·.1);rw[e];exact x.hk
 ·show ∀q∈G.holds,∀t∈q.2.2,t.1=G.num→t∈(Ba G.outs tb v).map (·.1);rw[e];exact x.lk
def LikeW(M G:HGh):Prop:=Like { M with ticks:=G.ticks } G
end
section
variable {prog:Program}{w:World}
end
section
variable {X:Cx}
end
theorem Nb{α:Type}(f:α→Int):∀{l:List α} (x:Int),(l.map f).Nodup→(l.filter fun e=>f e==x).length≤1
 | [],_,_=>Nat.zero_le _
 | a::l,x,nd=>by
   have nd:=List.nodup_cons.mp nd
   rw[List.filter_cons]
   by_cases e:f a=x
   ·have no:(l.filter fun e=>f e==x)=[]:=List.filter_eq_nil_iff.mpr fun b hb z=>nd.1 (List.mem_map.mpr ⟨b,hb,by rw[e];simpa using z⟩)
    rw[if_pos (by simpa using e),no];exact ZG _
   ·rw[if_neg (by simpa using e)];exact Nb f x nd.2
section
variable {prog:Program}{w:World}{K:Type}[DecidableEq K]{knd:HeapKind prog w K}{A:Around}{E:Value→Shared→Prop}{s:Shared}
def Tame(knd:HeapKind prog w K):Prop:=∀{A:Around} {E:Value→Shared→Prop} {s:Shared} {k:K} {a:Addr} {Q:Bool→Shared→Prop},knd.is s.heap k a→(∀b,Q b s)→wpAny (model prog w) A (Builtin.Dict.quietEq (.ref a)) Q E s
theorem V7{id:String}{d:Addr}{ob:Obj}{es:Array DictEntry}{ep:Nat}{xs:List (K×Addr×Value)}{Q:Array DictEntry→Shared→Prop}(tm:Tame knd)(g:s.heap.get? d=some ob)(dat:ob.data=.dict es ep)(ent:es.toList=xs.map (entryOfKey knd))(keys:∀x∈xs,knd.is s.heap x.1 x.2.1)(hh:(xs.map fun x=>knd.hash x.1).Nodup)(q:Q es s):wpAny (model prog w) A (Builtin.Dict.entriesForEmpty id d) Q E s:=by
 have hn:(es.toList.map fun e=>e.hash).Nodup:=by rw[ent,List.map_map];exact hh
 unfold Builtin.Dict.entriesForEmpty
 refine ZR (wpAny_dictEntries g dat (ZR ?_))
 rw[←Array.forIn_toList]
 refine wpAny_forIn_list _ (fun rest _ s'=>s'=s∧∀e∈rest,e∈es.toList) _ ?_ ?_ _ _ ⟨rfl,fun e he=>he⟩
 ·rintro e rest b s' ⟨rfl,sub⟩
  have me:=sub e (ZL ..)
  rw[ent] at me
  obtain⟨x,hx,ex⟩:=ZN me
  have ek:e.key=.ref x.2.1:=by rw[←ex];rfl
  rw[ek]
  refine ZR (tm (keys x hx) fun bq=>?_)
  have small:¬(es.filter fun z=>z.hash==e.hash).size > 1:=by
   have h1:=Nb (fun z:DictEntry=>z.hash) e.hash hn
   have h2:(es.filter fun z=>z.hash==e.hash).size=(es.toList.filter fun z=>z.hash==e.hash).length:=by rw[←Array.length_toList,Array.toList_filter]
   rw[h2];exact Nat.not_lt.mpr h1
  cases bq with
  | true =>
    simp only[Bool.not_true,Bool.false_eq_true,if_false]
    exact ZS ⟨rfl,fun e he=>sub e (ZD _ he)⟩
  | false =>
    simp only[Bool.not_false,if_true]
    rw[if_neg small]
    exact ZS ⟨rfl,fun e he=>sub e (ZD _ he)⟩
 ·rintro b s' ⟨rfl,_⟩
  exact ZS q
theorem Ly{d a:Addr}{xs:List (K×Addr×Value)}{k:K}{v:Value}{Q:Unit→Shared→Prop}(room:knd.room A)(key:knd.is s.heap k a)(m:s.heap.DictOfH knd d xs)(z:xs.length≤sizeLine)(q:∀h',h'.DictOfH knd d (storedH xs k a v)→Heap.SameBut d s.heap h'→Q () { s with heap:=h' }):wpAny (model prog w) A (dictSetHashed d (.ref a) (knd.hash k) v) Q E s:=by
 obtain⟨ob,es,ep,g,ex,dat,ent,keys,nd⟩:=m
 have sz:=size_of_entries ent
 unfold dictSetHashed
 refine wpAny_holding (ZR (wpAny_dictFind_heap room key g dat ent keys nd (fun no=>?_) fun j p hj=>?_))
 ·refine ZR (wpAny_rule (wpAny_updateDictKeys (hz:=by rw[sz];exact z) g dat (q _ ⟨_,_,ep+1,Heap.get?_update_self _ g (Obj.isFreed_of_dict (Obj.data_mapDictKeys dat _)),ex.mapDictKeys _,Obj.data_mapDictKeys dat _,?_,fun x hx=>?_,?_⟩ (Heap.SameBut.update ..))))
  ·rw[storedH_new (atKey_none_of_get no),ZF,←ent]
   simp[entryOfKey]
  ·rw[storedH_new (atKey_none_of_get no)] at hx
   rcases ZI hx with hx|hx
   ·exact knd.keeps (keys x hx) g dat (Heap.SameBut.update ..)
   ·have e:x=(k,a,v):=by simpa using hx
    rw[e];exact knd.keeps key g dat (Heap.SameBut.update ..)
  ·rw[storedH_new (atKey_none_of_get no),ZF]
   exact Er nd (not_mem_keys_of_get no)
 ·refine ZR (wpAny_rule (ZR (wpAny_updateDict g dat (wpAny_point (q _ ⟨_,_,ep,Heap.get?_update_self _ g (Obj.isFreed_of_dict (Obj.data_mapDict dat _)),ex.mapDict _,Obj.data_mapDict dat _,?_,fun x hx=>?_,?_⟩ (Heap.SameBut.update ..))))))
  ·rw[storedH_old (atKey_of_get nd hj)]
   have e:=modify_map_putAt (entryOfKey knd) (fun e:DictEntry=>{ e with val:=v }) k v (fun _ _=>rfl) nd hj
   rw[←ent] at e
   rw[←e]
   simp
  ·rw[storedH_old (atKey_of_get nd hj)] at hx
   obtain⟨y,hy,e⟩:=ZN hx
   have e1:x.1=y.1∧x.2.1=y.2.1:=by
    rw[←e];unfold putAt
    by_cases c:y.1=k
    ·rw[if_pos c];exact⟨rfl,rfl⟩
    ·rw[if_neg c];exact⟨rfl,rfl⟩
   rw[e1.1,e1.2]
   exact knd.keeps (keys y hy) g dat (Heap.SameBut.update ..)
  ·rw[storedH_old (atKey_of_get nd hj),keys_map_putAt];exact nd
def C8(xs more:List (K×Addr×Value)):List (K×Addr×Value):=more.foldl (fun acc x=>storedH acc x.1 x.2.1 x.2.2) xs
theorem Kn(xs more:List (K×Addr×Value)){i:Nat}{x:K×Addr×Value}(h:more[i]?=some x):C8 xs (more.take (i+1))=storedH (C8 xs (more.take i)) x.1 x.2.1 x.2.2:=by
 unfold C8
 rw[List.take_succ,h,List.foldl_append]
 rfl
theorem R9(xs:List (K×Addr×Value))(k:K)(a:Addr)(v:Value):(storedH xs k a v).length≤xs.length+1:=by
 cases e:atKey xs k with
 | none=>rw[storedH_new e,ZE];exact ZG _
 | some p=>rw[storedH_old e,ZA];exact Nat.le_succ _
theorem Hr:∀(more xs:List (K×Addr×Value)),(C8 xs more).length≤xs.length+more.length
 | [],xs=>ZG _
 | x::r,xs=>by
   have h1:(C8 (storedH xs x.1 x.2.1 x.2.2) r).length≤_:=Hr r _
   have h2:=R9 xs x.1 x.2.1 x.2.2
   show(C8 (storedH xs x.1 x.2.1 x.2.2) r).length≤xs.length+(r.length+1)
   lia
theorem Mm:∀(more xs:List (K×Addr×Value)),((xs++more).map (·.1)).Nodup→C8 xs more=xs++more
 | [],xs,_=>(List.append_nil xs).symm
 | x::r,xs,nd=>by
   have e:atKey xs x.1=none:=by
    cases c:atKey xs x.1 with
    | none=>rfl
    | some p =>
      exfalso
      unfold atKey at c
      cases f:xs.find? (fun y=>decide (y.1=x.1)) with
      | none=>rw[f] at c;cases c
      | some y =>
        have h1:y.1=x.1:=by simpa using List.find?_some f
        have h2:=List.mem_of_find?_eq_some f
        rw[ZF,List.nodup_append] at nd
        exact nd.2.2 _ (List.mem_map_of_mem h2) _ (List.mem_map_of_mem (ZL ..)) h1
   show C8 (storedH xs x.1 x.2.1 x.2.2) r=xs++x::r
   rw[storedH_new e]
   have e2:xs++[(x.1,x.2.1,x.2.2)]++r=xs++x::r:=by rw[List.append_assoc];rfl
   rw[Mm r _ (by rw[e2];exact nd),e2]
theorem Vu{id:String}{d o:Addr}{xs more:List (K×Addr×Value)}{Q:Unit→Shared→Prop}(tm:Tame knd)(room:knd.room A)(ne:d≠o)(lo:(o==sysModules)=false)(hd:s.heap.DictOfH knd d xs)(ho:s.heap.DictOfH knd o more)(z:xs.length+more.length≤sizeLine)(hh:xs=[]→(more.map fun x=>knd.hash x.1).Nodup)(q:∀h',h'.DictOfH knd d (C8 xs more)→Heap.SameBut d s.heap h'→Q () { s with heap:=h' }):wpAny (model prog w) A (Builtin.Dict.mergeDict id d o) Q E s:=by
 obtain⟨od,esd,epd,gd,exd,datd,entd,keysd,ndd⟩:=_root_.id hd
 obtain⟨oo,eso,epo,go,exo,dato,ento,keyso,ndo⟩:=_root_.id ho
 have so:=size_of_entries ento
 unfold Builtin.Dict.mergeDict Builtin.Dict.showsAll
 rw[if_neg (by simpa using ne),if_neg (by rw[lo];exact Bool.false_ne_true)]
 refine ZR (ZS (ZR (wpAny_dictEntries go dato ?_)))
 dsimp only
 split
 ·refine ZR (wpAny_dictEntries gd datd ?_)
  split
  ·rename_i em
   have ex:xs=[]:=by
    have h1:=size_of_entries entd
    rw[Array.isEmpty_iff_size_eq_zero.mp em] at h1
    exact List.length_eq_zero_iff.mp h1.symm
   subst ex
   have em':C8 [] more=more:=Mm more [] ndo
   rw[em'] at q
   refine ZR (V7 tm go dato ento keyso (hh rfl) ?_)
   split
   ·have zz:eso.size≤sizeLine+1:=by rw[so];have:0+more.length≤sizeLine:=z;lia
    refine ZR (wpAny_updateDictKeysTo gd datd (ZS (q _ ⟨_,_,epd+1,Heap.get?_update_self _ gd (Obj.isFreed_of_dict (Obj.data_mapDictKeys datd _)),exd.mapDictKeys _,Obj.data_mapDictKeys datd _,ento,fun x hx=>?_,ndo⟩ (Heap.SameBut.update ..))) zz)
    exact knd.keeps (keyso x hx) gd datd (Heap.SameBut.update ..)
   ·rename_i nz
    have e0:more=[]:=by
     have:eso.size=0:=Array.isEmpty_iff_size_eq_zero.mp (by simpa using nz)
     rw[so] at this;exact List.length_eq_zero_iff.mp this
    subst e0
    exact ZS (q _ hd (Heap.SameBut.refl _ _))
  ·refine ZR (wpAny_dictEpoch go dato (ZR (wpAny_dictEntries go dato (ZR ?_))))
   rw[Std.Legacy.Range.forIn_eq_forIn_range']
   simp only[Std.Legacy.Range.size,Nat.sub_zero,Nat.add_sub_cancel,Nat.div_one]
   refine wpAny_forIn_list _ (fun rest _ s'=>∃h' j,s'={ s with heap:=h' }∧rest=List.range' j (eso.size-j)∧j≤eso.size∧h'.DictOfH knd d (C8 xs (more.take j))∧Heap.SameBut d s.heap h') _ ?_ ?_ _ _ ⟨s.heap,0,rfl,by simp,Nat.zero_le _,hd,Heap.SameBut.refl _ _⟩
   ·rintro i rest b s' ⟨h',j,rfl,hr,hj,hd',sb⟩
    have lt:j<eso.size:=by
     by_cases c:j<eso.size
     ·exact c
     ·rw[Nat.sub_eq_zero_of_le (Nat.not_lt.mp c)] at hr;cases hr
    have er:i=j∧rest=List.range' (j+1) (eso.size-(j+1)):=by
     rw[show eso.size-j=(eso.size-(j+1))+1 by lia,List.range'_succ] at hr
     exact List.cons.inj hr
    obtain⟨rfl,er⟩:=er
    have go':h'.get? o=some oo:=(sb.2 o ne.symm).trans go
    obtain⟨x,hx⟩:=A1 (xs:=more) (j:=i) (by lia)
    refine ZR (wpAny_dictEntries (s:={ s with heap:=h' }) go' dato ?_)
    rw[entry_at ento i,hx]
    have kx:=knd.keeps (keyso x (ZP hx)) gd datd sb
    have zl:(C8 xs (more.take i)).length≤sizeLine:=by
     have h1:=Hr (more.take i) xs
     have h2:(more.take i).length≤more.length:=by rw[List.length_take];lia
     lia
    refine ZR (wpAny_holding (Ly (s:={ s with heap:=h' }) room kx hd' zl fun h2 hd2 sb2=>?_))
    have go2:h2.get? o=some oo:=(sb2.2 o ne.symm).trans go'
    refine ZR (wpAny_dictEpoch (s:={ s with heap:=h2 }) go2 dato ?_)
    rw[if_neg (by simp)]
    exact ZS ⟨h2,i+1,rfl,er,lt,by rw[Kn xs more hx];exact hd2,sb.trans sb2⟩
   ·rintro b s' ⟨h',j,rfl,hr,hj,hd',sb⟩
    have ej:j=eso.size:=by
     by_cases c:j<eso.size
     ·rw[show eso.size-j=(eso.size-(j+1))+1 by lia,List.range'_succ] at hr;cases hr
     ·lia
    rw[ej,so,List.take_length] at hd'
    exact ZS (q h' hd' sb)
 ·refine ZR (wpAny_dictEpoch go dato (ZR (wpAny_dictEntries go dato (ZR ?_))))
  rw[Std.Legacy.Range.forIn_eq_forIn_range']
  simp only[Std.Legacy.Range.size,Nat.sub_zero,Nat.add_sub_cancel,Nat.div_one]
  refine wpAny_forIn_list _ (fun rest _ s'=>∃h' j,s'={ s with heap:=h' }∧rest=List.range' j (eso.size-j)∧j≤eso.size∧h'.DictOfH knd d (C8 xs (more.take j))∧Heap.SameBut d s.heap h') _ ?_ ?_ _ _ ⟨s.heap,0,rfl,by simp,Nat.zero_le _,hd,Heap.SameBut.refl _ _⟩
  ·rintro i rest b s' ⟨h',j,rfl,hr,hj,hd',sb⟩
   have lt:j<eso.size:=by
    by_cases c:j<eso.size
    ·exact c
    ·rw[Nat.sub_eq_zero_of_le (Nat.not_lt.mp c)] at hr;cases hr
   have er:i=j∧rest=List.range' (j+1) (eso.size-(j+1)):=by
    rw[show eso.size-j=(eso.size-(j+1))+1 by lia,List.range'_succ] at hr
    exact List.cons.inj hr
   obtain⟨rfl,er⟩:=er
   have go':h'.get? o=some oo:=(sb.2 o ne.symm).trans go
   obtain⟨x,hx⟩:=A1 (xs:=more) (j:=i) (by lia)
   refine ZR (wpAny_dictEntries (s:={ s with heap:=h' }) go' dato ?_)
   rw[entry_at ento i,hx]
   have kx:=knd.keeps (keyso x (ZP hx)) gd datd sb
   have zl:(C8 xs (more.take i)).length≤sizeLine:=by
    have h1:=Hr (more.take i) xs
    have h2:(more.take i).length≤more.length:=by rw[List.length_take];lia
    lia
   refine ZR (wpAny_holding (Ly (s:={ s with heap:=h' }) room kx hd' zl fun h2 hd2 sb2=>?_))
   have go2:h2.get? o=some oo:=(sb2.2 o ne.symm).trans go'
   refine ZR (wpAny_dictEpoch (s:={ s with heap:=h2 }) go2 dato ?_)
   rw[if_neg (by simp)]
   exact ZS ⟨h2,i+1,rfl,er,lt,by rw[Kn xs more hx];exact hd2,sb.trans sb2⟩
  ·rintro b s' ⟨h',j,rfl,hr,hj,hd',sb⟩
   have ej:j=eso.size:=by
    by_cases c:j<eso.size
    ·rw[show eso.size-j=(eso.size-(j+1))+1 by lia,List.range'_succ] at hr;cases hr
    ·lia
   rw[ej,so,List.take_length] at hd'
   exact ZS (q h' hd' sb)
end
theorem Vc{prog:Program}{w:World}{K:Type}[DecidableEq K](knd:KeyKind prog w K):Tame (tupleKind knd):=fun hk q=>by
 unfold Builtin.Dict.quietEq
 exact ZR (wpAny_specialOf (IsTupleKey.typeIs hk) F.slot_tuple_eq.lookup (ZS (q _)))
def Je(w:World)(k:List Key):Int:=reduceHash (Builtin.Tuple.tupleHashOf (k.map (Jbp w)))
def D4(kvs more:List (List Key×V)):List (List Key×V):=more.foldl (fun acc kv=>putK acc kv.1 kv.2) kvs
theorem Ua{H:Hp}:∀{more:List (List Key×V)} {ms:List (List Key×Addr×Value)} {kvs:List (List Key×V)} {xs:List (List Key×Addr×Value)},KT H more ms→KT H kvs xs→KT H (D4 kvs more) (C8 xs ms)
 | _,_,_,_,.nil,r=>r
 | _,_,kvs,xs,.cons (a:=p) (b:=q) h t,r=>by
   have e:q.1=p.1:=h.1.symm
   have r1:=KT.put r p.1 h.2.1 h.2.2
   show KT H (D4 (putK kvs p.1 p.2) _) (C8 (storedH xs q.1 q.2.1 q.2.2) _)
   rw[e]
   exact Ua t r1
theorem Xs{P:Program}{w:World}{H:Hp}:∀{kvs:List (List Key×V)} {xs:List (List Key×Addr×Value)},KT H kvs xs→(xs.map fun x=>(tupleKind (A8 P w)).hash x.1)=kvs.map fun q=>Je w q.1
 | _,_,.nil=>rfl
 | _,_,.cons r t=>by rw[List.map_cons,List.map_cons,Xs t,r.1];rfl
theorem Ml:∀(more kvs:List (List Key×V)),(D4 kvs more).length≤kvs.length+more.length
 | [],_=>ZG _
 | q::r,kvs=>by
   have h1:(D4 (putK kvs q.1 q.2) r).length≤_:=Ml r _
   have h2:=Es kvs q.1 q.2
   show(D4 (putK kvs q.1 q.2) r).length≤kvs.length+(r.length+1)
   lia
section
variable {X:Cx}{pins:List (Addr×Obj)}{σ:L2.St}{H:Hp}{s:Shared}{A:Around}{E:Value→Shared→Prop}
theorem O0{id:String}{d o:Addr}{kvs more:List (List Key×V)}{Q:PySem.Fin→Shared→Prop}(hu:A.units<cLine)(I:Inv X pins σ H s)(ed:H d=some (.dT kvs))(eo:Rd H o (.dT more))(ne:d≠o)(z:kvs.length+more.length≤sizeLine)(hh:kvs=[]→(more.map fun q=>Je X.w q.1).Nodup)(q:∀s',Inv X pins σ (upd H d (.dT (D4 kvs more))) s'→Q (.done (.ret .none)) s'):wpAny (model X.prog X.w) A (Builtin.Dict.updateFrom id d (.ref o) [] .none) Q E s:=by
 obtain⟨zd,ld,xs,rd,dd⟩:=Ni I.hok ed
 obtain⟨zo,lo,ms,ro,dO⟩:=Jh I.hok eo
 have l1:=Paired.length rd
 have l2:=Paired.length ro
 unfold Builtin.Dict.updateFrom
 refine ZR (wpAny_typeOf dO.typeIs ?_)
 rw[if_neg (by decide)]
 refine ZR ?_
 unfold Builtin.Dict.merge Builtin.Dict.readDirectly
 refine ZR (ZR (wpAny_isInstance dO.typeIs isSubtype_dict_dict ?_))
 simp only[Bool.not_true,Bool.false_eq_true,if_false]
 refine ZR (wpAny_specialOf dO.typeIs F.slot_dict_iter.lookup (ZS ?_))
 simp only[beq_self_eq_true,if_true]
 refine ZR (ZS (Vu (Vc _) hu ne lo dd dO (by lia) (fun e=>?_) fun h' dd' sb=>?_))
 ·rw[Xs ro]
  refine hh ?_
  rw[e] at l1
  exact List.length_eq_zero_iff.mp l1
 ·obtain⟨ob,es,ep,g,h2,h3,h4,_,h5⟩:=dd'
  have I':Inv X pins σ (upd H d (.dT (D4 kvs more))) { s with heap:=h' }:=by
   refine Gw (t':=s.toks) I (by rw[ed];exact True.intro) sb ⟨ob,g⟩ ⟨?_,ld,_,(Ua ro rd).keeps fun c ys ec=>?_,ob,es,ep,g,h2,h3,h4,h5⟩
   ·have:=Ml more kvs;lia
   ·rw[Ad (L9 ec ed (fun z=>nomatch z))];exact ec
  show wpAny _ _ (Builtin.Dict.addKeywords d [] >>= _) _ _ _
  exact ZR (ZS (ZS (q _ I')))
end
section
variable {X:Cx}
def Jgp(w:World):V→List V→Hp→VK→Prop:=fun x vs H Q=>∃(d o:Addr)(kvs more:List (List Key×V)),x=.ref d∧vs=[.ref o]∧H d=some (.dT kvs)∧Rd H o (.dT more)∧d≠o∧kvs.length+more.length≤sizeLine∧(kvs=[]→(more.map fun q=>Je w q.1).Nodup)∧Q .non (upd H d (.dT (D4 kvs more)))
theorem Jdo(hu:X.A.units+1<cLine):MtM X "dict.update" (Jgp X.w):=by
 intro pins s σ H x vs v us Q I rx rv h
 obtain⟨d,o,kvs,more,rfl,rfl,ed,eo,ne,z,hh,q⟩:=h
 cases rx
 obtain⟨u,rfl,ru⟩:=rv.one
 cases ru
 obtain⟨_,_,xs,rd,dd⟩:=Ni I.hok ed
 refine wpAny_call_entry PySem.F.slot_dict_update dd.typeIs PySem.F.entry_dict_update ?_ (PySem.F.args_dict_update_2 _ _)
 unfold Builtin.«dict.update» Builtin.Dict.selfAndRest
 refine ZR (ZR (wpAny_notOrdered_dict dd.typeIs (ZS ?_)))
 exact O0 (id:="dict.update") (show X.A.in1.units<cLine from tupleKind_room_in1 (knd:=A8 X.prog X.w) hu) I ed eo ne z hh fun s' I'=>⟨_,rfl,.non,_,I',rfl,q⟩
theorem Wd(hu:X.A.units+64<cLine):Em X (.type "dict") (fun xs H Q=>∃(o:Addr)(more:List (List Key×V)),xs=[.ref o]∧H o=some (.dT more)∧(more.map fun q=>Je X.w q.1).Nodup∧∀p,H p=none→Q (.ref p) (upd H p (.dT (D4 [] more)))):=by
 intro pins s σ H xs us Q I r h
 obtain⟨o,more,rfl,eo,hh,q⟩:=h
 obtain⟨u,rfl,rx⟩:=vals1 r
 cases rx
 refine callType_codes (Q₁:=fun obj s₁=>obj=.ref s.heap.objs.size∧s₁={ s with heap:=s.heap.push { cls:=.type "dict",data:=.dict #[] } }) F.kt_called_dict (F.kt_typeCall_dict_1 _) F.entry_dict_init (kt_code_dict_new _ ⟨rfl,rfl⟩) ?_
 rintro obj s₁ ⟨rfl,rfl⟩
 have hn:H s.heap.objs.size=none:=I.hok.fresh (ZG _)
 have I1:=I.laid (a:=s.heap.objs.size) (o:=.dT []) (t':=s.toks) (fun _ _ z=>ZT _ z) (ZG _) (Nj s.heap I.big)
 have e1:(upd H s.heap.objs.size (.dT [])) s.heap.objs.size=some (.dT []):=Ab
 obtain⟨_,_,xs,rd,dd⟩:=Ni I1.hok e1
 refine⟨dd.typeIs,F.args_dict_init_2 _ _,?_⟩
 unfold Builtin.«dict.__init__» Builtin.Dict.selfAndRest
 refine ZR (ZR (wpAny_notOrdered_dict dd.typeIs (ZS ?_)))
 have ne:s.heap.objs.size≠o:=fun z=>by rw[←z,hn] at eo;cases eo
 have eo1:(upd H s.heap.objs.size (.dT [])) o=some (.dT more):=by rw[Ad ne.symm];exact eo
 obtain⟨zo,_⟩:=Ni I.hok eo
 have hu2:X.A.in1.in1.units<cLine:=by
  have h1:X.A.in1.in1.units=X.A.units+1+1:=by first|rfl|simp[units_in1]
  lia
 exact O0 (id:="dict.__init__") hu2 I1 e1 (.inl eo1) ne (by rw[List.length_nil];lia) (fun _=>hh) fun s' I'=>⟨rfl,.ref s.heap.objs.size,_,by rw[K4] at I';exact I',rfl,q _ hn⟩
end
def hN(a b:Nat):Int:=reduceHash (Builtin.Tuple.tupleHashOf [hashInt (a:Int),hashInt (b:Int)])
theorem Bf{α β:Type}{R:α→β→Prop}:∀{as:List α} {bs:List β},Paired R as bs→∀{a:α} {b:β},R a b→Paired R (as++[a]) (bs++[b])
 | _,_,.nil,_,_,h=>.cons h .nil
 | _,_,.cons h t,_,_,h'=>.cons h (Bf t h')
theorem Kr{α:Type}(b:α→Bool){ts:List α}{i:Nat}{t:α}(h:ts[i]?=some t):(ts.take (i+1)).filter b=(ts.take i).filter b++(if b t=true then [t] else []):=by
 rw[List.take_succ,h,List.filter_append]
 cases e:b t<;>simp[e]
theorem Fq{α:Type}(b:α→Bool)(ts:List α)(i:Nat):((ts.take i).filter b).length≤ts.length:=by
 have h1:=List.length_filter_le b (ts.take i)
 have h2:(ts.take i).length≤ts.length:=by rw[List.length_take];lia
 lia
def Chosen(p:Addr)(b:T2→Bool)(ts:List T2)(H:Hp)(i:Nat)(ys:List V)(H2:Hp):Prop :=
 ∃bs:List Addr,ys=bs.map V.ref∧Bp H H2∧H2 p=some (.lst ys)∧ThsAt H2 bs ((ts.take i).filter b)
section
variable {p:Addr}{b:T2→Bool}{ts:List T2}{H:Hp}{tt:TT}{caps:List (Str×Nat)}{σ:L2.St}{Q:Hp→Prop}
theorem Chosen.start(hp:H p=none):Chosen p b ts H 0 [] (upd H p (.lst [])):=⟨[],rfl,Ah hp,Ab,.nil⟩
theorem Ji6(hp:H p=none)(hz:ts.length≤900)(ht:∀(H2:Hp) (a:Addr) (t:T2) (Q':Bool→Hp→Prop),Bp H H2→H2 a=some (.tup (tv t))→t∈ts→Q' (b t) H2→tt (some (.ref a)::Ck σ caps) H2 Q'){i:Nat}{ys:List V}{H2:Hp}{a:Addr}{t:T2}{N:List V→Hp→Prop}(pv:Chosen p b ts H i ys H2)(hi:ts[i]?=some t)(ha:H2 a=some (.tup (tv t)))(n:∀ys H',Chosen p b ts H (i+1) ys H'→N ys H') :
 tt (some (.ref a)::Ck σ caps) H2 fun c H4=>if c=true then Co 0 (some (.ref a)::Ck σ caps) H4 fun v H5=>H5 p=some (.lst ys)∧ys.length<sizeLine∧N (ys++[v]) (upd H5 p (.lst (ys++[v]))) else N ys H4:=by
 obtain⟨bs,ey,sm,hp2,th⟩:=pv
 have e1:=Kr b hi
 have ln:ys.length≤ts.length:=by rw[ey,ZA,Paired.length th];exact Fq b ts i
 refine ht H2 a t _ sm ha (ZP hi) ?_
 cases c:b t with
 | false =>
   rw[c] at e1
   rw[if_neg (by decide)]
   exact n ys H2 ⟨bs,ey,sm,hp2,by rw[e1];simpa using th⟩
 | true =>
   rw[c,if_pos rfl] at e1
   rw[if_pos rfl]
   have s2:Bp H (upd H2 p (.lst (ys++[V.ref a]))):=fun d o e=>by
    rw[Ad (Am e hp)];exact sm d o e
   have kt:KeepT H2 (upd H2 p (.lst (ys++[V.ref a]))):=Ji1 fun o' e=>by
    rw[hp2] at e;cases e;exact⟨fun _ z=>(by cases z),fun _ _ z=>(by cases z)⟩
   refine⟨_,rfl,hp2,A3 (by lia),n _ _ ⟨bs++[a],by rw[ey,ZF];rfl,s2,Ab,?_⟩⟩
   rw[e1]
   exact Bf (ThsAt.keep kt th) (kt.tup _ _ ha)
theorem O4{K:W.Frag}{l:Addr}{as:List Addr}(hp:H p=none)(hz:ts.length≤900)(hl:H l=some (.lst (as.map V.ref)))(th:ThsAt H as ts)(ht:∀(H2:Hp) (a:Addr) (t:T2) (Q':Bool→Hp→Prop),Bp H H2→H2 a=some (.tup (tv t))→t∈ts→Q' (b t) H2→tt (some (.ref a)::Ck σ caps) H2 Q')(k:∀(H2:Hp) (bs:List Addr),Bp H H2→H2 p=some (.lst (bs.map V.ref))→ThsAt H2 bs (ts.filter b)→Q H2) :
 ∃W:Nat→Nat→List V→Hp→Prop,(∃m,W 0 m [] (upd H p (.lst [])))∧∀i m ys H2,W i m ys H2→H2 p=some (.lst ys) ∧
  (((Itl K l).stop i H2∧Q H2)∨((Itl K l).go i H2∧∀x H3,(Itl K l).yld i H2 x H3→tt (some x::Ck σ caps) H3 fun b H4 =>
    if b=true then Co 0 (some x::Ck σ caps) H4 fun v H5=>H5 p=some (.lst ys)∧ys.length<sizeLine∧∃m',m'<m∧W (i+1) m' (ys++[v]) (upd H5 p (.lst (ys++[v])))
    else ∃m',m'<m∧W (i+1) m' ys H4)):=by
 have lt:=Paired.length th
 refine Fb (K:=K) (a:=l) (p:=p) (xs:=as.map V.ref) (caps:=caps) (fun i ys H2=>Chosen p b ts H i ys H2) (Chosen.start hp) (fun i ys H2 _ pv=>?_) (fun i x ys H2 N hx pv n=>?_) fun ys H2 pv=>?_
 ·obtain⟨bs,_,sm,hp2,_⟩:=pv
  exact⟨SqL.of (sm _ _ hl),hp2⟩
 ·rw[ZH] at hx
  cases ea:as[i]? with
  | none=>rw[ea] at hx;cases hx
  | some a =>
    rw[ea] at hx
    have hx:V.ref a=x:=ZO hx
    subst hx
    obtain⟨t,et⟩:=A1 (xs:=ts) (j:=i) (by have:=(ZJ ea).1;lia)
    have ha:=A2 th i a t ea et
    obtain⟨bs,e0,sm,hp2,th2⟩:=id pv
    exact Ji6 hp hz ht pv et (sm _ _ ha) n
 ·obtain⟨bs,ey,sm,hp2,th2⟩:=pv
  rw[ZA,lt,List.take_length] at th2
  exact k H2 bs sm (by rw[←ey];exact hp2) th2
theorem Kd{α:Type}{d:Addr}{l:List α}{key:α→T2}{val:α→V}{ob:Obj}(hp:H p=none)(hz:l.length≤900)(hd:H d=some (.frz ob (.dT (l.map fun q=>(tk (key q),val q)))))(ht:∀(H2:Hp) (a:Addr) (t:T2) (Q':Bool→Hp→Prop),Bp H H2→H2 a=some (.tup (tv t))→t∈l.map key→Q' (b t) H2→tt (some (.ref a)::Ck σ caps) H2 Q')(k:∀(H2:Hp) (bs:List Addr),Bp H H2→H2 p=some (.lst (bs.map V.ref))→ThsAt H2 bs ((l.map key).filter b)→Q H2) :
 ∃W:Nat→Nat→List V→Hp→Prop,(∃m,W 0 m [] (upd H p (.lst [])))∧∀i m ys H2,W i m ys H2→H2 p=some (.lst ys) ∧
  (((ItD d (l.map fun q=>(tk (key q),val q)) ob).stop i H2∧Q H2)∨((ItD d (l.map fun q=>(tk (key q),val q)) ob).go i H2∧∀x H3,(ItD d (l.map fun q=>(tk (key q),val q)) ob).yld i H2 x H3→tt (some x::Ck σ caps) H3 fun b H4 =>
    if b=true then Co 0 (some x::Ck σ caps) H4 fun v H5=>H5 p=some (.lst ys)∧ys.length<sizeLine∧∃m',m'<m∧W (i+1) m' (ys++[v]) (upd H5 p (.lst (ys++[v])))
    else ∃m',m'<m∧W (i+1) m' ys H4)):=by
 have hz':(l.map key).length≤900:=by rw[ZA];exact hz
 refine⟨fun i m ys H2=>m=l.length-i∧i≤l.length∧Chosen p b (l.map key) H i ys H2,⟨l.length,by simp,Nat.zero_le _,Chosen.start hp⟩,?_⟩
 rintro i m ys H2 ⟨rfl,hi,pv⟩
 obtain⟨bs,ey,sm,hp2,th2⟩:=id pv
 have hd2:=sm _ _ hd
 refine⟨hp2,?_⟩
 by_cases hlt:i<l.length
 ·refine .inr ⟨⟨hd2,by rw[ZA];exact hlt⟩,fun x H3 y=>?_⟩
  obtain⟨e,a,kk,v,ex,ek,ha⟩:=y
  subst e ex
  rw[ZH] at ek
  obtain⟨q,hq⟩:=A1 hlt
  rw[hq] at ek
  have ek:(tk (key q),val q)=(kk,v):=ZO ek
  have e1:kk=tk (key q):=(Prod.mk.inj ek).1.symm
  rw[e1,Wn] at ha
  exact Ji6 (N:=fun zs H'=>∃m',m'<l.length-i∧(m'=l.length-(i+1)∧i+1≤l.length∧Chosen p b (l.map key) H (i+1) zs H')) hp hz' ht pv (by rw[ZH,hq];rfl) ha fun zs H' pz=>⟨_,by lia,rfl,hlt,pz⟩
 ·have e:i=l.length:=by lia
  subst e
  refine .inl ⟨⟨hd2,by rw[ZA];exact ZG _⟩,?_⟩
  have e2:(l.map key).take l.length=l.map key:=by rw[←ZA (f:=key),List.take_length]
  rw[e2] at th2
  exact k H2 bs sm (by rw[←ey];exact hp2) th2
end
def Rch(nx:T2→List T2):Nat→List T2→List T2→List T2→Prop
 | 0,ahead,found,R=>ahead=[]∧R=found
 | n+1,ahead,found,R=>∃a t,ahead=a++[t]∧((t∈found∧Rch nx n a found R)∨(t∉found∧Rch nx n (a++nx t) (found++[t]) R))
theorem Rch.len{nx:T2→List T2}:∀{n:Nat} {ahead found R:List T2},Rch nx n ahead found R→ahead.length≤n
 | 0,_,_,_,h=>by rw[h.1];exact ZG _
 | n+1,_,_,_,⟨a,t,e,h⟩=>by
   rw[e,ZE]
   rcases h with⟨_,h⟩|⟨_,h⟩
   ·have:=h.len;show a.length+1≤n+1;lia
   ·have:=h.len;rw[ZE] at this;show a.length+1≤n+1;lia
theorem Rch.sub{nx:T2→List T2}:∀{n:Nat} {ahead found R:List T2},Rch nx n ahead found R→(∀t∈found,t∈R)∧∀t∈ahead,t∈R
 | 0,_,_,_,h=>by rw[h.1,h.2];exact⟨fun _ z=>z,fun _ z=>by cases z⟩
 | n+1,_,_,_,⟨a,t,e,h⟩=>by
   rw[e]
   rcases h with⟨ht,h⟩|⟨_,h⟩
   ·refine⟨h.sub.1,fun u hu=>?_⟩
    rcases ZI hu with hu|hu
    ·exact h.sub.2 u hu
    ·have:u=t:=by simpa using hu
     rw[this];exact h.sub.1 t ht
   ·refine⟨fun u hu=>h.sub.1 u (ZB _ hu),fun u hu=>?_⟩
    rcases ZI hu with hu|hu
    ·exact h.sub.2 u (ZB _ hu)
    ·exact h.sub.1 u (ZC _ hu)
theorem Rch.closed{nx:T2→List T2}:∀{n:Nat} {ahead found R:List T2},Rch nx n ahead found R→(∀t∈found,∀u∈nx t,u∈found∨u∈ahead)→∀t∈R,∀u∈nx t,u∈R
 | 0,_,_,_,h,c=>by
   rw[h.2];rw[h.1] at c
   exact fun t ht u hu=>(c t ht u hu).elim id fun z=>by cases z
 | n+1,_,found,_,⟨a,t,e,h⟩,c=>by
   rw[e] at c
   rcases h with⟨ht,h⟩|⟨_,h⟩
   ·refine h.closed fun s hs u hu=>?_
    rcases c s hs u hu with z|z
    ·exact .inl z
    ·rcases ZI z with z|z
     ·exact .inr z
     ·have:u=t:=by simpa using z
      rw[this];exact .inl ht
   ·refine h.closed fun s hs u hu=>?_
    rcases ZI hs with hs|hs
    ·rcases c s hs u hu with z|z
     ·exact .inl (ZB _ z)
     ·rcases ZI z with z|z
      ·exact .inr (ZB _ z)
      ·exact .inl (ZC _ z)
    ·have:s=t:=by simpa using hs
     rw[this] at hu
     exact .inr (ZC _ hu)
theorem Hi{α:Type}:∀{l:List α},l≠[]→∃a t,l=a++[t]
 | [],h=>absurd rfl h
 | [x],_=>⟨[],x,rfl⟩
 | x::y::l,_=>by
   obtain⟨a,t,e⟩:=Hi (l:=y::l) (by simp)
   exact⟨x::a,t,by rw[e];rfl⟩
theorem Rch.ex{nx:T2→List T2}{keys:List T2}{B:Nat}(sub:∀t,∀u∈nx t,u∈keys)(sz:∀t,(nx t).length≤B):∀(m:Nat)(ahead found:List T2),(∀t∈ahead,t∈keys)→(keys.filter fun t=>decide (t∉found)).length*(B+1)+ahead.length≤m→∃n R,n≤m∧Rch nx n ahead found R
 | m,ahead,found,ha,hm=>by
   by_cases e:ahead=[]
   ·exact⟨0,found,Nat.zero_le _,e,rfl⟩
   obtain⟨a,t,ea⟩:=Hi e
   have l1:ahead.length=a.length+1:=by rw[ea,ZE];rfl
   have ha':∀u∈a,u∈keys:=fun u hu=>ha u (by rw[ea];exact ZB _ hu)
   have ht:t∈keys:=ha t (by rw[ea];exact ZC _ (by simp))
   match m,hm with
   | 0,hm=>exact absurd hm (by lia)
   | m+1,hm =>
     by_cases hf:t∈found
     ·obtain⟨n,R,h1,h2⟩:=Rch.ex sub sz m a found ha' (by lia)
      exact⟨n+1,R,by lia,a,t,ea,.inl ⟨hf,h2⟩⟩
     ·have lt:(keys.filter fun u=>decide (u∉found++[t])).length<(keys.filter fun u=>decide (u∉found)).length:=by
       have e1:(keys.filter fun u=>decide (u∉found++[t]))=(keys.filter fun u=>decide (u∉found)).filter fun u=>decide (u≠t):=by
        rw[List.filter_filter]
        refine List.filter_congr fun u _=>?_
        by_cases c1:u∈found<;>by_cases c2:u=t<;>simp[c1,c2]
       rw[e1]
       refine List.length_filter_lt_length_iff_exists.mpr ⟨t,List.mem_filter.mpr ⟨ht,by simpa using hf⟩,by simp⟩
      have l2:=sz t
      have key:(keys.filter fun u=>decide (u∉found++[t])).length*(B+1)+(a++nx t).length≤m:=by
       rw[ZE]
       have:((keys.filter fun u=>decide (u∉found++[t])).length+1)*(B+1)≤(keys.filter fun u=>decide (u∉found)).length*(B+1):=Nat.mul_le_mul_right _ lt
       rw[Nat.add_mul,Nat.one_mul] at this
       lia
      obtain⟨n,R,h1,h2⟩:=Rch.ex sub sz m (a++nx t) (found++[t]) (fun u hu=>(ZI hu).elim (ha' u) (sub t u)) key
      exact⟨n+1,R,by lia,a,t,ea,.inr ⟨hf,h2⟩⟩
def nxT(hl:HL)(t:T2):List T2:=(getH hl t).filter fun u=>decide (u∈hl.map (·.1))
def G8(G:HGh):List T2:=(G.outs.map (·.1)).filter fun t=>decide (0<Ai G.outs t)
def startT(G:HGh):List T2:=(G.hand++G8 G).filter fun t=>decide (t∈G.holds.map (·.1))
def keepR(G:HGh)(R:List T2):HGh:={ G with outs:=G.outs.filter (fun q=>decide (q.1∈R)),holds:=G.holds.filter (fun q=>decide (q.1∈R)) }
def heldB(G:HGh)(t:T2):Bool:=decide (t∈G.hand) || G.holds.any fun q=>decide (t∈q.2.2)
def keepB(G:HGh):HGh:={ G with recs:=G.recs.filter fun q=>heldB G q.1 }
section
variable {C p m:Addr}{H H':Hp}{G M:HGh}{n:Nat}
theorem Ul{hl:HL}(s:hl.Sublist G.holds):(foot { G with holds:=hl }).Sublist (foot G):=by
 unfold foot
 exact((((s.map _).cons₂ _).cons₂ _).cons₂ _).cons₂ _
theorem HouseAt.subHolds(x:HouseAt C H p G){hl:HL}(s:hl.Sublist G.holds):HouseAt C (upd H G.l (Ji hl)) p { G with holds:=hl }:=by
 obtain⟨⟨a1,a2,a3⟩,⟨b1,b2⟩,c1,d1⟩:=x.nds
 have np:=x.p_ne (b:=G.l) (by simp[foot])
 obtain⟨dx,e⟩:=x.ob
 exact⟨⟨dx,by rw[Ad np.symm];exact e⟩,by rw[Ad a2];exact x.dh,by rw[Ad b1];exact x.dO,Ab,by rw[Ad c1.symm];exact x.dr,fun q hq=>by rw[Ad (d1 q (s.subset hq)).2.2.1];exact x.hl q (s.subset hq),x.nd.sublist (Ul s)⟩
end
theorem Jbv{d:Addr}{kvs:List (List Key×V)}{ob:Obj}{g:TG}{tb:TS}{D:Ends}{σ:L2.St}{H:Hp}(Pv:Nat→L2.St→Hp→Prop)(h0:Pv 0 σ H)(hf:∀i σ H,i≤kvs.length→Pv i σ H→H d=some (.frz ob (.dT kvs)))(hs:∀i a k v σ H,kvs[i]?=some (k,v)→H a=some (.tup (k.map kV))→Pv i σ H→g (.ref a) σ H fun σ2 H2=>tb { D with nx:=Pv (i+1),ct:=Pv (i+1),bk:=D.nx } σ2 H2)(hd:∀σ H,Pv kvs.length σ H→D.nx σ H) :
 ∃W:Nat→Nat→L2.St→Hp→Prop,(∃m,W 0 m σ H)∧∀i m σ H,W i m σ H →
  ((ItD d kvs ob).stop i H∧D.nx σ H)∨((ItD d kvs ob).go i H∧∃N:L2.St→Hp→Prop,(∀σ' H',N σ' H'→∃m',m'<m∧W (i+1) m' σ' H')∧∀x H',(ItD d kvs ob).yld i H x H'→g x σ H' fun σ2 H2=>tb { D with nx:=N,ct:=N,bk:=D.nx } σ2 H2):=by
 refine⟨fun i m σ H=>m=kvs.length-i∧i≤kvs.length∧Pv i σ H,⟨kvs.length,by simp,Nat.zero_le _,h0⟩,?_⟩
 rintro i m σ H ⟨rfl,hi,pv⟩
 have fz:=hf i σ H hi pv
 by_cases hlt:i<kvs.length
 ·refine .inr ⟨⟨fz,hlt⟩,Pv (i+1),fun σ' H' p'=>⟨kvs.length-(i+1),by lia,rfl,hlt,p'⟩,fun x H' y=>?_⟩
  obtain⟨e,a,k,v,ex,ek,ha⟩:=y
  subst e ex
  exact hs i a k v σ _ ek ha pv
 ·have e:i=kvs.length:=by lia
  subst e
  exact .inl ⟨⟨fz,ZG _⟩,hd σ H pv⟩
def Dw(l m:List T2):List T2:=m.foldl Bo l
theorem Mn:∀{m l:List T2} {t:T2},t∈Dw l m↔t∈l∨t∈m
 | [],l,t=>by simp[Dw]
 | u::m,l,t=>by
   show t∈Dw (Bo l u) m↔_
   rw[Mn,mem_addT',List.mem_cons,or_assoc]
theorem Nu:∀(m l:List T2),(Dw l m).length≤l.length+m.length
 | [],l=>ZG _
 | u::m,l=>by
   have h1:(Dw (Bo l u) m).length≤_:=Nu m (Bo l u)
   have h2:=Gn l u
   show(Dw (Bo l u) m).length≤l.length+(m.length+1)
   lia
theorem Nt:∀(m l:List T2),(l++m).Nodup→Dw l m=l++m
 | [],l,_=>(List.append_nil l).symm
 | u::m,l,nd=>by
   have nu:u∉l:=fun z=>by
    rw[List.nodup_append] at nd
    exact nd.2.2 u z u (ZL ..) rfl
   have e2:l++[u]++m=l++u::m:=by rw[List.append_assoc];rfl
   show Dw (Bo l u) m=_
   have e3:Bo l u=l++[u]:=by unfold Bo;rw[if_neg nu]
   rw[e3,Nt m _ (by rw[e2];exact nd),e2]
theorem F4:∀(m l:List T2),D4 (l.map fun q=>(tk q,V.bl true)) (m.map fun q=>(tk q,V.bl true))=(Dw l m).map fun q=>(tk q,V.bl true)
 | [],l=>rfl
 | u::m,l=>by
   show D4 (putK (l.map fun q=>(tk q,V.bl true)) (tk u) (V.bl true)) (m.map fun q=>(tk q,V.bl true))=_
   rw[Eb]
   exact F4 m (Bo l u)
theorem Ko{α:Type}{l:List α}{k:α→T2}{f:α→V}{t:T2}:((l.find? fun q=>decide (k q=t)).map f).isSome=decide (t∈l.map k):=by
 rw[Option.isSome_map]
 cases e:l.find? fun q=>decide (k q=t) with
 | none =>
   have:t∉l.map k:=fun m=>by
    obtain⟨q,hq,e2⟩:=ZN m
    have:=List.find?_eq_none.mp e q hq
    exact absurd e2 (by simpa using this)
   simp[this]
 | some q =>
   have h1:k q=t:=by simpa using List.find?_some e
   have h2:t∈l.map k:=List.mem_map.mpr ⟨q,List.mem_of_find?_eq_some e,h1⟩
   simp[h2]
theorem Vz{H:Hp}{d a:Addr}{α:Type}{l:List α}{k:α→T2}{f:α→V}{t:T2}(hd:Rd H d (.dT (l.map fun q=>(tk (k q),f q))))(ha:H a=some (.tup (tv t))):∃o,DGet H d (.ref a) o∧o.isSome=decide (t∈l.map k) :=
 ⟨_,.inr ⟨_,tk t,a,hd,rfl,ha,rfl⟩,by rw[Dp];exact Ko⟩
theorem Jdt{α:Type}(a:List α)(t:α):(a++[t])[(a++[t]).length-1]?=some t:=by
 rw[ZE];simp
theorem Zu{H:Hp}{as:List Addr}{a:List T2}{t:T2}(th:ThsAt H as (a++[t])):∃(bs:List Addr)(c:Addr),as=bs++[c]∧ThsAt H bs a∧H c=some (.tup (tv t)):=by
 have hl:=Paired.length th
 have ne:as≠[]:=fun z=>by rw[z] at hl;simp at hl
 obtain⟨bs,c,e⟩:=Hi ne
 subst e
 have l2:bs.length=a.length:=by rw[ZE,ZE] at hl;simpa using hl
 refine⟨bs,c,rfl,?_,?_⟩
 ·have go:∀{xs:List Addr} {ys:List T2} {x:Addr} {y:T2},xs.length=ys.length→ThsAt H (xs++[x]) (ys++[y])→ThsAt H xs ys:=by
   intro xs
   induction xs with
   | nil=>intro ys x y h _;cases ys with
     | nil=>exact .nil
     | cons _ _=>simp at h
   | cons x0 xs ih=>intro ys x y h q;cases ys with
     | nil=>simp at h
     | cons y0 ys =>
       cases q with
       | cons h1 q=>exact .cons h1 (ih (by simpa using h) q)
  exact go l2 th
 ·exact A2 th bs.length c t (by simp) (by rw[l2];simp)
theorem Po{H:Hp}:∀{as:List Addr} {ts:List T2} {bs:List Addr} {us:List T2},ThsAt H as ts→ThsAt H bs us→ThsAt H (as++bs) (ts++us)
 | _,_,_,_,.nil,r=>r
 | _,_,_,_,.cons h t,r=>.cons h (Po t r)
theorem F7{α:Type}(k:α→T2)(l:List α){ts:List T2}{i:Nat}{t:T2}(h:ts[i]?=some t):(l.filter fun q=>decide (k q∉ts.take (i+1)))=(l.filter fun q=>decide (k q∉ts.take i)).filter fun q=>decide (k q≠t):=by
 rw[List.filter_filter,List.take_succ,h]
 refine List.filter_congr fun q _=>?_
 by_cases c1:k q∈ts.take i<;>by_cases c2:k q=t<;>simp[c1,c2]
theorem Do{α:Type}(k:α→T2)(l:List α)(f:T2→Bool):(l.filter fun q=>f (k q)).map k=(l.map k).filter f:=by
 rw[List.filter_map];rfl
theorem Jn{α:Type}{l:List α}{k:α→T2}{f:α→V}{t:T2}(h:t∈l.map k):∃v,Cw (l.map fun q=>(tk (k q),f q)) (tk t)=some v:=by
 rw[Dp]
 have:=Ko (l:=l) (k:=k) (f:=f) (t:=t)
 rw[decide_eq_true h] at this
 exact Option.isSome_iff_exists.mp this
def Bl(G:HGh)(ts:List T2):HGh:={ G with outs:=G.outs.filter (fun q=>decide (q.1∉ts)),holds:=G.holds.filter (fun q=>decide (q.1∉ts)) }
theorem V8(G:HGh):Bl G []=G:=by
 have a1:G.outs.filter (fun q=>decide (q.1∉([]:List T2)))=G.outs:=List.filter_eq_self.mpr fun q _=>by simp
 have a2:G.holds.filter (fun q=>decide (q.1∉([]:List T2)))=G.holds:=List.filter_eq_self.mpr fun q _=>by simp
 unfold Bl
 rw[a1,a2]
theorem find_self{α:Type}{k:α→T2}{l:List α}(nd:(l.map k).Nodup){q:α}(hq:q∈l):l.find? (fun r=>decide (k r=k q))=some q:=by
 cases e:l.find? fun r=>decide (k r=k q) with
 | none=>have:=List.find?_eq_none.mp e q hq;simp at this
 | some r =>
   have h1:k r=k q:=by simpa using List.find?_some e
   rw[Ei nd (List.mem_of_find?_eq_some e) hq h1]
def Ci(hand:List T2)(qs:HL):List T2:=qs.foldl (fun l q=>Dw l q.2.2) hand
theorem mem_handAll:∀{qs:HL} {hand:List T2} {t:T2},t∈Ci hand qs↔t∈hand∨∃q∈qs,t∈q.2.2
 | [],hand,t=>by simp[Ci]
 | q::qs,hand,t=>by
   show t∈Ci (Dw hand q.2.2) qs↔_
   rw[mem_handAll,Mn,or_assoc]
   simp
theorem Kq{B:Nat}:∀{qs:HL} {hand:List T2},(∀q∈qs,q.2.2.length≤B)→(Ci hand qs).length≤hand.length+qs.length*B
 | [],hand,_=>by simp[Ci]
 | q::qs,hand,h=>by
   have h1:(Ci (Dw hand q.2.2) qs).length≤_:=Kq fun r hr=>h r (ZD _ hr)
   have h2:=Nu q.2.2 hand
   have h3:=h q (ZL ..)
   show(Ci (Dw hand q.2.2) qs).length≤hand.length+(qs.length+1)*B
   rw[Nat.add_mul,Nat.one_mul]
   lia
theorem Rn(hand:List T2){qs:HL}{i:Nat}{q:T2×Addr×List T2}(h:qs[i]?=some q):Ci hand (qs.take (i+1))=Dw (Ci hand (qs.take i)) q.2.2:=by
 unfold Ci
 rw[List.take_succ,h,List.foldl_append]
 rfl
theorem Za(G:HGh)(t:T2):(decide (t∈Ci G.hand G.holds))=heldB G t:=by
 unfold heldB
 by_cases h:t∈Ci G.hand G.holds
 ·rw[decide_eq_true h]
  rcases mem_handAll.mp h with h|⟨q,hq,h⟩
  ·simp[h]
  ·have:(G.holds.any fun q=>decide (t∈q.2.2))=true:=List.any_eq_true.mpr ⟨q,hq,by simpa using h⟩
   rw[this];simp
 ·rw[decide_eq_false h]
  have h1:t∉G.hand:=fun z=>h (mem_handAll.mpr (.inl z))
  have h2:(G.holds.any fun q=>decide (t∈q.2.2))=false:=by
   rw[List.any_eq_false]
   intro q hq z
   exact h (mem_handAll.mpr (.inr ⟨q,hq,by simpa using z⟩))
  simp[h1,h2]
theorem Rq{α:Type}{b:α→Bool}{ts:List α}{i:Nat}{t:α}(h:ts[i]?=some t):(ts.take (i+1)).filter b=(ts.take i).filter b++(if b t=true then [t] else []):=Kr b h
theorem J8{α:Type}(b:α→Bool)(ts:List α)(i:Nat):((ts.take i).filter b).length≤ts.length:=Fq b ts i
theorem Km{α:Type}:∀{l:List α} {i:Nat} {t:α},l.Nodup→l[i]?=some t→t∉l.take i
 | [],_,_,_,h=>by simp at h
 | x::l,0,t,_,_=>by simp
 | x::l,i+1,t,nd,h=>by
   have nd:=List.nodup_cons.mp nd
   have h:l[i]?=some t:=by simpa using h
   rw[List.take_succ_cons]
   intro z
   rcases ZM z with z|z
   ·exact nd.1 (by rw[←z];exact ZP h)
   ·exact Km nd.2 h z
def BackAt(H:Hp):List Addr→List (T2×Int)→Prop:=Paired fun a q=>∃c,H a=some (.tup [.ref c,.int q.2])∧H c=some (.tup (tv q.1))
theorem BackAt.keep{H H':Hp}(k:KeepT H H'){as:List Addr}{bs:List (T2×Int)}(x:BackAt H as bs):BackAt H' as bs:=Ay (fun _ _ ⟨c,e1,e2⟩=>⟨c,k.tup _ _ e1,k.tup _ _ e2⟩) x
theorem Xo{H:Hp}{val:T2→V}:∀{l:List T2} {as:List Addr},Kys H (l.map fun q=>(tk q,val q)) as→ThsAt H as l
 | [],as,h=>by cases h;exact .nil
 | t::l,as,h=>by
   cases h with
   | cons h1 h2=>exact .cons (by rw[←Wn];exact h1) (Xo h2)
theorem O3{α:Type}(k:α→T2){l:List α}{ks R:List T2}(h:∀q∈l,k q∈ks):(l.filter fun q=>decide (k q∉ks.filter fun t=>decide (t∉R)))=l.filter fun q=>decide (k q∈R):=List.filter_congr fun q hq=>by
 by_cases c:k q∈R
 ·have:k q∉ks.filter fun t=>decide (t∉R):=fun z=>by have:=(List.mem_filter.mp z).2;simp[c] at this
  simp[c]
 ·have:k q∈ks.filter fun t=>decide (t∉R):=List.mem_filter.mpr ⟨h q hq,by simpa using c⟩
  simp[c,h q hq]
theorem Rt{G:HGh}{R:List T2}(ke:G.holds.map (·.1)=G.outs.map (·.1)):Bl G ((G.outs.map (·.1)).filter fun t=>decide (t∉R))=keepR G R:=by
 have h1:=O3 (fun q:T2×Int=>q.1) (l:=G.outs) (ks:=G.outs.map (·.1)) (R:=R) fun q hq=>List.mem_map_of_mem hq
 have h2:=O3 (fun q:T2×Addr×List T2=>q.1) (l:=G.holds) (ks:=G.outs.map (·.1)) (R:=R) fun q hq=>by rw[←ke];exact List.mem_map_of_mem hq
 unfold Bl keepR
 rw[h1,h2]
theorem Qz:Okd (.list []):=Ds fun _ h=>by cases h
section
variable {C p m:Addr}{H H':Hp}{G M:HGh}{n:Nat}
theorem Jaf{l:List (T2×Int)}{t:T2}(h:t∉l.map (·.1))(v:Int):Ba l t v=l++[(t,v)]:=by unfold Ba;rw[if_neg h]
theorem D1{l:List (T2×Int)}{t:T2}(h:t∉l.map (·.1)):Ai l t=0:=by
 unfold Ai
 rw[List.find?_eq_none.mpr fun q hq=>by
  have:¬q.1=t:=fun z=>h (List.mem_map.mpr ⟨q,hq,z⟩)
  simpa using this]
 rfl
end
theorem Lm{G:HGh}(h:(foot G).Nodup):(G.holds.map (·.2.1)).Nodup:=by
 unfold foot at h
 simp only[List.nodup_cons] at h
 exact h.2.2.2.2
section
variable {p:Addr}{H H':Hp}{G:HGh}
end
theorem Ub(l:HL):l.map (·.1)=(hs0 l).map (·.1):=by unfold hs0;rw[List.map_map];rfl
theorem Mz(l:HL)(R:List T2):hs0 (l.filter fun q=>decide (q.1∈R))=(hs0 l).filter fun q=>decide (q.1∈R):=by
 unfold hs0
 rw[List.filter_map];rfl
section
variable {G M:HGh}{n:Nat}{R:List T2}
theorem LikeW.keys(x:LikeW M G):M.holds.map (·.1)=G.holds.map (·.1):=by rw[Ub,Ub,show hs0 M.holds=hs0 G.holds from x.holds]
theorem LikeW.nx(x:LikeW M G):nxT M.holds=nxT G.holds:=by
 funext t
 unfold nxT
 rw[show getH M.holds t=getH G.holds t from Like.getH x t,x.keys]
theorem LikeW.start(x:LikeW M G):startT M=startT G:=by
 unfold startT G8
 rw[show M.hand=G.hand from x.hand,show M.outs=G.outs from x.outs,x.keys]
theorem LikeW.keepR(x:LikeW M G)(R:List T2):LikeW (FX.keepR M R) (FX.keepR G R):=by
 refine⟨x.num,x.made,rfl,x.hand,?_,x.recs,?_⟩
 ·show M.outs.filter _=G.outs.filter _
  rw[show M.outs=G.outs from x.outs]
 ·show hs0 (M.holds.filter fun q=>decide (q.1∈R))=hs0 (G.holds.filter fun q=>decide (q.1∈R))
  rw[Mz,Mz,show hs0 M.holds=hs0 G.holds from x.holds]
theorem Oz(G:HGh)(t:T2):heldB G t=(decide (t∈G.hand) || (hs0 G.holds).any fun q=>decide (t∈q.2)):=by
 unfold heldB hs0
 rw[List.any_map];rfl
theorem LikeW.heldB(x:LikeW M G)(t:T2):FX.heldB M t=FX.heldB G t:=by
 rw[Oz,Oz,show M.hand=G.hand from x.hand,show hs0 M.holds=hs0 G.holds from x.holds]
theorem LikeW.keepB(x:LikeW M G):LikeW (FX.keepB M) (FX.keepB G):=by
 refine⟨x.num,x.made,rfl,x.hand,x.outs,?_,x.holds⟩
 show M.recs.filter (fun q=>FX.heldB M q.1)=G.recs.filter (fun q=>FX.heldB G q.1)
 rw[show M.recs=G.recs from x.recs]
 exact List.filter_congr fun q _=>x.heldB q.1
theorem Jfn(ok:Ok G n){q:T2×Addr×List T2}(hq:q∈G.holds){t:T2}(ht:t∈q.2.2)(e:t∈G.holds.map (·.1)):t∈nxT G.holds q.1:=by
 have nd:(G.holds.map (·.1)).Nodup:=by rw[ok.ke];exact ok.on
 have f:=find_self (k:=fun q:T2×Addr×List T2=>q.1) nd hq
 have:getH G.holds q.1=q.2.2:=by unfold getH;rw[f];rfl
 unfold nxT
 rw[this]
 exact List.mem_filter.mpr ⟨ht,by simpa using e⟩
theorem Ok.keepR(ok:Ok G n)(st:∀t∈startT G,t∈R)(cl:∀t∈R,∀u∈nxT G.holds t,u∈R):Ok (FX.keepR G R) n:=by
 have mem:∀t,t∈G.outs.map (·.1)→t∈R→t∈(G.outs.filter fun q=>decide (q.1∈R)).map (·.1):=fun t h1 h2=>by
  rw[Do (fun q:T2×Int=>q.1) G.outs (fun t=>decide (t∈R))]
  exact List.mem_filter.mpr ⟨h1,by simpa using h2⟩
 have sub:∀t,t∈(G.outs.filter fun q=>decide (q.1∈R)).map (·.1)→t∈G.outs.map (·.1):=fun t h=>(List.filter_sublist.map _).subset h
 refine⟨ok.hn,ok.hz,ok.on.sublist (List.filter_sublist.map _),Nat.le_trans (List.length_filter_le _ _) ok.oz,?_,ok.rn,ok.rz,fun q hq=>ok.ln q (List.mem_filter.mp hq).1,fun t ht=>ok.new t (sub t ht),fun t ht e=>?_,fun q hq t ht e=>?_,ok.rk⟩
 ·show(G.holds.filter fun q=>decide (q.1∈R)).map (·.1)=(G.outs.filter fun q=>decide (q.1∈R)).map (·.1)
  rw[Do (fun q:T2×Addr×List T2=>q.1) G.holds (fun t=>decide (t∈R)),Do (fun q:T2×Int=>q.1) G.outs (fun t=>decide (t∈R)),ok.ke]
 ·have h1:=ok.hk t ht e
  refine mem t h1 (st t ?_)
  unfold startT
  exact List.mem_filter.mpr ⟨ZB _ ht,by rw[ok.ke];simpa using h1⟩
 ·obtain⟨hq1,hq2⟩:=List.mem_filter.mp hq
  have h1:=ok.lk q hq1 t ht e
  exact mem t h1 (cl q.1 (by simpa using hq2) t (Jfn ok hq1 ht (by rw[ok.ke];exact h1)))
theorem Ok.keepB(ok:Ok G n):Ok (FX.keepB G) n :=
 ⟨ok.hn,ok.hz,ok.on,ok.oz,ok.ke,ok.rn.sublist (List.filter_sublist.map _),Nat.le_trans (List.length_filter_le _ _) ok.rz,ok.ln,ok.new,ok.hk,ok.lk,fun t ht=>ok.rk t ((List.filter_sublist.map _).subset ht)⟩
theorem Yg(G:HGh):∀t∈startT G,t∈G.holds.map (·.1):=fun t ht=>by
 have:=(List.mem_filter.mp ht).2
 simpa using this
theorem Jfl(hl:HL)(t:T2):∀u∈nxT hl t,u∈hl.map (·.1):=fun u hu=>by
 have:=(List.mem_filter.mp hu).2
 simpa using this
end
theorem Lw{n:Nat}(h:n≤100000):n<sizeLine:=Nat.lt_of_le_of_lt h (by decide)
def upB:List Int→Bool
 | []=>true
 | [_]=>true
 | x::y::l=>decide (x<y)&&upB (y::l)
theorem Zr:∀{l:List Int} {x:Int},upB (x::l)=true→∀y∈l,x<y
 | [],_,_,y,hy=>by simp at hy
 | z::l,x,h,y,hy=>by
   unfold upB at h
   rw[Bool.and_eq_true] at h
   have h1:=of_decide_eq_true h.1
   rcases ZM hy with rfl|hy
   ·exact h1
   ·exact Int.lt_trans h1 (Zr h.2 y hy)
theorem Zq:∀{l:List Int},upB l=true→l.Nodup
 | [],_=>List.nodup_nil
 | [x],_=>by simp
 | x::y::l,h=>by
   have h':=h
   unfold upB at h'
   rw[Bool.and_eq_true] at h'
   exact List.nodup_cons.mpr ⟨fun m=>Int.lt_irrefl _ (Zr h x m),Zq h'.2⟩
def poolU:List (Nat×Nat):=(List.range 12).flatMap fun n=>(List.range 60).map fun j=>(n,j)
def hashU:List Int:=poolU.map fun p=>hN p.1 p.2
def Jdy(x:Int):List Int→List Int
 | []=>[x]
 | y::l=>if x<y then x::y::l else y::Jdy x l
theorem Ov(x:Int):∀l:List Int,(Jdy x l).Perm (x::l)
 | []=>.refl _
 | y::l=>by
   unfold Jdy
   split
   ·exact .refl _
   ·exact((Ov x l).cons y).trans (List.Perm.swap x y l)
def Jch:List Int→List Int
 | []=>[]
 | x::l=>Jdy x (Jch l)
theorem Od:∀l:List Int,(Jch l).Perm l
 | []=>.refl _
 | x::l=>(Ov x (Jch l)).trans ((Od l).cons x)
theorem Jc1:upB (Jch hashU)=true:=by decide +kernel
theorem Jc2:hashU.Nodup:=(Od hashU).nodup_iff.mp (Zq Jc1)
def InU(t:T2):Prop:=0≤t.1∧t.1<12∧0≤t.2∧t.2<60
theorem Zb{w:World}{t u:T2}(ht:InU t)(hu:InU u)(e:Je w (tk t)=Je w (tk u)):t=u:=by
 have hN':∀v:T2,0≤v.1→0≤v.2→Je w (tk v)=hN v.1.toNat v.2.toNat:=fun v h1 h2=>by
  show reduceHash (Builtin.Tuple.tupleHashOf [hashInt v.1,hashInt v.2])=reduceHash (Builtin.Tuple.tupleHashOf [hashInt (v.1.toNat:Int),hashInt (v.2.toNat:Int)])
  rw[Int.toNat_of_nonneg h1,Int.toNat_of_nonneg h2]
 obtain⟨a0,a1,a2,a3⟩:=ht
 obtain⟨b0,b1,b2,b3⟩:=hu
 rw[hN' t a0 a2,hN' u b0 b2] at e
 have m:∀v:T2,0≤v.1→v.1<12→0≤v.2→v.2<60→(v.1.toNat,v.2.toNat)∈poolU:=fun v h0 h1 h2 h3 =>
  List.mem_flatMap.mpr ⟨v.1.toNat,List.mem_range.mpr (by omega),List.mem_map.mpr ⟨v.2.toNat,List.mem_range.mpr (by omega),rfl⟩⟩
 have:=Ei (f:=fun p:Nat×Nat=>hN p.1 p.2) Jc2 (m t a0 a1 a2 a3) (m u b0 b1 b2 b3) e
 have e1:=congrArg Prod.fst this
 have e2:=congrArg Prod.snd this
 simp only at e1 e2
 exact Prod.ext (by omega) (by omega)
theorem Ui{w:World}:∀{ts:List T2},ts.Nodup→(∀t∈ts,InU t)→(ts.map fun t=>Je w (tk t)).Nodup
 | [],_,_=>List.nodup_nil
 | t::ts,nd,hr=>by
   have nd:=List.nodup_cons.mp nd
   refine List.nodup_cons.mpr ⟨fun m=>?_,Ui nd.2 fun u hu=>hr u (ZD _ hu)⟩
   obtain⟨u,hu,e⟩:=ZN m
   exact nd.1 ((Zb (hr t (ZL ..)) (hr u (ZD _ hu)) e.symm)▸hu)
theorem M0{w:World}{l:List T2}(nd:l.Nodup)(hr:∀t∈l,InU t):((l.map fun q=>(tk q,V.bl true)).map fun q=>Je w q.1).Nodup:=by
 rw[List.map_map]
 exact Ui nd hr
def Rz(o:Obj):Prop:=o.cls=.type "tuple"∧o.dict=none∧∃xs k,o.data=.seq xs k
section
variable {X:Cx}
theorem Np:Em X (.type "tuple") (fun xs H Q=>∃p ys,xs=[.ref p]∧SqL X.K H p ys∧∀l o,H l=none→Rz o→Q (.ref l) (upd H l (.frz o (.tup ys)))):=by
 intro pins s σ H xs us Q I r h
 obtain⟨p,ys,rfl,hq,q⟩:=h
 obtain⟨u,rfl,rx⟩:=vals1 r
 cases rx
 obtain⟨its,r',pl,hz⟩:=I.list hq
 have hlen:=r'.length
 refine call_tuple_list pl.isList (fun h' kp=>?_) (by simp only[List.size_toArray]<;>omega)
 have I1:Inv X pins σ H { s with heap:=h' }:=I.kept (t':=s.toks) kp
 have I2:Inv X pins σ (upd H h'.objs.size (.frz { cls:=.type "tuple",data:=.seq its.toArray } (.tup ys))) { s with heap:=h'.push { cls:=.type "tuple",data:=.seq its.toArray } } :=
  I1.laid (t':=s.toks) (fun b o e=>ZT _ e) (ZG _) (show ObjOk X.prog X.w _ _ _ (.frz _ (.tup ys)) from⟨ZU _ rfl,hz,its,r',IsTup.new _ _⟩)
 exact⟨.ref h'.objs.size,_,I2,rfl,q _ _ (I1.hok.fresh (ZG _)) ⟨rfl,rfl,_,_,rfl⟩⟩
end
theorem Yw:typeLookup (.type "tuple") "keys"=pure none:=am_miss_of_fast (by decide +kernel)
set_option maxRecDepth 8000 in
theorem Y1{prog:Program}{w:World}{A:Around}{E:Value→Shared→Prop}{s:Shared}{a:Addr}{o:Obj}{Q:Option Value→Shared→Prop}(hx:s.heap.get? a=some o)(hp:Rz o)(hA:A.handled=none)(h:∀h' tk,(∀b u,s.heap.get? b=some u→h'.get? b=some u)→Q none { s with heap:=h',toks:=tk }):wpAny (model prog w) A (getAttr? (.ref a) "keys") Q E s:=by
 obtain⟨hc,hd,xs,k,hdat⟩:=hp
 obtain⟨c,dct,dat,sl⟩:=o
 simp only at hc hdat hd
 subst hc hdat hd
 obtain⟨hp,g,d,tk,os⟩:=s
 have hT:∀tk',(⟨hp,g,d,tk',os⟩:Shared).TypeIs (.ref a) "tuple":=fun _=>⟨_,hx,rfl⟩
 have f1:=sub_AttributeError
 have f3:=F.slot_tuple_getattribute.lookup
 have f4:=F.slot_tuple_getattribute.bind (.ref a)
 have f5:=am_tuple_getattr_none
 unfold getAttr? getAttrBy? getAttrBy
 repeat (any_goals (first|assumption|exact hT _|((with_reducible show wpAny _ _ (call (Value.builtin "tuple.__getattribute__") _ _) _ _ _);refine call_meets F.slot_tuple_getattribute (hT _) am_entry_tuple_getattribute (F.args_tuple_getattribute_2 _ _) (meets_getattribute_miss_tuple a xs k sl "keys" _ Yw (by decide +kernel) (by size_fits)) ⟨hx,hA,fun h' tk' e hx'=>?_⟩)|wp_step))
 obtain⟨t',u',he⟩:=hx'.there
 show wpAny _ _ (getattributeRaised _ _ _ _ _ _ _) _ _ _
 unfold getattributeRaised
 repeat (any_goals (first|assumption|exact h _ _ hx'.keeps|wp_step))
theorem O5:entryFor table "dict.update.loop"=some Builtin.«dict.update.loop»:=entryFor_of_tree (by kernel_rfl)
theorem pair_items{prog:Program}{w:World}{A:Around}{E:Value→Shared→Prop}{s:Shared}{a:Addr}{items:Array Value}{Q:List Value→Shared→Prop}(ht:s.heap.IsTuple a items)(q:Q items.toList s):wpAny (model prog w) A (Builtin.Dict.pairItems (.ref a)) Q E s:=by
 obtain⟨o,ho,hc,n,hd⟩:=id ht
 unfold Builtin.Dict.pairItems
 refine ZR (wpAny_typeOf ht.typeIs ?_)
 rw[if_pos (by decide)]
 exact ZR (wpAny_seqItems ho hd (ZS q))
def Yb(prog:Program)(w:World)(h:Heap)(its:List Value)(ps:List (List Key×Addr×Value)):Prop:=Paired (fun(v:Value)(p:List Key×Addr×Value)=>∃a,v=.ref a∧h.IsTuple a #[.ref p.2.1,p.2.2]∧(tupleKind (A8 prog w)).is h p.1 p.2.1) its ps
def Jg6(prog:Program)(w:World)(h:Heap)(d:Addr)(xs:List (List Key×Addr×Value)):Prop:=∃o es ep,h.get? d=some o∧o.ExactDict∧o.data=.dict es ep∧es.toList=xs.map (entryOfKey (tupleKind (A8 prog w)))∧(xs.map (·.1)).Nodup
section
variable {prog:Program}{w:World}{A:Around}
theorem Uc{h h':Heap}{k:List Key}{a:Addr}(x:(tupleKind (A8 prog w)).is h k a)(f:∀u,h.get? a=some u→h'.get? a=some u):(tupleKind (A8 prog w)).is h' k a:=by
 obtain⟨o,its,n,e,r⟩:=x
 exact⟨o,its,n,f _ e,r⟩
theorem Jdv{h:Heap}{k:List Key}{a:Addr}(x:(tupleKind (A8 prog w)).is h k a):∃o,h.get? a=some o∧o.cls=.type "tuple":=by
 obtain⟨o,its,n,e,r,_⟩:=x
 exact⟨o,e,r⟩
theorem Vy{d it t:Addr}{h0:Heap}{items:Array Value}{ps:List (List Key×Addr×Value)}{R:Result→Shared→Prop}(room:∀args,(tupleKind (A8 prog w)).room (A.under (.builtin "dict.update.loop" args)))(hh:A.handled=none)(di:d≠it)(hit0:h0.get? it=none)(hd0:∃o,h0.get? d=some o∧o.cls=.type "dict")(tup:h0.IsTuple t items)(prs:Yb prog w h0 items.toList ps)(nd:(ps.map (·.1)).Nodup)(sz:ps.length≤sizeLine) :
 ∀(k i:Nat)(s:Shared)(tk:Tok),ps.length=i+k→Jg6 prog w s.heap d (ps.take i)→s.heap.IsTupleIter it t i→(∀b u,b≠d→h0.get? b=some u→s.heap.get? b=some u) →
  (∀h' tk,Jg6 prog w h' d ps→(∀b u,b≠d→h0.get? b=some u→h'.get? b=some u)→R (.ok (.ret .none)) { s with heap:=h',toks:=tk }) →
  codeAny (model prog w) A (.builtin "dict.update.loop" ⟨[.ref d,.ref it,.int (i:Int) tk,.none],[]⟩) R s:=by
 obtain⟨od,ed,cd⟩:=hd0
 have ned:∀{b o},h0.get? b=some o→o.cls=.type "tuple"→b≠d:=fun{b o} e c z=>by
  rw[z,ed] at e;cases e;rw[cd] at c;exact absurd c (by decide)
 have nit:∀{b o},h0.get? b=some o→b≠it:=fun{b o} e z=>by rw[z,hit0] at e;cases e
 have ht:∀{h:Heap},(∀b u,b≠d→h0.get? b=some u→h.get? b=some u)→h.IsTuple t items:=fun{h} k0=>by
  obtain⟨o,e,c,r⟩:=tup
  exact⟨o,k0 _ _ (ned e c) e,c,r⟩
 have lps:=Paired.length prs
 rw[Array.length_toList] at lps
 intro k
 induction k with
 | zero =>
   intro i s tk hl rw_ hit k0 fin
   have ei:i=ps.length:=by omega
   subst ei
   refine codeAny_builtin O5 ?_
   unfold Builtin.«dict.update.loop»
   refine ZR (wpAny_pyNext_tuple_end hh hit (ht k0) (by rw[Array.getElem?_eq_none (by omega)]) fun h' ext=>?_)
   show wpAny _ _ (Builtin.Dict.addKeywords d [] >>= _) _ _ _
   refine ZR (ZS (ZS (fin h' s.toks ?_ fun b u hb e=>ext b u (nit e) (k0 b u hb e))))
   obtain⟨o,es,ep,g,r⟩:=rw_
   rw[List.take_length] at r
   exact⟨o,es,ep,ext d o di g,r⟩
 | succ k ih =>
   intro i s tk hl rw_ hit k0 fin
   obtain⟨p,hp⟩:=A1 (xs:=ps) (j:=i) (by omega)
   obtain⟨v,hv⟩:=A1 (xs:=items.toList) (j:=i) (by rw[Array.length_toList];omega)
   obtain⟨a,ev,ta,ka⟩:=A2 prs i v p hv hp
   subst ev
   refine codeAny_builtin O5 ?_
   unfold Builtin.«dict.update.loop»
   refine ZR (wpAny_pyNext_tuple_item (x:=.ref a) hit (ht k0) (by rw[←Array.getElem?_toList];exact hv) fun h1 hit1 sb1=>?_)
   have k1:∀b u,b≠d→h0.get? b=some u→h1.get? b=some u:=fun b u hb e=>(sb1.2 b (nit e)).trans (k0 b u hb e)
   have g1:∀b,b≠it→h1.get? b=s.heap.get? b:=sb1.2
   have ta1:h1.IsTuple a #[.ref p.2.1,p.2.2]:=by
    obtain⟨o,e,c,r⟩:=ta
    exact⟨o,k1 _ _ (ned e c) e,c,r⟩
   have key1:∀q∈ps,(tupleKind (A8 prog w)).is h0 q.1 q.2.1:=fun q hq=>by
    obtain⟨j,hj⟩:=List.mem_iff_getElem?.mp hq
    obtain⟨u,hu⟩:=A1 (xs:=items.toList) (j:=j) (by rw[Array.length_toList,lps];exact(ZJ hj).1)
    obtain⟨_,_,_,kq⟩:=A2 prs j u q hu hj
    exact kq
   have Jbp:∀{h:Heap},(∀b u,b≠d→h0.get? b=some u→h.get? b=some u)→∀q∈ps,(tupleKind (A8 prog w)).is h q.1 q.2.1:=fun{h} kk q hq=>by
    obtain⟨o,e,c⟩:=Jdv (key1 q hq)
    exact Uc (key1 q hq) fun u hu=>kk _ _ (ned e c) hu
   have dd:h1.DictOfH (tupleKind (A8 prog w)) d (ps.take i):=by
    obtain⟨o,es,ep,g,x1,x2,x3,x4⟩:=rw_
    exact⟨o,es,ep,(g1 d di).trans g,x1,x2,x3,fun q hq=>Jbp k1 q (List.mem_of_mem_take hq),x4⟩
   have hpm:p∈ps:=ZP hp
   have no:atKey (ps.take i) p.1=none:=atKey_none_of_get fun j pv e=>by
    have hj:j<i:=by
     have:=(ZJ e).1
     rw[List.length_take] at this;omega
    rw[List.getElem?_take_of_lt hj] at e
    have e1:(ps.map (·.1))[j]?=some p.1:=by rw[ZH,e];rfl
    have e2:(ps.map (·.1))[i]?=some p.1:=by rw[ZH,hp];rfl
    have:j=i:=(List.getElem?_inj (by rw[ZA];omega) nd).mp (e1.trans e2.symm)
    omega
   have est:storedH (ps.take i) p.1 p.2.1 p.2.2=ps.take (i+1):=by
    rw[storedH_new no,List.take_add_one,hp];rfl
   refine ZR (wpAny_holding (ZR (wpAny_tryCatch (pair_items (s:={ s with heap:=h1 }) ta1 ?_))))
   show wpAny _ _ (holding _ (dictSet d (.ref p.2.1) p.2.2)) _ _ _
   refine wpAny_holding (wpAny_dictSet_heap (s:={ s with heap:=h1 }) (room _) (Jbp k1 p hpm) dd (fun h2 dd2 sb2=>?_) (by rw[List.length_take];omega))
   rw[est] at dd2
   refine ZS ⟨Code.quiet_builtin _ (by decide +kernel),?_⟩
   have:=ih (i+1) { s with heap:=h2,toks:=s.toks+(tupleKind (A8 prog w)).draws p.1 } 0 (by omega) ?_ ?_ ?_ ?_
   ·exact this
   ·obtain⟨o,es,ep,g,x1,x2,x3,_,x4⟩:=dd2
    exact⟨o,es,ep,g,x1,x2,x3,x4⟩
   ·obtain⟨o,e,r⟩:=hit1
    exact⟨o,(sb2.2 it di.symm).trans e,r⟩
   ·exact fun b u hb e=>(sb2.2 b hb).trans (k1 b u hb e)
   ·exact fun h' tk' r q=>fin h' tk' r q
end
section
variable {X:Cx}{pins:List (Addr×Obj)}{σ:L2.St}{H:Hp}{s:Shared}
theorem Jak(I:Inv X pins σ H s):∀{as:List Addr} {rs:List (T2×Int)},Paired (RecAt H) as rs→∃ps,Yb X.prog X.w s.heap (as.map Value.ref) ps∧Paired (fun(q:T2×Int)(p:List Key×Addr×Value)=>p.1=tk q.1∧H p.2.1=some (.tup (tv q.1))∧RelV (.int q.2) p.2.2) rs ps
 | _,_,.nil=>⟨[],.nil,.nil⟩
 | _,_,.cons (b:=q) ⟨ka,e1,e2⟩ t=>by
   obtain⟨ps,h1,h2⟩:=Jak I t
   obtain⟨its,rv,it,_⟩:=I.tuple (SqT.of (K:=X.K) e1)
   cases rv with
   | cons r1 t1=>cases t1 with
     | cons r2 t2 =>
       cases t2
       cases r1
       have key:(tupleKind (A8 X.prog X.w)).is s.heap (tk q.1) ka:=Fk I.hok (by rw[Wn];exact e2)
       exact⟨(tk q.1,ka,_)::ps,.cons ⟨_,rfl,it,key⟩ h1,.cons ⟨rfl,e2,r2⟩ h2⟩
theorem Kl{α β γ:Type}{f:α→β}{R:β→γ→Prop}:∀{l:List α} {m:List γ},Paired (fun a b=>R (f a) b) l m→Paired R (l.map f) m
 | _,_,.nil=>.nil
 | _,_,.cons r t=>.cons r (Kl t)
theorem Jal{H:Hp}{rs:List (T2×Int)}{ps:List (List Key×Addr×Value)}(x:Paired (fun(q:T2×Int) (p:List Key×Addr×Value)=>p.1=tk q.1∧H p.2.1=some (.tup (tv q.1))∧RelV (.int q.2) p.2.2) rs ps):ps.map (·.1)=rs.map fun q=>tk q.1:=by
 induction x with
 | nil=>rfl
 | cons h _ ih=>rw[List.map_cons,List.map_cons,h.1,ih]
theorem Jam{prog:Program}{w:World}{h h':Heap}(k:∀b u,h.get? b=some u→h'.get? b=some u){its:List Value}{ps:List (List Key×Addr×Value)}(x:Yb prog w h its ps):Yb prog w h' its ps :=
 Ay (fun _ _ ⟨a,e,⟨o,e1,r⟩,ky⟩=>⟨a,e,⟨o,k _ _ e1,r⟩,Uc ky fun u hu=>k _ _ hu⟩) x
end
section
variable {X:Cx}
theorem Uy(hu:X.A.units+64<cLine)(hc:X.calm=true):Em X (.type "dict") (fun xs H Q=>∃(o:Addr)(ob:Obj)(as:List Addr)(rs:List (T2×Int)),xs=[.ref o]∧H o=some (.frz ob (.tup (as.map V.ref)))∧Rz ob∧Paired (RecAt H) as rs∧(rs.map (·.1)).Nodup∧rs.length≤1000∧∀p,H p=none→Q (.ref p) (upd H p (Ct rs))):=by
 intro pins s σ H xs us Q I r h
 obtain⟨o,ob,as,rs,rfl,eo,pl,prs,nd,zr,q⟩:=h
 obtain⟨u,rfl,rx⟩:=vals1 r
 cases rx
 refine callType_codes (Q₁:=fun obj s₁=>obj=.ref s.heap.objs.size∧s₁={ s with heap:=s.heap.push { cls:=.type "dict",data:=.dict #[] } }) F.kt_called_dict (F.kt_typeCall_dict_1 _) F.entry_dict_init (kt_code_dict_new _ ⟨rfl,rfl⟩) ?_
 rintro obj s₁ ⟨rfl,rfl⟩
 have hn:H s.heap.objs.size=none:=I.hok.fresh (ZG _)
 have I1:=I.laid (a:=s.heap.objs.size) (o:=.dT []) (t':=s.toks) (fun _ _ z=>ZT _ z) (ZG _) (Nj s.heap I.big)
 have e1:(upd H s.heap.objs.size (.dT [])) s.heap.objs.size=some (.dT []):=Ab
 obtain⟨_,sm,xs,rd,dd⟩:=Ni I1.hok e1
 refine⟨dd.typeIs,F.args_dict_init_2 _ _,?_⟩
 unfold Builtin.«dict.__init__» Builtin.Dict.selfAndRest
 refine ZR (ZR (wpAny_notOrdered_dict dd.typeIs (ZS ?_)))
 obtain⟨go,zo,its,rv,it⟩:=(show ObjOk X.prog X.w H s.heap o (.frz ob (.tup (as.map V.ref))) from I.hok o _ eo)
 have ei:=N8 rv
 subst ei
 have go1:(s.heap.push { cls:=.type "dict",data:=.dict #[] }).get? o=some ob:=ZT _ go
 obtain⟨ps,pr1,pr2⟩:=Jak I prs
 have lpr:=Paired.length pr2
 have ndp:(ps.map (·.1)).Nodup:=by
  rw[Jal pr2]
  have:((rs.map (·.1)).map tk).Nodup:=List.Pairwise.map tk (fun a b (h:a≠b)=>show tk a≠tk b from fun z=>h (by
   have z:([.inl a.1,.inl a.2]:List Key)=[.inl b.1,.inl b.2]:=z
   simp only[List.cons.injEq,Sum.inl.injEq,and_true] at z
   exact Prod.ext z.1 z.2)) nd
  rw[List.map_map] at this
  exact this
 have hTo:∀tk':Nat,({ s with heap:=s.heap.push { cls:=.type "dict",data:=.dict #[] },toks:=tk' }:Shared).TypeIs (.ref o) "tuple":=fun _=>⟨_,go1,pl.1⟩
 show wpAny _ _ (Builtin.Dict.updateFrom "dict.__init__" s.heap.objs.size (.ref o) [] .none) _ _ _
 unfold Builtin.Dict.updateFrom
 refine ZR (wpAny_typeOf (hTo s.toks) ?_)
 rw[if_pos (by decide)]
 refine ZR (Y1 (s:={ s with heap:=s.heap.push { cls:=.type "dict",data:=.dict #[] } }) go1 pl ?_ fun h2 tk2 kp2=>?_)
 ·exact I.ok.hd hc
 ·rw[if_pos (show(none:Option Value).isNone=true from rfl)]
  have kp:∀b u,s.heap.get? b=some u→h2.get? b=some u:=fun b u e=>kp2 b u (ZT _ e)
  have ht2:h2.IsTuple o (as.map Value.ref).toArray:=by
   obtain⟨o',e',r'⟩:=it
   exact⟨o',kp _ _ e',r'⟩
  have hd2:h2.get? s.heap.objs.size=some { cls:=.type "dict",data:=.dict #[] }:=kp2 _ _ (ZU _ rfl)
  refine ZR (wpAny_rule (ZR (wpAny_pyIter_tuple (s:={ s with heap:=h2,toks:=tk2 }) ht2 (ZS ⟨Code.quiet_builtin _ (by decide +kernel),?_⟩))))
  have hlt:=Heap.lt_size hd2
  refine Vy (A:=X.A.in1) (h0:=h2) (items:=(as.map Value.ref).toArray) (ps:=ps) (d:=s.heap.objs.size) (it:=h2.objs.size) (t:=o) (fun args=>?_) (I.ok.hd hc) (Nat.ne_of_lt hlt) (by cases e:h2.get? h2.objs.size with|none=>rfl|some o=>exact absurd (Heap.lt_size e) (Nat.lt_irrefl _)) ⟨_,hd2,rfl⟩ ht2 (by simpa using Jam kp pr1) ndp (by rw[←lpr];exact Nat.le_trans zr (by decide)) ps.length 0 _ 0 (by omega) ?_ ?_ ?_ ?_
  ·show X.A.in1.units+_<cLine
   have:(Code.builtin "dict.update.loop" args).cUnits=1:=by first|rfl|simp[Code.cUnits,Code.frames,Code.isFrame]
   rw[this]
   show X.A.units+1+1<cLine
   omega
  ·obtain⟨o4,es4,ep4,g4,x1,x2,x3,_,x4⟩:=Heap.DictOfH.new (knd:=tupleKind (A8 X.prog X.w)) s.heap
   exact⟨o4,es4,ep4,ZT _ (kp2 _ _ g4),x1,x2,x3,x4⟩
  ·exact⟨_,ZU _ rfl,rfl,rfl⟩
  ·exact fun b u hb e=>ZT _ e
  ·intro h' tk' rp k0
   refine⟨rfl,.ref s.heap.objs.size,_,?_,rfl,q _ hn⟩
   obtain⟨o3,es,ep,g3,x1,x2,x3,x4⟩:=rp
   have:=I1.write (x:=s.heap.objs.size) (e:=s.heap.objs.size) (o:=Ct rs) (t':=tk') (h':=h') (by rw[e1];exact True.intro) (.inl rfl) (fun b u hb e=>k0 b u hb (kp2 b u e)) ⟨_,g3⟩ ⟨by rw[ZA];exact Nat.le_trans zr (by decide),sm,ps,?_,o3,es,ep,g3,x1,x2,x3,x4⟩
   ·rw[K4] at this
    exact this
   ·refine Kl (Ay (fun(q:T2×Int) p h=>⟨h.1.symm,?_,h.2.2⟩) pr2)
    have ne:p.2.1≠s.heap.objs.size:=fun z=>by have:=h.2.1;rw[z,hn] at this;cases this
    rw[Ad ne,Ad ne]
    exact h.2.1
end
theorem L8{P:Program}{w:World}:∀{es:List DictEntry} {vs:List (Key×Value)} {ns:List Int},Pairs (A8 P w) es vs→vs.map (·.1)=ns.map Sum.inl→IntsAre (es.map (·.key)) ns
 | _,_,ns,.nil,e=>by
   cases ns with
   | nil=>exact .nil
   | cons n ns=>cases e
 | _,_,ns,.cons (e:=d) (kv:=kv) h _ t,e=>by
   cases ns with
   | nil=>cases e
   | cons n ns =>
     have e:kv.1::_=Sum.inl n::ns.map Sum.inl:=e
     obtain⟨e1,e2⟩:=List.cons.inj e
     have ih:=L8 t e2
     rcases B8 (k:=kv.1) (v:=d.key) h with⟨i,tk,e3,e4⟩|⟨x,tk,e3,e4⟩
     ·rw[e1] at e3
      have:n=i:=Sum.inl.inj e3
      rw[List.map_cons,e4,←this]
      exact .cons n tk ih
     ·rw[e1] at e3;cases e3
theorem Jb8{es:Array DictEntry}{acc:Array Value}(ha:ItemsOf (fun i v=>∃e,es[i]?=some e∧v=e.key) acc es.size):acc.toList=es.toList.map (·.key):=by
 refine List.ext_getElem? fun j=>?_
 by_cases hj:j<es.size
 ·have h1:j<acc.size:=by rw[ha.1];exact hj
  obtain⟨e2,e3,e4⟩:=ha.2 j acc[j] (by simp[h1])
  have e5:es[j]?=some es[j]:=by simp[hj]
  rw[e5] at e3;cases e3
  have h2:acc.toList[j]?=some acc[j]:=by simp[h1]
  have h3:es.toList[j]?=some es[j]:=by simp[hj]
  rw[h2,ZH,h3,e4];rfl
 ·rw[List.getElem?_eq_none (by rw[Array.length_toList,ha.1];omega),List.getElem?_eq_none (by rw[ZA,Array.length_toList];omega)]
section
variable {X:Cx}
theorem Jk(hc:X.calm=true):Em X (.builtin "sorted") (fun xs H Q=>∃(d:Addr)(kvs:List (Key×V))(ns:List Int),xs=[.ref d]∧H d=some (.dK kvs)∧kvs.map (·.1)=ns.map Sum.inl∧ns.length<64 ∧
 ∀(r:Addr)(ms:List Int),H r=none→ms.Perm ns→ms.Pairwise (·≤·)→Q (.ref r) (upd H r (.lst (ms.map V.int)))):=by
 intro pins s σ H xs us Q I rv h
 obtain⟨d,kvs,ns,rfl,hd,ek,h64,q⟩:=h
 obtain⟨u,rfl,rx⟩:=vals1 rv
 cases rx
 obtain⟨z,lo,vs,rel,o,es,ep,g1,g2,g3,g4,g5,g6⟩:=(show ObjOk X.prog X.w H s.heap d (.dK kvs) from I.hok d _ hd)
 have ev:∀{a:List (Key×V)} {b:List (Key×Value)},KV a b→b.map (·.1)=a.map (·.1):=fun{a b} r=>by
  induction r with
  | nil=>rfl
  | cons h _ ih=>rw[List.map_cons,List.map_cons,ih,h.1]
 have hI:IntsAre (es.toList.map (·.key)) ns:=L8 g5 (by rw[ev rel,ek])
 have hl:es.size=ns.length:=by
  have:=IntsAre.length hI
  rw[ZA,Array.length_toList] at this
  exact this
 refine Calls.call_function_entry kind_sorted plain_sorted entry_sorted (args_sorted1 _) (by
  unfold Builtin.«sorted»
  refine ZR (m:=checkCount "sorted" 1 1 _) (ZS (ZR (W.kdu_collect (Qo lo (es:=es) (ep:=ep)) (show _ from I.ok.hd hc) ⟨o,g1,g2,g3⟩ (by rw[hl,sizeLine_eq];omega) fun h1 tk acc kp ha=>?_)))
  rw[Jb8 ha]
  have I1:Inv X pins σ H { s with heap:=h1,toks:=tk }:=I.kept kp
  refine ZR (wpAny_newList ?_ (by rw[ZA,Array.length_toList,hl,sizeLine_eq];omega))
  have e1:(h1.push (seqObj "list" (es.toList.map (·.key)).toArray 0)).get? h1.objs.size=some (seqObj "list" (es.toList.map (·.key)).toArray 0):=ZU _ rfl
  refine ZR (wpAny_holding (wpAny_call_entry slot_list_sort ⟨_,e1,rfl⟩ entry_list_sort (list_sort_tree e1 hI (by rw[ZA,Array.length_toList,hl];exact h64) fun out ms a1 a2 a3=>⟨_,rfl,?_⟩) (args_list_sort _)))
  have hn:H h1.objs.size=none:=I1.hok.fresh (ZG _)
  obtain⟨c,ec⟩:=sortedHeap_at (out:=out) e1
  have old:∀b ob,h1.get? b=some ob→(sortedHeap (h1.push (seqObj "list" (es.toList.map (·.key)).toArray 0)) h1.objs.size (es.toList.map (·.key)) out).get? b=some ob:=fun b ob hb=>by
   have hlt:=Heap.lt_size hb
   rw[sortedHeap_old (Nat.ne_of_lt hlt) (by rw[size_push'];exact Nat.lt_succ_of_lt hlt)]
   exact ZT _ hb
  refine ZS ⟨_,rfl,.ref h1.objs.size,_,I1.laid (a:=h1.objs.size) (o:=.lst (ms.map V.int)) (t':=tk) old (ZG _) ⟨?_,out.toList,c,Jm a1,by simpa using ec⟩,rfl,q _ ms hn a2 a3⟩
  rw[ZA,a2.length_eq,sizeLine_eq];omega)
end
theorem Jgq:¬(("latest":Str)="waiting"):=by decide +kernel
def D5(c:Int)(d:Addr):List (Str×V):=Al "waiting" (.ref d) (Al "latest" (.int c) [])
theorem L6(c:Int)(d:Addr):D5 c d=([("latest",V.int c),("waiting",V.ref d)]:List (Str×V)):=by
 show(if("latest":Str)="waiting" then [(("latest":Str),V.ref d)] else(("latest":Str),V.int c)::Al "waiting" (V.ref d) [])=([("latest",V.int c),("waiting",V.ref d)]:List (Str×V))
 rw[if_neg Jgq]
 all_goals rfl
theorem D7(c:Int)(d:Addr):(D5 c d).lookup ("latest":Str)=some (.int c):=by
 unfold D5
 rw[C3,if_neg Jgq,C3,if_pos rfl]
theorem D0(c:Int)(d:Addr):(D5 c d).lookup ("waiting":Str)=some (.ref d):=by
 unfold D5
 rw[C3,if_pos rfl]
theorem Dr(c:Int)(d:Addr){m:Str}(h1:¬m="waiting")(h2:¬m="latest"):(D5 c d).lookup m=none:=by
 unfold D5
 rw[C3,if_neg h1,C3,if_neg h2]
 all_goals rfl
theorem Yo(c y:Int)(d:Addr):Al "latest" (.int y) (D5 c d)=D5 y d:=by
 rw[L6,L6]
 show(if("latest":Str)="latest" then [(("latest":Str),V.int y),(("waiting":Str),V.ref d)] else _)=([("latest",V.int y),("waiting",V.ref d)]:List (Str×V))
 rw[if_pos rfl]
def kvsOf(ls:List (Int×Addr)):List (Key×V):=ls.map fun l=>(Sum.inl l.1,V.ref l.2)
structure PostAt(C:Addr)(H:Hp)(p d:Addr)(c:Int)(ls:List (Int×Addr)):Prop where
 ob:∃dx,H p=some (.ins C dx (D5 c d))
 dc:H d=some (.dK (kvsOf ls))
 le:∀l∈ls,l.1≤c
 nd:(ls.map (·.1)).Nodup
theorem PostAt.keep{C:Addr}{H H':Hp}{p d:Addr}{c:Int}{ls:List (Int×Addr)}(x:PostAt C H p d c ls)(h1:∀o,H p=some o→H' p=some o)(h2:∀o,H d=some o→H' d=some o):PostAt C H' p d c ls :=
 ⟨let⟨dx,e⟩:=x.ob;⟨dx,h1 _ e⟩,h2 _ x.dc,x.le,x.nd⟩
theorem PostAt.ne{C:Addr}{H:Hp}{p d:Addr}{c:Int}{ls:List (Int×Addr)}(x:PostAt C H p d c ls):p≠d:=by
 obtain⟨dx,e⟩:=x.ob
 exact L9 e x.dc (by intro z;cases z)
theorem Xp(ls:List (Int×Addr)):(kvsOf ls).length=ls.length:=ZA ..
theorem Gq{ls:List (Int×Addr)}{n:Int}:Cw (kvsOf ls) (Sum.inl n)=(ls.find? fun l=>decide (l.1=n)).map fun l=>V.ref l.2:=by
 unfold Cw kvsOf
 rw[List.find?_map,Option.map_map]
 congr 1
 congr 1
 funext l
 show decide ((Sum.inl l.1:Key)=Sum.inl n)=decide (l.1=n)
 by_cases e:l.1=n
 ·rw[e];simp
 ·rw[decide_eq_false e,decide_eq_false fun z=>e (Sum.inl.inj z)]
theorem Jfr{ls:List (Int×Addr)}{n:Int}(h:∀l∈ls,l.1≠n):Cw (kvsOf ls) (Sum.inl n)=none:=by
 rw[Gq,List.find?_eq_none.mpr fun l hl=>by simpa using h l hl]
 rfl
theorem Na{l1 l2:List (Int×Addr)}{n:Int}{t:Addr}(nd:((l1++(n,t)::l2).map (·.1)).Nodup):(l1++(n,t)::l2).find? (fun l=>decide (l.1=n))=some (n,t):=by
 rw[ZF,List.map_cons] at nd
 have h:∀l∈l1,¬l.1=n:=fun l hl e=>by
  have:=(List.nodup_append.mp nd).2.2 l.1 (List.mem_map_of_mem hl) n (ZL ..)
  exact this e
 rw[List.find?_append]
 have e1:l1.find? (fun l=>decide (l.1=n))=none:=List.find?_eq_none.mpr fun l hl=>by simpa using h l hl
 rw[e1]
 simp
theorem Us{l1 l2:List (Int×Addr)}{n:Int}{t:Addr}(nd:((l1++(n,t)::l2).map (·.1)).Nodup):C4 (kvsOf (l1++(n,t)::l2)) (Sum.inl n)=kvsOf (l1++l2):=by
 rw[ZF,List.map_cons] at nd
 have h1:∀l∈l1,¬l.1=n:=fun l hl e=>(List.nodup_append.mp nd).2.2 l.1 (List.mem_map_of_mem hl) n (ZL ..) e
 have h2:∀l∈l2,¬l.1=n:=fun l hl e=>(List.nodup_cons.mp (List.nodup_append.mp nd).2.1).1 (by have m:=List.mem_map_of_mem (f:=fun x:Int×Addr=>x.1) hl;rw[e] at m;exact m)
 have all:∀ls:List (Int×Addr),(∀l∈ls,¬l.1=n)→C4 (kvsOf ls) (Sum.inl n:Key)=kvsOf ls:=fun ls h=>by
  refine Nl fun m=>?_
  unfold kvsOf at m
  rw[List.map_map] at m
  obtain⟨l,hl,e⟩:=ZN m
  exact h l hl (Sum.inl.inj e)
 unfold kvsOf
 rw[ZF,List.map_cons,ZF]
 unfold C4
 rw[List.filter_append,List.filter_cons]
 have e0:decide (((Sum.inl (n,t).1,V.ref (n,t).2):Key×V).1≠Sum.inl n)=false:=by simp
 rw[e0]
 have a1:=all l1 h1
 have a2:=all l2 h2
 unfold C4 kvsOf at a1 a2
 rw[a1,a2]
 rfl
theorem Jdu{ls:List (Int×Addr)}{n:Int}{t:Addr}(h:∀l∈ls,l.1≠n):putK (kvsOf ls) (Sum.inl n:Key) (V.ref t)=kvsOf (ls++[(n,t)]):=by
 rw[Ef _ (Jfr h)]
 unfold kvsOf
 rw[ZF]
 rfl
structure WGh where
 share:Int
 hs:Addr
 po:Addr
 iq:Addr
 fi:Addr
 en:Addr
 pd:Addr
 c:Int
 ls:List (Int×Addr)
 qs:List (Addr×HGh)
 iqs:List (Int×Addr)
 fis:List (Int×Addr)
 ens:List (Int×Addr)
theorem Ft:¬(("houses":Str)="share"):=by decide +kernel
theorem Hv:¬(("post":Str)="share"):=by decide +kernel
theorem Gz:¬(("post":Str)="houses"):=by decide +kernel
theorem R3:¬(("inquiries":Str)="share"):=by decide +kernel
theorem Pi:¬(("inquiries":Str)="houses"):=by decide +kernel
theorem U7:¬(("inquiries":Str)="post"):=by decide +kernel
theorem Nw:¬(("finds":Str)="share"):=by decide +kernel
theorem Ln:¬(("finds":Str)="houses"):=by decide +kernel
theorem Pj:¬(("finds":Str)="post"):=by decide +kernel
theorem R4:¬(("finds":Str)="inquiries"):=by decide +kernel
theorem R5:¬(("enclosed":Str)="share"):=by decide +kernel
theorem Pk:¬(("enclosed":Str)="houses"):=by decide +kernel
theorem U8:¬(("enclosed":Str)="post"):=by decide +kernel
theorem Yc:¬(("enclosed":Str)="inquiries"):=by decide +kernel
theorem R6:¬(("enclosed":Str)="finds"):=by decide +kernel
def Fo(W:WGh):List (Str×V):=[("share",.int W.share),("houses",.ref W.hs),("post",.ref W.po),("inquiries",.ref W.iq),("finds",.ref W.fi),("enclosed",.ref W.en)]
theorem Fs(W:WGh):(Fo W).lookup ("share":Str)=some (.int W.share):=by
 unfold Fo
 rw[G7]
theorem Ez(W:WGh):(Fo W).lookup ("houses":Str)=some (.ref W.hs):=by
 unfold Fo
 rw[By Ft,G7]
theorem D6(W:WGh):(Fo W).lookup ("post":Str)=some (.ref W.po):=by
 unfold Fo
 rw[By Hv,By Gz,G7]
theorem Dj(W:WGh){m:Str}(h:(["share","houses","post","inquiries","finds","enclosed"]:List Str).contains m=false):(Fo W).lookup m=none:=by
 simp only[List.contains_cons,Bool.or_eq_false_iff,beq_eq_false_iff_ne] at h
 obtain⟨h1,h2,h3,h4,h5,h6,_⟩:=h
 unfold Fo
 rw[By h1,By h2,By h3,By h4,By h5,By h6]
 rfl
theorem Jeu(W:WGh):Al "enclosed" (.ref W.en) (Al "finds" (.ref W.fi) (Al "inquiries" (.ref W.iq) (Al "post" (.ref W.po) (Al "houses" (.ref W.hs) (Al "share" (.int W.share) [])))))=Fo W:=by
 unfold Fo
 rw[Di]
 rw[Bu (Ne.symm Ft),Di]
 rw[Bu (Ne.symm Hv),Bu (Ne.symm Gz),Di]
 rw[Bu (Ne.symm R3),Bu (Ne.symm Pi),Bu (Ne.symm U7),Di]
 rw[Bu (Ne.symm Nw),Bu (Ne.symm Ln),Bu (Ne.symm Pj),Bu (Ne.symm R4),Di]
 rw[Bu (Ne.symm R5),Bu (Ne.symm Pk),Bu (Ne.symm U8),Bu (Ne.symm Yc),Bu (Ne.symm R6),Di]
def A6:List (Addr×HGh)→List Addr
 | []=>[]
 | q::l=>(q.1::foot q.2)++A6 l
theorem Cv:∀(l m:List (Addr×HGh)),A6 (l++m)=A6 l++A6 m
 | [],m=>rfl
 | q::l,m=>by
   show(q.1::foot q.2)++A6 (l++m)=((q.1::foot q.2)++A6 l)++A6 m
   rw[Cv l m,List.append_assoc]
theorem mem_hfoot{b:Addr}:∀{l:List (Addr×HGh)},b∈A6 l↔∃q∈l,b=q.1∨b∈foot q.2
 | []=>⟨fun h=>by simp[A6] at h,fun⟨q,h,_⟩=>by simp at h⟩
 | q::l=>by
   show b∈(q.1::foot q.2)++A6 l↔_
   rw[List.mem_append,List.mem_cons,mem_hfoot]
   constructor
   ·rintro(h|⟨r,hr,h⟩)
    ·exact⟨q,ZL ..,h⟩
    ·exact⟨r,ZD _ hr,h⟩
   ·rintro⟨r,hr,h⟩
    rcases ZM hr with rfl|hr
    ·exact .inl h
    ·exact .inr ⟨r,hr,h⟩
def Cb(p:Addr)(W:WGh):List Addr:=[p,W.hs,W.po,W.pd,W.iq,W.fi,W.en]
def Cs(p:Addr)(W:WGh):List Addr:=Cb p W++A6 W.qs
structure WorldAt(CW CH CP:Addr)(H:Hp)(p:Addr)(W:WGh):Prop where
 ob:∃dx,H p=some (.ins CW dx (Fo W))
 hs:H W.hs=some (.lst (W.qs.map fun q=>V.ref q.1))
 ho:∀q∈W.qs,HouseAt CH H q.1 q.2
 po:PostAt CP H W.po W.pd W.c W.ls
 iq:H W.iq=some (.dK (kvsOf W.iqs))
 fi:H W.fi=some (.dK (kvsOf W.fis))
 en:H W.en=some (.dK (kvsOf W.ens))
 nd:(Cs p W).Nodup
def WFr(p:Addr)(W:WGh)(H H':Hp):Prop:=∀b o,H b=some o→b∉Cs p W→H' b=some o
section
variable {CW CH CP p:Addr}{H H':Hp}{W:WGh}
theorem WorldAt.keep(x:WorldAt CW CH CP H p W)(k:∀b o,b∈Cs p W→H b=some o→H' b=some o):WorldAt CW CH CP H' p W:=by
 have t:∀{b},b∈Cb p W→b∈Cs p W:=fun h=>ZB _ h
 refine⟨let⟨dx,e⟩:=x.ob;⟨dx,k _ _ (t (by simp[Cb])) e⟩,k _ _ (t (by simp[Cb])) x.hs,fun q hq=>(x.ho q hq).keep fun b o hb e=>k _ _ (ZC _ (mem_hfoot.mpr ⟨q,hq,hb⟩)) e,
  x.po.keep (fun o e=>k _ _ (t (by simp[Cb])) e) (fun o e=>k _ _ (t (by simp[Cb])) e),k _ _ (t (by simp[Cb])) x.iq,k _ _ (t (by simp[Cb])) x.fi,k _ _ (t (by simp[Cb])) x.en,x.nd⟩
theorem WorldAt.same(x:WorldAt CW CH CP H p W)(s:Bp H H'):WorldAt CW CH CP H' p W:=x.keep fun b o _ e=>s b o e
theorem WorldAt.some_at(x:WorldAt CW CH CP H p W){b:Addr}(hb:b∈Cs p W):∃o,H b=some o∧(∀xs,o≠.tup xs)∧∀ob u,o≠.frz ob u:=by
 rcases ZI hb with hb|hb
 ·simp only[Cb,List.mem_cons,List.not_mem_nil,or_false] at hb
  rcases hb with rfl|rfl|rfl|rfl|rfl|rfl|rfl
  ·obtain⟨dx,e⟩:=x.ob
   exact⟨_,e,fun _ z=>(by cases z),fun _ _ z=>(by cases z)⟩
  ·exact⟨_,x.hs,fun _ z=>(by cases z),fun _ _ z=>(by cases z)⟩
  ·obtain⟨dx,e⟩:=x.po.ob
   exact⟨_,e,fun _ z=>(by cases z),fun _ _ z=>(by cases z)⟩
  ·exact⟨_,x.po.dc,fun _ z=>(by cases z),fun _ _ z=>(by cases z)⟩
  ·exact⟨_,x.iq,fun _ z=>(by cases z),fun _ _ z=>(by cases z)⟩
  ·exact⟨_,x.fi,fun _ z=>(by cases z),fun _ _ z=>(by cases z)⟩
  ·exact⟨_,x.en,fun _ z=>(by cases z),fun _ _ z=>(by cases z)⟩
 ·obtain⟨q,hq,hb⟩:=mem_hfoot.mp hb
  rcases hb with rfl|hb
  ·obtain⟨dx,e⟩:=(x.ho q hq).ob
   exact⟨_,e,fun _ z=>(by cases z),fun _ _ z=>(by cases z)⟩
  ·obtain⟨kvs,e⟩:=(x.ho q hq).foot_dT hb
   exact⟨_,e,fun _ z=>(by cases z),fun _ _ z=>(by cases z)⟩
theorem WorldAt.tup_no(x:WorldAt CW CH CP H p W){b:Addr}{xs:List V}(e:H b=some (.tup xs)):b∉Cs p W:=fun m=>by
 obtain⟨o,e',h,_⟩:=x.some_at m
 rw[e] at e';cases e'
 exact h _ rfl
theorem WorldAt.none_no(x:WorldAt CW CH CP H p W){b:Addr}(e:H b=none):b∉Cs p W:=fun m=>by
 obtain⟨o,e',_⟩:=x.some_at m
 rw[e] at e';cases e'
theorem WFr.keepT(x:WorldAt CW CH CP H p W)(f:WFr p W H H'):KeepT H H' :=
 ⟨fun a xs e=>f a _ e (x.tup_no e),fun a ob u e=>f a _ e fun m=>by
  obtain⟨o,e',_,h⟩:=x.some_at m
  rw[e] at e';cases e'
  exact h _ _ rfl⟩
theorem Jbh{A X X' B:List Addr}(h:(A++(X++B)).Nodup)(hx:X'.Nodup)(k:∀b∈X',b∈X∨(b∉A∧b∉B)):(A++(X'++B)).Nodup:=by
 obtain⟨a1,a2,a3⟩:=List.nodup_append.mp h
 obtain⟨b1,b2,b3⟩:=List.nodup_append.mp a2
 refine List.nodup_append.mpr ⟨a1,List.nodup_append.mpr ⟨hx,b2,fun y hy z hz e=>?_⟩,fun y hy z hz e=>?_⟩
 ·rcases k y hy with h|h
  ·exact b3 y h z hz e
  ·exact h.2 (e▸hz)
 ·rcases ZI hz with hz|hz
  ·rcases k z hz with h|h
   ·exact a3 y hy z (ZB _ h) e
   ·exact h.1 (e▸hy)
  ·exact a3 y hy z (ZC _ hz) e
theorem WorldAt.step(x:WorldAt CW CH CP H p W){i:Nat}{q:Addr}{G G':HGh}(hi:W.qs[i]?=some (q,G))(S:HouseAt CH H' q G')(f:HFr q G H H')(nw:∀b∈foot G',b∈foot G∨H b=none) :
 WorldAt CW CH CP H' p { W with qs:=W.qs.set i (q,G') }∧WFr p W H H':=by
 obtain⟨hlt,_⟩:=ZJ hi
 have e1:W.qs=W.qs.take i++(q,G)::W.qs.drop (i+1):=by
  have:=List.take_append_drop i W.qs
  rw[←this]
  congr 1
  ·rw[List.take_append_drop]
  ·rw[List.take_append_drop]
   exact(List.drop_eq_getElem?_toList_append (l:=W.qs) (i:=i)).trans (by rw[hi];rfl)
 have e2:W.qs.set i (q,G')=W.qs.take i++(q,G')::W.qs.drop (i+1):=by
  rw[List.set_eq_take_append_cons_drop,if_pos hlt]
 generalize W.qs.take i=l1 at e1 e2
 generalize W.qs.drop (i+1)=l2 at e1 e2
 have hm:(q,G)∈W.qs:=ZP hi
 have nd:=x.nd
 unfold Cs at nd
 rw[e1,Cv] at nd
 have eA:Cb p W++(A6 l1++A6 ((q,G)::l2))=(Cb p W++A6 l1)++((q::foot G)++A6 l2):=by
  rw[List.append_assoc];rfl
 rw[eA] at nd
 obtain⟨a1,a2,a3⟩:=List.nodup_append.mp nd
 obtain⟨b1,b2,b3⟩:=List.nodup_append.mp a2
 have apart:∀b,(b∈Cb p W∨b∈A6 l1∨b∈A6 l2)→b≠q∧b∉foot G:=fun b hb=>by
  have no:b∉q::foot G:=fun m=>by
   rcases hb with hb|hb|hb
   ·exact a3 b (ZB _ hb) b (ZB _ m) rfl
   ·exact a3 b (ZC _ hb) b (ZB _ m) rfl
   ·exact b3 b m b hb rfl
  exact⟨fun z=>no (by rw[z];exact ZL ..),fun z=>no (ZD _ z)⟩
 have kp:∀b o,(b∈Cb p W∨b∈A6 l1∨b∈A6 l2)→H b=some o→H' b=some o:=fun b o hb e=>f b o e (apart b hb).1 (apart b hb).2
 have t:∀{b},b∈Cb p W→b∈Cb p W∨b∈A6 l1∨b∈A6 l2:=fun h=>.inl h
 have hsm:W.qs.map (fun q=>V.ref q.1)=(W.qs.set i (q,G')).map fun q=>V.ref q.1:=by
  rw[e2,e1,ZF,ZF];rfl
 refine⟨⟨let⟨dx,e⟩:=x.ob;⟨dx,kp _ _ (t (by simp[Cb])) e⟩,?_,fun r hr=>?_,x.po.keep (fun o e=>kp _ _ (t (by simp[Cb])) e) (fun o e=>kp _ _ (t (by simp[Cb])) e),kp _ _ (t (by simp[Cb])) x.iq,kp _ _ (t (by simp[Cb])) x.fi,kp _ _ (t (by simp[Cb])) x.en,?_⟩,fun b o e hb=>?_⟩
 ·have:=kp _ _ (t (b:=W.hs) (by simp[Cb])) x.hs
  rw[hsm] at this
  exact this
 ·have hr:r∈W.qs.set i (q,G'):=hr
  rw[e2] at hr
  have oth:r∈l1∨r∈l2→HouseAt CH H' r.1 r.2:=fun h=>by
   have hW:r∈W.qs:=by
    rw[e1]
    exact h.elim (fun z=>ZB _ z) fun z=>ZC _ (ZD _ z)
   exact(x.ho r hW).keep fun b o hb e=>kp b o (h.elim (fun z=>.inr (.inl (mem_hfoot.mpr ⟨r,z,hb⟩))) fun z=>.inr (.inr (mem_hfoot.mpr ⟨r,z,hb⟩))) e
  rcases ZI hr with hr|hr
  ·exact oth (.inl hr)
  ·rcases ZM hr with rfl|hr
   ·exact S
   ·exact oth (.inr hr)
 ·show(Cb p W++A6 (W.qs.set i (q,G'))).Nodup
  rw[e2,Cv]
  have eB:Cb p W++(A6 l1++A6 ((q,G')::l2))=(Cb p W++A6 l1)++((q::foot G')++A6 l2):=by
   rw[List.append_assoc];rfl
  rw[eB]
  refine Jbh nd (List.nodup_cons.mpr ⟨fun m=>S.p_ne m rfl,S.nd⟩) fun b hb=>?_
  rcases ZM hb with rfl|hb
  ·exact .inl (ZL ..)
  ·rcases nw b hb with h|h
   ·exact .inl (ZD _ h)
   ·have no:=x.none_no h
    unfold Cs at no
    rw[e1,Cv] at no
    refine .inr ⟨fun m=>no ?_,fun m=>no ?_⟩
    ·rcases ZI m with m|m
     ·exact ZB _ m
     ·exact ZC _ (ZB _ m)
    ·exact ZC _ (ZC _ (ZC (q::foot G) m))
 ·have hb':b∉A6 W.qs:=fun m=>hb (ZC _ m)
  exact f b o e (fun z=>hb' (mem_hfoot.mpr ⟨_,hm,.inl z⟩)) fun z=>hb' (mem_hfoot.mpr ⟨_,hm,.inr z⟩)
theorem WorldAt.tops(x:WorldAt CW CH CP H p W):(W.po≠W.pd∧W.po≠p∧W.po≠W.hs∧W.po≠W.iq∧W.po≠W.fi∧W.po≠W.en)∧(W.pd≠p∧W.pd≠W.hs∧W.pd≠W.iq∧W.pd≠W.fi∧W.pd≠W.en)∧(W.iq≠p∧W.iq≠W.hs∧W.iq≠W.fi∧W.iq≠W.en)∧(W.fi≠p∧W.fi≠W.hs∧W.fi≠W.en)∧(W.en≠p∧W.en≠W.hs):=by
 have nd:=(List.nodup_append.mp x.nd).1
 simp only[Cb,List.nodup_cons,List.mem_cons,List.not_mem_nil,or_false,not_or,List.nodup_nil,and_true,not_false_eq_true] at nd
 obtain⟨⟨a1,a2,a3,a4,a5,a6⟩,⟨b1,b2,b3,b4,b5⟩,⟨c1,c2,c3,c4⟩,⟨d1,d2,d3⟩,⟨e1,e2⟩,f1⟩:=nd
 exact⟨⟨c1,Ne.symm a2,Ne.symm b1,c2,c3,c4⟩,⟨Ne.symm a3,Ne.symm b2,d1,d2,d3⟩,⟨Ne.symm a4,Ne.symm b3,e1,e2⟩,⟨Ne.symm a5,Ne.symm b4,f1⟩,⟨Ne.symm a6,Ne.symm b5⟩⟩
theorem WorldAt.top_house(x:WorldAt CW CH CP H p W){b:Addr}(hb:b∈Cb p W){q:Addr×HGh}(hq:q∈W.qs):b≠q.1∧b∉foot q.2:=by
 have h:=(List.nodup_append.mp x.nd).2.2 b hb
 exact⟨fun z=>h _ (mem_hfoot.mpr ⟨q,hq,.inl rfl⟩) z,fun z=>h _ (mem_hfoot.mpr ⟨q,hq,.inr z⟩) rfl⟩
theorem WorldAt.posted(x:WorldAt CW CH CP H p W){c:Int}{ls:List (Int×Addr)}(S:PostAt CP H' W.po W.pd c ls)(f:∀b o,H b=some o→b≠W.po→b≠W.pd→H' b=some o) :
 WorldAt CW CH CP H' p { W with c:=c,ls:=ls }∧WFr p W H H':=by
 obtain⟨⟨a1,a2,a3,a4,a5,a6⟩,⟨b1,b2,b3,b4,b5⟩,_⟩:=x.tops
 refine⟨⟨let⟨dx,e⟩:=x.ob;⟨dx,f _ _ e (Ne.symm a2) (Ne.symm b1)⟩,f _ _ x.hs (Ne.symm a3) (Ne.symm b2),fun q hq=>(x.ho q hq).keep fun b o hb e=>f b o e ?_ ?_,S,f _ _ x.iq (Ne.symm a4) (Ne.symm b3),f _ _ x.fi (Ne.symm a5) (Ne.symm b4),f _ _ x.en (Ne.symm a6) (Ne.symm b5),x.nd⟩,fun b o e hb=>f b o e ?_ ?_⟩
 ·rintro rfl
  have h:=x.top_house (b:=W.po) (by simp[Cb]) hq
  exact hb.elim h.1 h.2
 ·rintro rfl
  have h:=x.top_house (b:=W.pd) (by simp[Cb]) hq
  exact hb.elim h.1 h.2
 ·rintro rfl
  exact hb (ZB _ (by simp[Cb]))
 ·rintro rfl
  exact hb (ZB _ (by simp[Cb]))
end
def U4(W:WGh)(h:Int):Prop:=h<0∨(W.qs.length:Int)≤h
def InW(W:WGh)(h:Int)(q:Addr)(G:HGh):Prop:=0≤h∧W.qs[h.toNat]?=some (q,G)
theorem InW.at{CW CH CP p:Addr}{H:Hp}{W:WGh}{h:Int}{q:Addr}{G:HGh}(i:InW W h q G)(x:WorldAt CW CH CP H p W):HouseAt CH H q G:=x.ho (q,G) (ZP i.2)
theorem InW.lt{W:WGh}{h:Int}{q:Addr}{G:HGh}(i:InW W h q G):0≤h∧h<W.qs.length:=by
 obtain⟨z,_⟩:=ZJ i.2
 have:=i.1
 exact⟨i.1,by omega⟩
theorem InW.atI{W:WGh}{h:Int}{q:Addr}{G:HGh}(i:InW W h q G):L2.atI (W.qs.map fun q=>V.ref q.1) h=some (V.ref q):=Dc i.1 (by rw[ZH,i.2];rfl)
theorem lookup_mem{y:Str}{k:NameKind}:∀{l:List (Str×NameKind)},l.lookup y=some k→(y,k)∈l
 | [],h=>by simp at h
 | (a,b)::l,h=>by
   rw[List.lookup_cons] at h
   by_cases e:y=a
   ·have q1:(y==a)=true:=by rw[e];exact beq_self_eq_true a
    rw[q1] at h
    have h:b=k:=ZO h
    rw[e,h];exact ZL ..
   ·have q1:(y==a)=false:=beq_eq_false_iff_ne.mpr e
    rw[q1] at h
    exact ZD _ (lookup_mem h)
theorem V4{l:List (Str×NameKind)}{cl:List (Str×Addr)}{y:Str}(hc:∀p∈l,p.2=.cell∨p.2=.free→∃z,cl.lookup p.1=some z)(h:l.lookup y=some .cell∨l.lookup y=some .free):∃z,cl.lookup y=some z:=by
 rcases h with h|h
 ·exact hc _ (lookup_mem h) (.inl rfl)
 ·exact hc _ (lookup_mem h) (.inr rfl)
theorem Jgy{a b c:Str}{cl:List (Str×Addr)}{y:Str}(h:([(a,NameKind.local),(b,NameKind.local),(c,NameKind.globalImplicit)]:List (Str×NameKind)).lookup y=some .cell∨([(a,NameKind.local),(b,NameKind.local),(c,NameKind.globalImplicit)]:List (Str×NameKind)).lookup y=some .free):∃z,cl.lookup y=some z :=
 V4 (fun p hp hk=>by
  simp only[List.mem_cons,List.not_mem_nil,or_false] at hp
  rcases hp with rfl|rfl|rfl<;>rcases hk with hk|hk<;>cases hk) h
inductive RepS(K:W.Frag)(H:Hp):V→PyData→Prop
 | tup {a:Addr} {xs:List V} {ds:List PyData}:SqT K H a xs→Paired (Rep K H) xs ds→RepS K H (.ref a) (.tuple ds)
section
variable {X:Cx}{pins:List (Addr×Obj)}{σ:L2.St}{H:Hp}{s:Shared}
theorem RepS.reads(I:Inv X pins σ H s){v:V}{d:PyData}(r:RepS X.K H v d){u:Value}(e:RelV v u):∃as,Reads s.heap u d as:=by
 cases r with
 | tup h p =>
   cases e
   obtain⟨its,rv,⟨o,ho,hc,n,hd⟩,_⟩:=I.tuple h
   obtain⟨as,ra⟩:=Eo rv (Paired.length p) fun j x d e1 e2 u ru=>(A2 p j x d e1 e2).reads I ru
   exact⟨as,.tuple ho hc hd (by simpa using ra)⟩
end
structure Lies(H:Hp)(L:List Addr):Prop where
 nd:L.Nodup
 all:∀b∈L,∃o,H b=some o
theorem Lies.keep{H H':Hp}{L:List Addr}(x:Lies H L)(k:∀b o,H b=some o→∃o',H' b=some o'):Lies H' L:=⟨x.nd,fun b hb=>let⟨o,e⟩:=x.all b hb;k b o e⟩
theorem Lies.new{H H':Hp}{L:List Addr}{b:Addr}(x:Lies H L)(h:H b=none)(h':∃o,H' b=some o)(k:∀b o,H b=some o→∃o',H' b=some o'):Lies H' (b::L) :=
 ⟨List.nodup_cons.mpr ⟨fun m=>(by obtain⟨o,e⟩:=x.all b m;rw[h] at e;cases e),x.nd⟩,fun c hc=>by
  rcases ZM hc with rfl|hc
  ·exact h'
  ·obtain⟨o,e⟩:=x.all c hc;exact k c o e⟩
section
variable {X:Cx}{o e:Expr}{es:List Expr}{ta:TE}{t:TA}{C f:Addr}{m:Str}{apos pos:Pos}
end
theorem Lies.add{H H':Hp}{L X:List Addr}(x:Lies H L)(nd:X.Nodup)(h:∀b∈X,H b=none)(h':∀b∈X,∃o,H' b=some o)(k:∀b o,H b=some o→∃o',H' b=some o'):Lies H' (X++L) :=
 ⟨List.nodup_append.mpr ⟨nd,x.nd,fun b hb c hc e=>by obtain⟨o,z⟩:=x.all c hc;rw[←e,h b hb] at z;cases z⟩,fun c hc=>by
  rcases ZI hc with hc|hc
  ·exact h' c hc
  ·obtain⟨o,e⟩:=x.all c hc;exact k c o e⟩
theorem Lies.perm{H:Hp}{L L':List Addr}(x:Lies H L)(p:L.Perm L'):Lies H L':=⟨p.nodup_iff.mp x.nd,fun b hb=>x.all b (p.mem_iff.mpr hb)⟩
def Kp(p:Addr)(H H':Hp):Prop:=∀b o,H b=some o→b≠p→H' b=some o
theorem Kp.trans{p:Addr}{H H1 H2:Hp}(a:Kp p H H1)(b:Kp p H1 H2):Kp p H H2:=fun c o e h=>b c o (a c o e h) h
theorem Ji5{p:Addr}{H:Hp}{o:HO}:Kp p H (upd H p o):=fun b o' e h=>by rw[Ad h];exact e
theorem Kp.ex{p:Addr}{H H':Hp}(k:Kp p H H')(hp:∃o,H' p=some o):∀b o,H b=some o→∃o',H' b=some o':=fun b o e=>by
 by_cases z:b=p
 ·rw[z];exact hp
 ·exact⟨o,k b o e z⟩
theorem Jgm{x y:Str}(h:¬x=y):decide (V.str x=V.str y)=false:=decide_eq_false fun z=>h (V.str.inj z)
theorem noI{i:Nat}{c wd:Str}{ta tb:TS}{D:Ends}{σ:L2.St}{H:Hp}(k:tb D σ H)(hv:σ[i]?=some (some (.str wd)):=by rfl)(ne:¬wd=c:=by decide +kernel):Zv (Kj (tOp rEq (Co i) (tC (.str c)))) ta tb D σ H:=⟨_,hv,rfl,_,rfl,by rw[Jgm ne];exact B0 k⟩
theorem Hu{i:Nat}{c:Str}{ta tb:TS}{D:Ends}{σ:L2.St}{H:Hp}(k:ta D σ H)(hv:σ[i]?=some (some (.str c)):=by rfl):Zv (Kj (tOp rEq (Co i) (tC (.str c)))) ta tb D σ H:=⟨_,hv,rfl,_,rfl,by rw[decide_eq_true rfl];exact Cd k⟩
theorem WorldAt.lst_no{CW CH CP p:Addr}{H:Hp}{W:WGh}(x:WorldAt CW CH CP H p W){b:Addr}{xs:List V}(e:H b=some (.lst xs))(h:b≠W.hs):b∉Cs p W:=fun hb=>by
 rcases ZI hb with hb|hb
 ·simp only[Cb,List.mem_cons,List.not_mem_nil,or_false] at hb
  rcases hb with rfl|rfl|rfl|rfl|rfl|rfl|rfl
  ·obtain⟨dx,e'⟩:=x.ob;rw[e] at e';cases e'
  ·exact h rfl
  ·obtain⟨dx,e'⟩:=x.po.ob;rw[e] at e';cases e'
  ·have e':=x.po.dc;rw[e] at e';cases e'
  ·have e':=x.iq;rw[e] at e';cases e'
  ·have e':=x.fi;rw[e] at e';cases e'
  ·have e':=x.en;rw[e] at e';cases e'
 ·obtain⟨q,hq,hb⟩:=mem_hfoot.mp hb
  have ne:=(x.ho q hq).lst_ne e
  exact hb.elim ne.1 ne.2
end FX
namespace K42
open PySem L2 FX
abbrev EX0(P : Program)(w : World)(K : W.Frag)(mg : Str → Option Value)(base : Heap) := FnOk P w K mg base CX0
abbrev EX1(P : Program)(w : World)(K : W.Frag)(mg : Str → Option Value)(base : Heap) := FnOk P w K mg base (CX1 P w)
def top(i:Nat):Stmt:=PySem.Challenge.pw_farhold_k42_world_by_houses.main.body.getD i (.Pass ⟨0,0,0,0⟩)
abbrev Sr:Stmt:=inClass (top 14) 0
abbrev Sq:Stmt:=inClass (top 14) 1
abbrev Ss:Stmt:=inClass (top 14) 2
abbrev Sv:Stmt:=inClass (top 14) 3
abbrev Sn:Stmt:=inClass (top 14) 4
abbrev Su:Stmt:=inClass (top 14) 5
abbrev So:Stmt:=inClass (top 14) 6
abbrev Sy:Stmt:=inClass (top 14) 7
abbrev L3:Stmt:=inClass (top 14) 8
abbrev L0:Stmt:=inClass (top 14) 9
abbrev Ie:Stmt:=inClass (top 14) 10
abbrev Sm:Stmt:=inClass (top 14) 13
abbrev Jv:Stmt:=inClass (top 14) 14
abbrev W0:Stmt:=inClass (top 14) 15
abbrev G0:Stmt:=inClass (top 14) 16
abbrev Fe:Stmt:=inClass (top 14) 18
abbrev Hn:Stmt:=inClass (top 14) 19
abbrev Ij:Stmt:=inClass (top 14) 20
abbrev Qk:Stmt:=inClass (top 14) 21
abbrev Ta:Stmt:=inClass (top 14) 22
abbrev Sx:Stmt:=top 25
abbrev Ii:Stmt:=top 12
abbrev Id:Stmt:=top 10
abbrev W8:Stmt:=top 26
abbrev Im:Stmt:=top 27
abbrev Sw:Stmt:=top 28
abbrev sDo:Stmt:=top 29
abbrev Qj:Stmt:=top 30
abbrev Qm:Stmt:=top 31
abbrev Yi:Stmt:=top 32
abbrev W9:Stmt:=top 33
abbrev Qn:Stmt:=top 34
abbrev Il:Stmt:=top 35
abbrev Xd:Stmt:=top 36
abbrev Io:Stmt:=top 37
abbrev Xa:Stmt:=top 38
abbrev Xe:Stmt:=top 39
abbrev Yj:Stmt:=top 40
structure Txt(K:W.Frag)(mg:Str→Option Value)(C NHd NNr MI NW:Addr):Prop where
 cl:Cls K C
 nN:NoAttr K C "number"
 nM:NoAttr K C "made"
 nT:NoAttr K C "ticks"
 nH:NoAttr K C "hand"
 nO:NoAttr K C "outs"
 nL:NoAttr K C "holds"
 nR:NoAttr K C "records"
 mgC:mg "House"=some (.ref C)
 cNHd:Ry K mg "NotHeld" NHd
 cNNr:Ry K mg "NotNear" NNr
 cMI:Ry K mg "Missing" MI
 cNW:Ry K mg "NoWeight" NW
 len:mg "len"=none
 range:mg "range"=none
 tuple:mg "tuple"=none
 sorted:mg "sorted"=none
 isi:mg "isinstance"=none
def P3(C:Addr):Sp:=fun vs H Q _=>∃(p t:Addr)(G:HGh)(th:T2),vs=[.ref p,.ref t]∧HouseAt C H p G∧H t=some (.tup (tv th))∧Q (.bl (decide (th.1=G.num))) H
def Hz(C NHd:Addr):Sp:=fun vs H Q E=>∃(p t:Addr)(G:HGh)(th:T2),vs=[.ref p,.ref t]∧HouseAt C H p G∧H t=some (.tup (tv th))∧((th∈G.hand∧Q .non H)∨(th∉G.hand∧E (.ref NHd) none H))
def P2(C NNr:Addr):Sp:=fun vs H Q E=>∃(p t:Addr)(G:HGh)(th:T2),vs=[.ref p,.ref t]∧HouseAt C H p G∧H t=some (.tup (tv th))∧((th.1=G.num∧Q .non H)∨(th.1≠G.num∧E (.ref NNr) none H))
def R1(G:HGh)(ta tb:T2)(good:Addr→List T2→Prop)(nh nn mi:Prop):Prop :=
 (ta∉G.hand∧nh)∨(ta∈G.hand∧ta.1≠G.num∧nn)∨(ta∈G.hand∧ta.1=G.num∧∃(a:Addr)(hl:List T2),G.holds.find? (fun q=>decide (q.1=ta))=some (ta,a,hl)∧((tb∉hl∧mi)∨(tb∈hl∧good a hl)))
def Lv(C NHd NNr MI:Addr):Sp:=fun vs H Q E=>∃(p a b:Addr)(G:HGh)(ta tb:T2),vs=[.ref p,.ref a,.ref b]∧HouseAt C H p G∧H a=some (.tup (tv ta))∧H b=some (.tup (tv tb)) ∧
 R1 G ta tb (fun _ _=>Q .non H) (E (.ref NHd) none H) (E (.ref NNr) none H) (E (.ref MI) none H)
section
variable {P:Program}{w:World}{K:W.Frag}{mg:Str→Option Value}{base:Heap}{C NHd NNr MI NW:Addr}
theorem scN:Ao ["self","thing"] ["self","thing"] (Aj G0):={}
theorem Qy{f:Addr}{fd:FuncData}(F:Fun K "is_near" "House.is_near" G0 f fd)(T:Txt K mg C NHd NNr MI NW):EX0 P w K mg base 1 f fd ["self","thing"] (P3 C):=by
 refine F.ok scN (fun vs H Q E h=>?_) (fun cdv A outer s H vs Q E hr h=>?_)
 ·obtain⟨p,t,G,th,rfl,_⟩:=h
  rfl
 ·obtain⟨p,t,G,th,rfl,S,ht,k⟩:=h
  obtain⟨dx,hp⟩:=S.ob
  refine⟨_,Af (Ar (Jfc (Jff (Av Aq (pv 1) Ag) (Aw (pv 0) rfl)))),?_⟩
  exact⟨_,rfl,⟨t,_,0,_,rfl,rfl,SqT.of ht,rfl,_,rfl,p,C,dx,_,_,rfl,hp,T.cl,T.nN,Oy G,_,_,rfl,rfl,k⟩⟩
theorem Jf{H:Hp}{d t:Addr}{l:List T2}{th:T2}(hd:H d=some (Bh l))(ht:H t=some (.tup (tv th))):DGet H d (.ref t) (if th∈l then some (V.bl true) else none):=by
 have:=DGet.t (k:=tk th) hd ht
 rw[Gc] at this
 exact this
theorem Jhy:Ao ["self","thing"] ["self","thing"] (Aj Fe):={}
theorem Iy{f:Addr}{fd:FuncData}(F:Fun K "need_in_hand" "House.need_in_hand" Fe f fd)(T:Txt K mg C NHd NNr MI NW):EX1 P w K mg base 1 f fd ["self","thing"] (Hz C NHd):=by
 refine ok1 F Jhy (fun vs H Q E h=>?_) (fun cdv A outer s H vs Q E hr h=>?_)
 ·obtain⟨p,t,G,th,rfl,_⟩:=h
  rfl
 ·obtain⟨p,t,G,th,rfl,S,ht,k⟩:=h
  have hu:=Cm hr
  obtain⟨dx,hp⟩:=S.ob
  refine⟨_,Af (A9 (Eh (Ec hu (pv 1) (Aw (pv 0) rfl))) (Af (E6 rfl rfl T.cNHd Ff)) Ax),?_⟩
  refine⟨_,rfl,_,rfl,p,C,dx,_,_,rfl,hp,T.cl,T.nH,D9 G,G.h,_,rfl,Jf S.dh ht,_,rfl,?_⟩
  rcases k with⟨h,k⟩|⟨h,k⟩
  ·rw[if_pos h];exact B0 k
  ·rw[if_neg h];exact Cd k
end
structure Mth(K:W.Frag)(C:Addr)(x qual:Str)(st:Stmt)(ps:List Str)(f:Addr)(fd:FuncData):Prop where
 fn:Fun K x qual st f fd
 bd:Binds K fd ps []
 mt:Jcb K C x f
section
variable {P:Program}{w:World}{K:W.Frag}{mg:Str→Option Value}{base:Heap}{C NHd NNr MI NW:Addr}
theorem Jhx:Ao ["self","thing"] ["self","thing"] (Aj Hn):={}
theorem Ts{f f1:Addr}{fd fd1:FuncData}(F:Fun K "need_near" "House.need_near" Hn f fd)(T:Txt K mg C NHd NNr MI NW)(M1:Mth K C "is_near" "House.is_near" G0 ["self","thing"] f1 fd1):EX1 P w K mg base 2 f fd ["self","thing"] (P2 C NNr):=by
 have G1:EX1 P w K mg base 1 f1 fd1 ["self","thing"] (P3 C):=FX.FnOk.to1 (Qy M1.fn T)
 refine ok1 F Jhx (fun vs H Q E h=>?_) (fun cdv A outer s H vs Q E hr h=>?_)
 ·obtain⟨p,t,G,th,rfl,_⟩:=h
  rfl
 ·obtain⟨p,t,G,th,rfl,S,ht,k⟩:=h
  have hu:=Cm hr
  obtain⟨dx,hp⟩:=S.ob
  refine⟨_,Af (A9 (Jah (Fh (Ap (pl:=_) (pv 0) T.cl M1.mt G1 hr M1.bd .nil Bb (Aa (pv 1) Ae)))) (Af (E6 rfl rfl T.cNNr Ff)) Ax),?_⟩
  refine⟨_,rfl,p,dx,_,rfl,hp,Bk G (by decide +kernel),_,rfl,p,t,G,th,rfl,S,ht,_,rfl,?_⟩
  rcases k with⟨h,k⟩|⟨h,k⟩
  ·rw[decide_eq_true h];exact B0 k
  ·rw[decide_eq_false h];exact Cd k
theorem Jgl:Ao ["self","a","b"] ["self","a","b"] (Aj Ij):={}
theorem Ka{H:Hp}{p t:Addr}{G:HGh}{th:T2}{a:Addr}{hl:List T2}(S:HouseAt C H p G)(ht:H t=some (.tup (tv th)))(f:G.holds.find? (fun q=>decide (q.1=th))=some (th,a,hl)):DGet H G.l (.ref t) (some (V.ref a))∧H a=some (Bh hl)∧(th,a,hl)∈G.holds:=by
 have:=DGet.t (k:=tk th) S.dl ht
 rw[Dp (k:=fun q:T2×Addr×List T2=>q.1) (f:=fun q=>V.ref q.2.1),f] at this
 exact⟨this,S.hl _ (List.mem_of_find?_eq_some f),List.mem_of_find?_eq_some f⟩
theorem On{f f1 f2 f3:Addr}{fd fd1 fd2 fd3:FuncData}(F:Fun K "need_holding" "House.need_holding" Ij f fd)(T:Txt K mg C NHd NNr MI NW)(M1:Mth K C "is_near" "House.is_near" G0 ["self","thing"] f1 fd1)(M2:Mth K C "need_in_hand" "House.need_in_hand" Fe ["self","thing"] f2 fd2)(M3:Mth K C "need_near" "House.need_near" Hn ["self","thing"] f3 fd3):EX1 P w K mg base 3 f fd ["self","a","b"] (Lv C NHd NNr MI):=by
 have G2:EX1 P w K mg base 1 f2 fd2 ["self","thing"] (Hz C NHd):=Iy M2.fn T
 have G3:EX1 P w K mg base 2 f3 fd3 ["self","thing"] (P2 C NNr):=Ts M3.fn T M1
 refine ok1 F Jgl (fun vs H Q E h=>?_) (fun cdv A outer s H vs Q E hr h=>?_)
 ·obtain⟨p,a,b,G,ta,tb,rfl,_⟩:=h
  rfl
 ·obtain⟨p,a,b,G,ta,tb,rfl,S,ha,hb,k⟩:=h
  have hu:=Cm hr
  have hr1:Room 1 _:=hr.mono (by decide)
  obtain⟨dx,hp⟩:=S.ob
  refine⟨_,Ac (A7 (Ap (pl:=_) (pv 0) T.cl M2.mt G2 hr1 M2.bd .nil Bb (Aa (pv 1) Ae))) (Ac (A7 (Ap (pl:=_) (pv 0) T.cl M3.mt G3 hr M3.bd .nil Bb (Aa (pv 1) Ae)))
   (Af (A9 (Eh (Ec hu (pv 2) (Be hu (Aw (pv 0) rfl) (pv 1)))) (Af (E6 rfl rfl T.cMI Ff)) Ax))),?_⟩
  refine⟨_,rfl,p,dx,_,rfl,hp,Bk G (by decide +kernel),_,rfl,p,a,G,ta,rfl,S,ha,?_⟩
  rcases k with⟨h,k⟩|⟨h,h2,k⟩|⟨h,h2,ad,hl,fnd,k⟩
  ·exact .inr ⟨h,k⟩
  ·refine .inl ⟨h,_,rfl,p,dx,_,rfl,hp,Bk G (by decide +kernel),_,rfl,p,a,G,ta,rfl,S,ha,.inr ⟨h2,k⟩⟩
  ·obtain⟨g1,g2,g3⟩:=Ka S ha fnd
   refine .inl ⟨h,_,rfl,p,dx,_,rfl,hp,Bk G (by decide +kernel),_,rfl,p,a,G,ta,rfl,S,ha,.inl ⟨h2,?_⟩⟩
   refine⟨_,rfl,_,rfl,p,C,dx,_,_,rfl,hp,T.cl,T.nL,Dv G,_,rfl,G.l,_,rfl,g1,ad,_,rfl,Jf g2 hb,_,rfl,?_⟩
   rcases k with⟨h3,k⟩|⟨h3,k⟩
   ·rw[if_neg h3];exact Cd k
   ·rw[if_pos h3];exact B0 k
def Done(C:Addr)(p:Addr)(G:HGh)(H:Hp)(G':HGh)(k:Hp→Prop):Prop:=∀H',HouseAt C H' p G'→HFr p G H H'→k H'
def Js(C NHd NNr:Addr):Sp:=fun vs H Q E=>∃(p a b:Addr)(G:HGh)(ta tb:T2),vs=[.ref p,.ref a,.ref b]∧HouseAt C H p G∧H a=some (.tup (tv ta))∧H b=some (.tup (tv tb)) ∧
 ((¬(ta∈G.hand∧tb∈G.hand)∧E (.ref NHd) none H)∨(ta∈G.hand∧tb∈G.hand∧ta.1≠G.num∧E (.ref NNr) none H) ∨
  (ta∈G.hand∧tb∈G.hand∧ta.1=G.num∧∃(ad:Addr)(hl:List T2),G.holds.find? (fun q=>decide (q.1=ta))=some (ta,ad,hl)∧hl.length≤500 ∧
   Done C p G H { G with ticks:=G.ticks+1,holds:=Fx G.holds ad (Bo hl tb) } (Q .non)))
def Ju(C NHd NNr MI:Addr):Sp:=fun vs H Q E=>∃(p a b:Addr)(G:HGh)(ta tb:T2),vs=[.ref p,.ref a,.ref b]∧HouseAt C H p G∧H a=some (.tup (tv ta))∧H b=some (.tup (tv tb)) ∧
 R1 G ta tb (fun ad hl=>Done C p G H { G with ticks:=G.ticks+1,holds:=Fx G.holds ad (El hl tb) } (Q .non)) (E (.ref NHd) none H) (E (.ref NNr) none H) (E (.ref MI) none H)
def Jq(C NHd NNr MI:Addr):Sp:=fun vs H Q E=>∃(p a b:Addr)(G:HGh)(ta tb:T2),vs=[.ref p,.ref a,.ref b]∧HouseAt C H p G∧H a=some (.tup (tv ta))∧H b=some (.tup (tv tb))∧G.hand.length≤500 ∧
 R1 G ta tb (fun _ _=>Done C p G H { G with ticks:=G.ticks+1,hand:=Bo G.hand tb } (Q .non)) (E (.ref NHd) none H) (E (.ref NNr) none H) (E (.ref MI) none H)
def Jt(C NHd:Addr):Sp:=fun vs H Q E=>∃(p b:Addr)(G:HGh)(tb:T2),vs=[.ref p,.ref b]∧HouseAt C H p G∧H b=some (.tup (tv tb)) ∧
 ((tb∉G.hand∧E (.ref NHd) none H)∨(tb∈G.hand∧Done C p G H { G with ticks:=G.ticks+1,hand:=El G.hand tb } (Q .non)))
theorem Dy{p d:Addr}{G G1:HGh}{H H1:Hp}{o:HO}{dx:Addr}{k:Hp→Prop}(hd:d∈foot G)(hf:foot G1=foot G)(e:H1=upd H d o)(S1:HouseAt C H1 p G1)(D:Done C p G H { G1 with ticks:=G1.ticks+1 } k) :
 k (upd H1 p (.ins C dx (Bz { G1 with ticks:=G1.ticks+1 }))):=by
 refine D _ (S1.fld dx G1.made (G1.ticks+1)) fun b o' e1 h1 h2=>?_
 rw[Ad h1,e,Ad (fun z=>h2 (by rw[z];exact hd))]
 exact e1
theorem scH:Ao ["self","a","b"] ["self","a","b"] (Aj Ss):={}
theorem O1{G:HGh}{q:T2×Addr×List T2}(h:q∈G.holds):q.2.1∈foot G:=by
 unfold foot
 exact ZD _ (ZD _ (ZD _ (ZD _ (List.mem_map_of_mem h))))
theorem Jdf{f f1 f2 f3:Addr}{fd fd1 fd2 fd3:FuncData}(F:Fun K "hold" "House.hold" Ss f fd)(T:Txt K mg C NHd NNr MI NW)(M1:Mth K C "is_near" "House.is_near" G0 ["self","thing"] f1 fd1)(M2:Mth K C "need_in_hand" "House.need_in_hand" Fe ["self","thing"] f2 fd2)(M3:Mth K C "need_near" "House.need_near" Hn ["self","thing"] f3 fd3):EX1 P w K mg base 3 f fd ["self","a","b"] (Js C NHd NNr):=by
 have G2:EX1 P w K mg base 1 f2 fd2 ["self","thing"] (Hz C NHd):=Iy M2.fn T
 have G3:EX1 P w K mg base 2 f3 fd3 ["self","thing"] (P2 C NNr):=Ts M3.fn T M1
 refine ok1 F scH (fun vs H Q E h=>?_) (fun cdv A outer s H vs Q E hr h=>?_)
 ·obtain⟨p,a,b,G,ta,tb,rfl,_⟩:=h
  rfl
 ·obtain⟨p,a,b,G,ta,tb,rfl,S,ha,hb,k⟩:=h
  have hu:=Cm hr
  have hr1:Room 1 _:=hr.mono (by decide)
  obtain⟨dx,hp⟩:=S.ob
  refine⟨_,Ac (A7 (Ap (pl:=_) (pv 0) T.cl M2.mt G2 hr1 M2.bd .nil Bb (Aa (pv 1) Ae))) (Ac (A7 (Ap (pl:=_) (pv 0) T.cl M2.mt G2 hr1 M2.bd .nil Bb (Aa (pv 2) Ae))) (Ac (A7 (Ap (pl:=_) (pv 0) T.cl M3.mt G3 hr M3.bd .nil Bb (Aa (pv 1) Ae)))
   (Ac (C5 hu (Be hu (Aw (pv 0) rfl) (pv 1)) (pv 2) Fp rfl) (Af (Ca (pv 0) Ag C9))))),?_⟩
  refine⟨_,rfl,p,dx,_,rfl,hp,Bk G (by decide +kernel),_,rfl,p,a,G,ta,rfl,S,ha,?_⟩
  by_cases h1:ta∈G.hand
  ·refine .inl ⟨h1,_,rfl,p,dx,_,rfl,hp,Bk G (by decide +kernel),_,rfl,p,b,G,tb,rfl,S,hb,?_⟩
   by_cases h2:tb∈G.hand
   ·refine .inl ⟨h2,_,rfl,p,dx,_,rfl,hp,Bk G (by decide +kernel),_,rfl,p,a,G,ta,rfl,S,ha,?_⟩
    rcases k with⟨h,k⟩|⟨_,_,h,k⟩|⟨_,_,h,ad,hl,fnd,z,k⟩
    ·exact absurd ⟨h1,h2⟩ h
    ·exact .inr ⟨h,k⟩
    ·obtain⟨g1,g2,g3⟩:=Ka S ha fnd
     refine .inl ⟨h,_,rfl,p,C,dx,_,_,rfl,hp,T.cl,T.nL,Dv G,_,rfl,G.l,_,rfl,g1,_,rfl,ad,_,rfl,DPut.t (k:=tk tb) g2 hb (by rw[ZA];exact A3 (by omega)),?_⟩
     rw[Eb]
     have S1:HouseAt C (upd H ad (Bh (Bo hl tb))) p { G with holds:=Fx G.holds ad (Bo hl tb) }:=S.setHold g3 (Bo hl tb)
     obtain⟨dx1,hp1⟩:=S1.ob
     refine⟨_,rfl,p,C,dx1,_,_,rfl,hp1,T.cl,T.nT,B7 _,_,_,rfl,rfl,dx1,_,hp1,Da _,?_⟩
     rw[Bg]
     exact Dy (G1:={ G with holds:=Fx G.holds ad (Bo hl tb) }) (O1 g3) (by unfold foot;rw[Lz]) rfl S1 k
   ·rcases k with⟨h,k⟩|⟨_,h,_⟩|⟨_,h,_⟩
    ·exact .inr ⟨h2,k⟩
    ·exact absurd h h2
    ·exact absurd h h2
  ·rcases k with⟨h,k⟩|⟨h,_⟩|⟨h,_⟩
   ·exact .inr ⟨h1,k⟩
   ·exact absurd h h1
   ·exact absurd h h1
theorem scD:Ao ["self","a","b"] ["self","a","b"] (Aj Sv):={}
theorem Jdi{f f1 f2 f3 f4:Addr}{fd fd1 fd2 fd3 fd4:FuncData}(F:Fun K "drop" "House.drop" Sv f fd)(T:Txt K mg C NHd NNr MI NW)(M1:Mth K C "is_near" "House.is_near" G0 ["self","thing"] f1 fd1)(M2:Mth K C "need_in_hand" "House.need_in_hand" Fe ["self","thing"] f2 fd2)(M3:Mth K C "need_near" "House.need_near" Hn ["self","thing"] f3 fd3)(M4:Mth K C "need_holding" "House.need_holding" Ij ["self","a","b"] f4 fd4) :
 EX1 P w K mg base 4 f fd ["self","a","b"] (Ju C NHd NNr MI):=by
 have G4:EX1 P w K mg base 3 f4 fd4 ["self","a","b"] (Lv C NHd NNr MI):=On M4.fn T M1 M2 M3
 refine ok1 F scD (fun vs H Q E h=>?_) (fun cdv A outer s H vs Q E hr h=>?_)
 ·obtain⟨p,a,b,G,ta,tb,rfl,_⟩:=h
  rfl
 ·obtain⟨p,a,b,G,ta,tb,rfl,S,ha,hb,k⟩:=h
  have hu:=Cm hr
  obtain⟨dx,hp⟩:=S.ob
  refine⟨_,Ac (A7 (Ap (pl:=_) (pv 0) T.cl M4.mt G4 hr M4.bd .nil Bb (Aa (pv 1) (Aa (pv 2) Ae))))
   (Ac (A7 (Fz hu (Be hu (Aw (pv 0) rfl) (pv 1)) (pv 2) ⟨rfl,rfl,rfl,rfl⟩)) (Af (Ca (pv 0) Ag C9))),?_⟩
  refine⟨_,rfl,p,dx,_,rfl,hp,Bk G (by decide +kernel),_,rfl,_,rfl,p,a,b,G,ta,tb,rfl,S,ha,hb,?_⟩
  rcases k with k|k|⟨h1,h2,ad,hl,fnd,k⟩
  ·exact .inl k
  ·exact .inr (.inl k)
  ·refine .inr (.inr ⟨h1,h2,ad,hl,fnd,?_⟩)
   rcases k with k|⟨h3,k⟩
   ·exact .inl k
   ·obtain⟨g1,g2,g3⟩:=Ka S ha fnd
    refine .inr ⟨h3,_,rfl,p,C,dx,_,_,rfl,hp,T.cl,T.nL,Dv G,_,rfl,G.l,_,rfl,g1,ad,rfl,.inr ⟨_,.inl g2⟩,_,rfl,_,tk tb,_,b,g2,rfl,hb,(by rw[Gc,if_pos h3]),?_⟩
    rw[Ga (k:=fun q:T2=>q) (f:=fun _=>V.bl true)]
    have S1:HouseAt C (upd H ad (Bh (El hl tb))) p { G with holds:=Fx G.holds ad (El hl tb) }:=S.setHold g3 (El hl tb)
    obtain⟨dx1,hp1⟩:=S1.ob
    refine⟨_,rfl,p,C,dx1,_,_,rfl,hp1,T.cl,T.nT,B7 _,_,_,rfl,rfl,dx1,_,hp1,Da _,?_⟩
    rw[Bg]
    exact Dy (G1:={ G with holds:=Fx G.holds ad (El hl tb) }) (O1 g3) (by unfold foot;rw[Lz]) rfl S1 k
theorem Jhp:Ao ["self","a","b"] ["self","a","b"] (Aj Sn):={}
theorem Jc8{f f1 f2 f3 f4:Addr}{fd fd1 fd2 fd3 fd4:FuncData}(F:Fun K "take" "House.take" Sn f fd)(T:Txt K mg C NHd NNr MI NW)(M1:Mth K C "is_near" "House.is_near" G0 ["self","thing"] f1 fd1)(M2:Mth K C "need_in_hand" "House.need_in_hand" Fe ["self","thing"] f2 fd2)(M3:Mth K C "need_near" "House.need_near" Hn ["self","thing"] f3 fd3)(M4:Mth K C "need_holding" "House.need_holding" Ij ["self","a","b"] f4 fd4) :
 EX1 P w K mg base 4 f fd ["self","a","b"] (Jq C NHd NNr MI):=by
 have G4:EX1 P w K mg base 3 f4 fd4 ["self","a","b"] (Lv C NHd NNr MI):=On M4.fn T M1 M2 M3
 refine ok1 F Jhp (fun vs H Q E h=>?_) (fun cdv A outer s H vs Q E hr h=>?_)
 ·obtain⟨p,a,b,G,ta,tb,rfl,_⟩:=h
  rfl
 ·obtain⟨p,a,b,G,ta,tb,rfl,S,ha,hb,z,k⟩:=h
  have hu:=Cm hr
  obtain⟨dx,hp⟩:=S.ob
  refine⟨_,Ac (A7 (Ap (pl:=_) (pv 0) T.cl M4.mt G4 hr M4.bd .nil Bb (Aa (pv 1) (Aa (pv 2) Ae))))
   (Ac (C5 hu (Aw (pv 0) rfl) (pv 2) Fp rfl) (Af (Ca (pv 0) Ag C9))),?_⟩
  refine⟨_,rfl,p,dx,_,rfl,hp,Bk G (by decide +kernel),_,rfl,_,rfl,p,a,b,G,ta,tb,rfl,S,ha,hb,?_⟩
  rcases k with k|k|⟨h1,h2,ad,hl,fnd,k⟩
  ·exact .inl k
  ·exact .inr (.inl k)
  ·refine .inr (.inr ⟨h1,h2,ad,hl,fnd,?_⟩)
   rcases k with k|⟨h3,k⟩
   ·exact .inl k
   ·refine .inr ⟨h3,_,rfl,p,C,dx,_,_,rfl,hp,T.cl,T.nH,D9 G,_,rfl,G.h,_,rfl,DPut.t (k:=tk tb) S.dh hb (by rw[ZA];exact A3 (by omega)),?_⟩
    rw[Eb]
    have S1:HouseAt C (upd H G.h (Bh (Bo G.hand tb))) p { G with hand:=Bo G.hand tb }:=S.setHand (Bo G.hand tb)
    obtain⟨dx1,hp1⟩:=S1.ob
    refine⟨_,rfl,p,C,dx1,_,_,rfl,hp1,T.cl,T.nT,B7 _,_,_,rfl,rfl,dx1,_,hp1,Da _,?_⟩
    rw[Bg]
    exact Dy (G1:={ G with hand:=Bo G.hand tb }) (by simp[foot]) rfl rfl S1 k
theorem scF:Ao ["self","b"] ["self","b"] (Aj Su):={}
theorem Jdh{f f2:Addr}{fd fd2:FuncData}(F:Fun K "free" "House.free" Su f fd)(T:Txt K mg C NHd NNr MI NW)(M2:Mth K C "need_in_hand" "House.need_in_hand" Fe ["self","thing"] f2 fd2) :
 EX1 P w K mg base 2 f fd ["self","b"] (Jt C NHd):=by
 have G2:EX1 P w K mg base 1 f2 fd2 ["self","thing"] (Hz C NHd):=Iy M2.fn T
 refine ok1 F scF (fun vs H Q E h=>?_) (fun cdv A outer s H vs Q E hr h=>?_)
 ·obtain⟨p,b,G,tb,rfl,_⟩:=h
  rfl
 ·obtain⟨p,b,G,tb,rfl,S,hb,k⟩:=h
  have hu:=Cm hr
  obtain⟨dx,hp⟩:=S.ob
  refine⟨_,Ac (A7 (Ap (pl:=_) (pv 0) T.cl M2.mt G2 hr M2.bd .nil Bb (Aa (pv 1) Ae)))
   (Ac (A7 (Fz hu (Aw (pv 0) rfl) (pv 1) ⟨rfl,rfl,rfl,rfl⟩)) (Af (Ca (pv 0) Ag C9))),?_⟩
  refine⟨_,rfl,p,dx,_,rfl,hp,Bk G (by decide +kernel),_,rfl,p,b,G,tb,rfl,S,hb,?_⟩
  rcases k with k|⟨h,k⟩
  ·exact .inr k
  ·refine .inl ⟨h,_,rfl,p,C,dx,_,_,rfl,hp,T.cl,T.nH,D9 G,G.h,rfl,.inr ⟨_,.inl S.dh⟩,_,rfl,_,tk tb,_,b,S.dh,rfl,hb,(by rw[Gc,if_pos h]),?_⟩
   rw[Ga (k:=fun q:T2=>q) (f:=fun _=>V.bl true)]
   have S1:HouseAt C (upd H G.h (Bh (El G.hand tb))) p { G with hand:=El G.hand tb }:=S.setHand (El G.hand tb)
   obtain⟨dx1,hp1⟩:=S1.ob
   refine⟨_,rfl,p,C,dx1,_,_,rfl,hp1,T.cl,T.nT,B7 _,_,_,rfl,rfl,dx1,_,hp1,Da _,?_⟩
   rw[Bg]
   exact Dy (G1:={ G with hand:=El G.hand tb }) (by simp[foot]) rfl rfl S1 k
def Ek(n:Int):Int:=if n=1 then 1 else n / 2
def Sg:Sp:=fun vs H Q _=>∃n:Int,vs=[.int n]∧∀p,H p=none→Q (.ref p) (upd H p (.tup [.int (n-Ek n),.int (Ek n)]))
theorem scP:Ao ["weight","goes"] ["weight"] (Aj Ii):={}
theorem Ys{f:Addr}{fd:FuncData}(F:Fun K "parted" "parted" Ii f fd):EX0 P w K mg base 1 f fd ["weight"] Sg:=by
 refine F.ok scP (fun vs H Q E h=>?_) (fun cdv A outer s H vs Q E hr h=>?_)
 ·obtain⟨n,rfl,_⟩:=h
  rfl
 ·obtain⟨n,rfl,k⟩:=h
  refine⟨_,Ac (A9 (Au Bx (pv 0) Ag (A0 _)) (Af (Ar (Bn (Aa Ag (Aa Ag Ae))))) Ax)
   (Ac (Az (i:=1) scP.nd rfl (Or.inl rfl) (Bc D8 (pv 0) Ag))
   (Af (Ar (Bn (Aa (Bc Qu (pv 0) (pv 1)) (Aa (pv 1) Ae)))))),?_⟩
  refine⟨_,rfl,rfl,_,rfl,?_⟩
  refine Ue (fun c1=>?_) (fun c1=>?_)
  ·have c1:n=1:=V.int.inj (of_decide_eq_true c1)
   subst c1
   exact⟨show 2≤sizeLine by decide,fun p hp=>k p hp⟩
  ·have c1:¬n=1:=fun z=>by rw[z] at c1;simp at c1
   refine⟨_,rfl,_,_,rfl,rfl,⟨by decide,by decide⟩,?_⟩
   refine⟨_,rfl,_,rfl,_,_,rfl,rfl,_,rfl,(show 2≤sizeLine by decide),fun p hp=>?_⟩
   have:=k p hp
   unfold Ek at this
   rw[if_neg c1] at this
   exact this
structure Gdf(K:W.Frag)(mg:Str→Option Value)(x:Str)(st:Stmt)(ps:List Str)(f:Addr)(fd:FuncData):Prop where
 fn:Fun K x x st f fd
 bd:Binds K fd ps []
 mg:mg x=some (.ref f)
def V5(l:List (T2×Int))(t:T2):Int:=((l.find? fun q=>decide (q.1=t)).map (·.2)).getD 0
def Wv(C NW:Addr):Sp:=fun vs H Q E=>∃(p b:Addr)(G:HGh)(tb:T2)(wt:Int),vs=[.ref p,.ref b]∧HouseAt C H p G∧H b=some (.tup (tv tb))∧G.recs.find? (fun q=>decide (q.1=tb))=some (tb,wt)∧G.recs.length≤500 ∧
 ((wt=0∧E (.ref NW) none H)∨(wt≠0∧Done C p G H { G with recs:=Ba G.recs tb (wt-Ek wt) } (Q (.int (Ek wt)))))
theorem Et{H:Hp}{d t:Addr}{l:List (T2×Int)}{th:T2}(hd:H d=some (Ct l))(ht:H t=some (.tup (tv th))):DGet H d (.ref t) ((l.find? fun q=>decide (q.1=th)).map fun q=>V.int q.2):=by
 have:=DGet.t (k:=tk th) hd ht
 rw[Dp (k:=fun q:T2×Int=>q.1) (f:=fun q=>V.int q.2)] at this
 exact this
theorem scPR:Ao ["self","b","weight","halves"] ["self","b"] (Aj Qk):={}
theorem Ja9{f fP:Addr}{fd fdP:FuncData}(F:Fun K "part_record" "House.part_record" Qk f fd)(T:Txt K mg C NHd NNr MI NW)(MP:Gdf K mg "parted" Ii ["weight"] fP fdP):EX1 P w K mg base 2 f fd ["self","b"] (Wv C NW):=by
 have GP:EX1 P w K mg base 1 fP fdP ["weight"] Sg:=FX.FnOk.to1 (Ys MP.fn)
 refine ok1 F scPR (fun vs H Q E h=>?_) (fun cdv A outer s H vs Q E hr h=>?_)
 ·obtain⟨p,b,G,tb,wt,rfl,_⟩:=h
  rfl
 ·obtain⟨p,b,G,tb,wt,rfl,S,hb,fnd,z,k⟩:=h
  have hu:=Cm hr
  obtain⟨dx,hp⟩:=S.ob
  have g1:DGet H G.r (.ref b) (some (V.int wt)):=by
   have:=Et S.dr hb
   rw[fnd] at this;exact this
  refine⟨_,Ac (Az (i:=2) scPR.nd rfl (Or.inl rfl) (Be hu (Aw (pv 0) rfl) (pv 1)))
   (Ac (A9 (Au Bx (pv 2) Ag (A0 _)) (Af (E6 rfl rfl T.cNW Ff)) Ax)
   (Ac (Az (i:=3) scPR.nd rfl (Or.inl rfl) (Bw GP hr (by rfl) MP.mg MP.fn.kp MP.bd .nil Bb (Aa (pv 2) Ae)))
   (Ac (C5 hu (Aw (pv 0) rfl) (pv 1) (Av Aq (pv 3) Ag) rfl)
   (Af (Ar (Av Aq (pv 3) Ag)))))),?_⟩
  refine⟨_,rfl,p,C,dx,_,_,rfl,hp,T.cl,T.nR,Cj G,_,rfl,G.r,_,rfl,g1,?_⟩
  refine⟨_,rfl,rfl,_,rfl,?_⟩
  rcases k with⟨h,k⟩|⟨h,k⟩
  ·rw[show decide (V.int wt=V.int 0)=true from decide_eq_true (by rw[h])]
   exact Cd k
  ·rw[show decide (V.int wt=V.int 0)=false from decide_eq_false fun e=>h (V.int.inj e)]
   refine B0 ?_
   refine⟨_,rfl,wt,rfl,fun t ht=>?_⟩
   have s1:=Ah (o:=.tup [V.int (wt-Ek wt),V.int (Ek wt)]) ht
   have S1:=S.same s1
   have t1:(upd H t (.tup [V.int (wt-Ek wt),V.int (Ek wt)])) t=some (.tup [V.int (wt-Ek wt),V.int (Ek wt)]):=Ab
   have b1:=s1 _ _ hb
   generalize upd H t (.tup [V.int (wt-Ek wt),V.int (Ek wt)])=H1 at s1 S1 t1 b1
   obtain⟨dx1,hp1⟩:=S1.ob
   refine⟨_,rfl,t,_,0,_,rfl,rfl,SqT.of t1,rfl,_,rfl,p,C,dx1,_,_,rfl,hp1,T.cl,T.nR,Cj G,_,rfl,G.r,_,rfl,DPut.t (k:=tk tb) S1.dr b1 (by rw[ZA];exact A3 (by omega)),?_⟩
   rw[Eg]
   have S2:HouseAt C (upd H1 G.r (Ct (Ba G.recs tb (wt-Ek wt)))) p { G with recs:=Ba G.recs tb (wt-Ek wt) }:=S1.setRecs _
   have tr:t≠G.r:=fun e=>(S1.tup_ne t1).2 (by rw[e];simp[foot])
   refine⟨_,rfl,t,_,1,_,rfl,rfl,SqT.of (by rw[Ad tr];exact t1),rfl,?_⟩
   refine k _ S2 fun b' o e h1 h2=>?_
   rw[Ad fun e'=>h2 (by rw[e'];simp[foot])]
   exact s1 _ _ e
def Vk(C:Addr):Sp:=fun vs H Q _=>∃(p b:Addr)(G:HGh)(tb:T2)(wt:Int),vs=[.ref p,.ref b,.int wt]∧HouseAt C H p G∧H b=some (.tup (tv tb))∧G.recs.length≤500 ∧
 Done C p G H { G with recs:=Ba G.recs tb (V5 G.recs tb+wt) } (Q .non)
theorem Jh3:Ao ["self","b","weight"] ["self","b","weight"] (Aj Ta):={}
theorem Xm{f:Addr}{fd:FuncData}(F:Fun K "add_to_record" "House.add_to_record" Ta f fd)(T:Txt K mg C NHd NNr MI NW):EX0 P w K mg base 1 f fd ["self","b","weight"] (Vk C):=by
 refine F.ok Jh3 (fun vs H Q E h=>?_) (fun cdv A outer s H vs Q E hr h=>?_)
 ·obtain⟨p,b,G,tb,wt,rfl,_⟩:=h
  rfl
 ·obtain⟨p,b,G,tb,wt,rfl,S,hb,z,k⟩:=h
  have hu:=Cm hr
  obtain⟨dx,hp⟩:=S.ob
  refine⟨_,Af (C5 hu (Aw (pv 0) rfl) (pv 1) (Bc F2 (Tl hu (Aw (pv 0) rfl) (pv 1) Ag ⟨rfl,rfl,rfl,rfl⟩) (pv 2)) rfl),?_⟩
  have ei:((G.recs.find? fun q=>decide (q.1=tb)).map fun q=>V.int q.2).getD (V.int 0)=V.int (V5 G.recs tb):=by
   unfold V5
   cases G.recs.find? fun q=>decide (q.1=tb)<;>rfl
  refine⟨_,rfl,p,C,dx,_,_,rfl,hp,T.cl,T.nR,Cj G,G.r,rfl,.inr ⟨_,.inl S.dr⟩,_,rfl,_,Et S.dr hb,?_⟩
  rw[ei]
  refine⟨_,rfl,_,_,rfl,rfl,_,rfl,p,C,dx,_,_,rfl,hp,T.cl,T.nR,Cj G,_,rfl,G.r,_,rfl,DPut.t (k:=tk tb) S.dr hb (by rw[ZA];exact A3 (by omega)),?_⟩
  rw[Eg]
  refine k _ (S.setRecs _) fun b' o e h1 h2=>?_
  rw[Ad fun e'=>h2 (by rw[e'];simp[foot])]
  exact e
def La(C:Addr):Sp:=fun vs H Q _=>∃(p b:Addr)(G:HGh)(tb:T2)(wt:Int),vs=[.ref p,.ref b,.int wt]∧HouseAt C H p G∧H b=some (.tup (tv tb))∧G.recs.length≤500 ∧
 Done C p G H { G with ticks:=G.ticks+1,recs:=Ba G.recs tb (V5 G.recs tb+wt) } (Q .non)
theorem Jh2:Ao ["self","b","weight"] ["self","b","weight"] (Aj L3):={}
theorem Jbf{f f5:Addr}{fd fd5:FuncData}(F:Fun K "added" "House.added" L3 f fd)(T:Txt K mg C NHd NNr MI NW)(M5:Mth K C "add_to_record" "House.add_to_record" Ta ["self","b","weight"] f5 fd5):EX0 P w K mg base 2 f fd ["self","b","weight"] (La C):=by
 have G5:EX0 P w K mg base 1 f5 fd5 ["self","b","weight"] (Vk C):=Xm M5.fn T
 refine F.ok Jh2 (fun vs H Q E h=>?_) (fun cdv A outer s H vs Q E hr h=>?_)
 ·obtain⟨p,b,G,tb,wt,rfl,_⟩:=h
  rfl
 ·obtain⟨p,b,G,tb,wt,rfl,S,hb,z,k⟩:=h
  obtain⟨dx,hp⟩:=S.ob
  refine⟨_,Ac (A7 (Ap (pl:=_) (pv 0) T.cl M5.mt G5 hr M5.bd .nil Bj (Aa (pv 1) (Aa (pv 2) Ae)))) (Af (Ca (pv 0) Ag C9)),?_⟩
  refine⟨_,rfl,p,dx,_,rfl,hp,Bk G (by decide +kernel),_,rfl,_,rfl,p,b,G,tb,wt,rfl,S,hb,z,fun H1 S1 fr1=>?_⟩
  obtain⟨dx1,hp1⟩:=S1.ob
  refine⟨_,rfl,p,C,dx1,_,_,rfl,hp1,T.cl,T.nT,B7 _,_,_,rfl,rfl,dx1,_,hp1,Da _,?_⟩
  rw[Bg]
  exact k _ (S1.fld dx1 G.made (G.ticks+1)) fun b' o e h1 h2=>by rw[Ad h1];exact fr1 _ _ e h1 h2
def P7(C:Addr):Sp:=fun vs H Q _=>∃(p b:Addr)(G:HGh)(tb:T2)(wt:Int),vs=[.ref p,.ref b,.int wt]∧HouseAt C H p G∧H b=some (.tup (tv tb))∧G.hand.length≤500∧G.outs.length≤500∧G.recs.length≤500 ∧
 ((tb.1=G.num∧∃o,G.outs.find? (fun q=>decide (q.1=tb))=some (tb,o)∧Done C p G H { G with ticks:=G.ticks+1,hand:=Bo G.hand tb,outs:=Ba G.outs tb (o-wt) } (Q .non)) ∨
  (tb.1≠G.num∧Done C p G H { G with ticks:=G.ticks+1,hand:=Bo G.hand tb,recs:=Ba G.recs tb (V5 G.recs tb+wt) } (Q .non)))
theorem scC:Ao ["self","b","weight"] ["self","b","weight"] (Aj Sy):={}
theorem Jdl{f f1 f5:Addr}{fd fd1 fd5:FuncData}(F:Fun K "came" "House.came" Sy f fd)(T:Txt K mg C NHd NNr MI NW)(M1:Mth K C "is_near" "House.is_near" G0 ["self","thing"] f1 fd1)(M5:Mth K C "add_to_record" "House.add_to_record" Ta ["self","b","weight"] f5 fd5) :
 EX0 P w K mg base 2 f fd ["self","b","weight"] (P7 C):=by
 have G1:EX0 P w K mg base 1 f1 fd1 ["self","thing"] (P3 C):=Qy M1.fn T
 have G5:EX0 P w K mg base 1 f5 fd5 ["self","b","weight"] (Vk C):=Xm M5.fn T
 refine F.ok scC (fun vs H Q E h=>?_) (fun cdv A outer s H vs Q E hr h=>?_)
 ·obtain⟨p,b,G,tb,wt,rfl,_⟩:=h
  rfl
 ·obtain⟨p,b,G,tb,wt,rfl,S,hb,z1,z2,z3,k⟩:=h
  have hu:=Cm hr
  obtain⟨dx,hp⟩:=S.ob
  refine⟨_,Ac (C5 hu (Aw (pv 0) rfl) (pv 1) Fp rfl)
   (Ac (A9 (Fh (Ap (pl:=_) (pv 0) T.cl M1.mt G1 hr M1.bd .nil Bj (Aa (pv 1) Ae))) (Af (Iq hu (Aw (pv 0) rfl) (pv 1) (pv 2) Jbr (fun _ _ _=>rfl)))
    (Af (A7 (Ap (pl:=_) (pv 0) T.cl M5.mt G5 hr M5.bd .nil Bj (Aa (pv 1) (Aa (pv 2) Ae))))))
   (Af (Ca (pv 0) Ag C9))),?_⟩
  refine⟨_,rfl,p,C,dx,_,_,rfl,hp,T.cl,T.nH,D9 G,_,rfl,G.h,_,rfl,DPut.t (k:=tk tb) S.dh hb (by rw[ZA];exact A3 (by omega)),?_⟩
  rw[Eb]
  have S1:HouseAt C (upd H G.h (Bh (Bo G.hand tb))) p { G with hand:=Bo G.hand tb }:=S.setHand (Bo G.hand tb)
  have fr1:HFr p G H (upd H G.h (Bh (Bo G.hand tb))):=fun b' o e h1 h2=>by rw[Ad fun e'=>h2 (by rw[e'];simp[foot])];exact e
  have b1:=fr1 _ _ hb (S.tup_ne hb).1 (S.tup_ne hb).2
  rw[show(HO.dT ((Bo G.hand tb).map fun q=>(tk q,V.bl true)))=Bh (Bo G.hand tb) from rfl]
  generalize (upd H G.h (Bh (Bo G.hand tb)))=H1 at S1 fr1 b1
  obtain⟨dx1,hp1⟩:=S1.ob
  refine⟨_,rfl,p,dx1,_,rfl,hp1,Bk _ (by decide +kernel),_,rfl,p,b,_,tb,rfl,S1,b1,_,rfl,?_⟩
  rcases k with⟨h,o,fnd,k⟩|⟨h,k⟩
  ·rw[show decide (tb.1=({ G with hand:=Bo G.hand tb }:HGh).num)=true from decide_eq_true h]
   refine Cd ?_
   have g1:DGet H1 G.o (.ref b) (some (V.int o)):=by
    have:=Et S1.dO b1
    rw[show({ G with hand:=Bo G.hand tb }:HGh).outs=G.outs from rfl,fnd] at this
    exact this
   refine⟨_,rfl,p,C,dx1,_,_,rfl,hp1,T.cl,T.nO,C0 _,_,rfl,G.o,_,rfl,g1,_,rfl,_,_,rfl,rfl,_,DPut.t (k:=tk tb) S1.dO b1 (by rw[ZA];exact A3 (by show G.outs.length≤1000;omega)),?_⟩
   rw[Eg]
   have S2:=S1.setOuts (Ba G.outs tb (o-wt))
   have fr2:HFr p G H (upd H1 G.o (Ct (Ba G.outs tb (o-wt)))):=fun b' o' e h1 h2=>by rw[Ad fun e'=>h2 (by rw[e'];simp[foot])];exact fr1 _ _ e h1 h2
   obtain⟨dx2,hp2⟩:=S2.ob
   refine⟨_,rfl,p,C,dx2,_,_,rfl,hp2,T.cl,T.nT,B7 _,_,_,rfl,rfl,dx2,_,hp2,Da _,?_⟩
   rw[Bg]
   exact k _ (S2.fld dx2 G.made (G.ticks+1)) fun b' o e h1 h2=>by rw[Ad h1];exact fr2 _ _ e h1 h2
  ·rw[show decide (tb.1=({ G with hand:=Bo G.hand tb }:HGh).num)=false from decide_eq_false h]
   refine B0 ?_
   refine⟨_,rfl,p,dx1,_,rfl,hp1,Bk _ (by decide +kernel),_,rfl,_,rfl,p,b,_,tb,wt,rfl,S1,b1,z3,fun H2 S2 fr2=>?_⟩
   obtain⟨dx2,hp2⟩:=S2.ob
   refine⟨_,rfl,p,C,dx2,_,_,rfl,hp2,T.cl,T.nT,B7 _,_,_,rfl,rfl,dx2,_,hp2,Da _,?_⟩
   rw[Bg]
   exact k _ (S2.fld dx2 G.made (G.ticks+1)) fun b' o e h1 h2=>by rw[Ad h1];exact fr2 _ _ (fr1 _ _ e h1 h2) h1 h2
def P1(C NHd NW:Addr):Sp:=fun vs H Q E=>∃(p b:Addr)(G:HGh)(tb:T2)(sh:Int),vs=[.ref p,.ref b,.int sh]∧HouseAt C H p G∧H b=some (.tup (tv tb))∧G.outs.length≤500∧G.recs.length≤500 ∧
 ((tb∉G.hand∧E (.ref NHd) none H) ∨
  (tb∈G.hand∧tb.1=G.num∧∃o,G.outs.find? (fun q=>decide (q.1=tb))=some (tb,o)∧Done C p G H { G with ticks:=G.ticks+1,outs:=Ba G.outs tb (o+sh) } (Q (.int sh))) ∨
  (tb∈G.hand∧tb.1≠G.num∧∃wt,G.recs.find? (fun q=>decide (q.1=tb))=some (tb,wt)∧((wt=0∧E (.ref NW) none H)∨(wt≠0∧Done C p G H { G with ticks:=G.ticks+1,recs:=Ba G.recs tb (wt-Ek wt) } (Q (.int (Ek wt)))))))
theorem scPa:Ao ["self","b","share","goes"] ["self","b","share"] (Aj So):={}
theorem Jdc{f f1 f2 f6 fP:Addr}{fd fd1 fd2 fd6 fdP:FuncData}(F:Fun K "part" "House.part" So f fd)(T:Txt K mg C NHd NNr MI NW)(M1:Mth K C "is_near" "House.is_near" G0 ["self","thing"] f1 fd1)(M2:Mth K C "need_in_hand" "House.need_in_hand" Fe ["self","thing"] f2 fd2)(M6:Mth K C "part_record" "House.part_record" Qk ["self","b"] f6 fd6)(MP:Gdf K mg "parted" Ii ["weight"] fP fdP) :
 EX1 P w K mg base 3 f fd ["self","b","share"] (P1 C NHd NW):=by
 have G1:EX1 P w K mg base 1 f1 fd1 ["self","thing"] (P3 C):=FX.FnOk.to1 (Qy M1.fn T)
 have G2:EX1 P w K mg base 1 f2 fd2 ["self","thing"] (Hz C NHd):=Iy M2.fn T
 have G6:EX1 P w K mg base 2 f6 fd6 ["self","b"] (Wv C NW):=Ja9 M6.fn T MP
 refine ok1 F scPa (fun vs H Q E h=>?_) (fun cdv A outer s H vs Q E hr h=>?_)
 ·obtain⟨p,b,G,tb,sh,rfl,_⟩:=h
  rfl
 ·obtain⟨p,b,G,tb,sh,rfl,S,hb,z1,z2,k⟩:=h
  have hu:=Cm hr
  have hr1:Room 1 _:=hr.mono (by decide)
  obtain⟨dx,hp⟩:=S.ob
  refine⟨_,Ac (A7 (Ap (pl:=_) (pv 0) T.cl M2.mt G2 hr1 M2.bd .nil Bb (Aa (pv 1) Ae)))
   (Ac (A9 (Fh (Ap (pl:=_) (pv 0) T.cl M1.mt G1 hr1 M1.bd .nil Bb (Aa (pv 1) Ae)))
    (Ac (Iq hu (Aw (pv 0) rfl) (pv 1) (pv 2) C9 (fun _ _ _=>rfl)) (Af (Az (i:=3) scPa.nd rfl (Or.inl rfl) (pv 2))))
    (Af (Az (i:=3) scPa.nd rfl (Or.inl rfl) (Ap (pl:=_) (pv 0) T.cl M6.mt G6 hr M6.bd .nil Bb (Aa (pv 1) Ae)))))
   (Ac (Ca (pv 0) Ag C9) (Af (Ar (pv 3))))),?_⟩
  refine⟨_,rfl,p,dx,_,rfl,hp,Bk G (by decide +kernel),_,rfl,p,b,G,tb,rfl,S,hb,?_⟩
  rcases k with k|⟨h1,h2,o,fnd,k⟩|⟨h1,h2,wt,fnd,k⟩
  ·exact .inr k
  ·refine .inl ⟨h1,_,rfl,p,dx,_,rfl,hp,Bk G (by decide +kernel),_,rfl,p,b,G,tb,rfl,S,hb,_,rfl,?_⟩
   rw[decide_eq_true h2]
   refine Cd ?_
   have g1:DGet H G.o (.ref b) (some (V.int o)):=by
    have:=Et S.dO hb
    rw[fnd] at this;exact this
   refine⟨_,rfl,p,C,dx,_,_,rfl,hp,T.cl,T.nO,C0 _,_,rfl,G.o,_,rfl,g1,_,rfl,_,_,rfl,rfl,_,DPut.t (k:=tk tb) S.dO hb (by rw[ZA];exact A3 (by omega)),?_⟩
   rw[Eg]
   have S1:HouseAt C (upd H G.o (Ct (Ba G.outs tb (o+sh)))) p { G with outs:=Ba G.outs tb (o+sh) }:=S.setOuts _
   obtain⟨dx1,hp1⟩:=S1.ob
   refine⟨_,rfl,_,rfl,p,C,dx1,_,_,rfl,hp1,T.cl,T.nT,B7 _,_,_,rfl,rfl,dx1,_,hp1,Da _,?_⟩
   rw[Bg]
   refine⟨_,rfl,?_⟩
   exact Dy (G1:={ G with outs:=Ba G.outs tb (o+sh) }) (by simp[foot]) rfl rfl S1 k
  ·refine .inl ⟨h1,_,rfl,p,dx,_,rfl,hp,Bk G (by decide +kernel),_,rfl,p,b,G,tb,rfl,S,hb,_,rfl,?_⟩
   rw[decide_eq_false h2]
   refine B0 ?_
   refine⟨_,rfl,p,dx,_,rfl,hp,Bk G (by decide +kernel),_,rfl,p,b,G,tb,wt,rfl,S,hb,fnd,z2,?_⟩
   rcases k with k|⟨h3,k⟩
   ·exact .inl k
   ·refine .inr ⟨h3,fun H1 S1 fr1=>?_⟩
    obtain⟨dx1,hp1⟩:=S1.ob
    refine⟨_,rfl,p,C,dx1,_,_,rfl,hp1,T.cl,T.nT,B7 _,_,_,rfl,rfl,dx1,_,hp1,Da _,?_⟩
    rw[Bg]
    exact⟨_,rfl,k _ (S1.fld dx1 G.made (G.ticks+1)) fun b' o e h1 h2=>by rw[Ad h1];exact fr1 _ _ e h1 h2⟩
end
def Hj(C:Addr):Sp:=fun vs H Q _=>∃(p dx:Addr)(n:Int),vs=[.ref p,.int n]∧H p=some (.ins C dx []) ∧
 ∀(h o l r:Addr)(H':Hp),H h=none→H o=none→H l=none→H r=none→HouseAt C H' p ⟨n,0,0,h,o,l,r,[],[],[],[]⟩→(∀b u,H b=some u→b≠p→H' b=some u)→Q .non H'
def Jr(C:Addr):Sp:=fun vs H Q _=>∃(p:Addr)(G:HGh),vs=[.ref p]∧HouseAt C H p G∧G.hand.length≤500∧G.outs.length≤500∧G.holds.length≤500 ∧
 (∀t∈G.hand,t≠(G.num,G.made))∧(∀q∈G.outs,q.1≠(G.num,G.made))∧(∀q∈G.holds,q.1≠(G.num,G.made)) ∧
 ∀(t a:Addr)(H':Hp),H t=none→H a=none→H' t=some (.tup (tv (G.num,G.made))) →
  HouseAt C H' p { G with made:=G.made+1,ticks:=G.ticks+1,hand:=G.hand++[(G.num,G.made)],outs:=G.outs++[((G.num,G.made),0)],holds:=G.holds++[((G.num,G.made),a,[])] }→HFr p G H H'→Q (.ref t) H'
def Lp(C:Addr):Sp:=fun vs H Q _=>∃(p:Addr)(G:HGh),vs=[.ref p]∧HouseAt C H p G∧Q (.int G.ticks) H
def RowV(H:Hp)(v:V)(r:T2×Int×List T2):Prop:=∃(a t hd:Addr)(cs:List Addr),v=.ref a∧H a=some (.tup [.ref t,.int r.2.1,.ref hd])∧H t=some (.tup (tv r.1))∧H hd=some (.tup (cs.map V.ref))∧ThsAt H cs r.2.2
theorem RowV.keep{H H':Hp}{v:V}{r:T2×Int×List T2}(x:RowV H v r)(k:KeepT H H'):RowV H' v r:=by
 obtain⟨a,t,hd,cs,e,e1,e2,e3,e4⟩:=x
 exact⟨a,t,hd,cs,e,k.tup _ _ e1,k.tup _ _ e2,k.tup _ _ e3,ThsAt.keep k e4⟩
theorem RowV.rep{K:W.Frag}{H:Hp}{v:V}{r:T2×Int×List T2}(x:RowV H v r):RepT K H v (Yk r):=by
 obtain⟨a,t,hd,cs,rfl,e1,e2,e3,e4⟩:=x
 exact .tupP (SqT.of e1) (.cons (Fv e2) (.cons (.int _) (.cons (.tupP (SqT.of e3) (Hx e4)) .nil)))
def StAt(H:Hp)(x:Addr)(hs:List T2)(os:List (T2×Int×List T2))(rs:List (T2×Int)):Prop:=∃(y1 y2 y3:Addr)(as:List Addr)(bs:List V)(ds:List Addr),H x=some (.tup [.ref y1,.ref y2,.ref y3])∧H y1=some (.tup (as.map V.ref))∧ThsAt H as hs∧H y2=some (.tup bs)∧Paired (RowV H) bs os∧(∃ob,H y3=some (.frz ob (.tup (ds.map V.ref)))∧Rz ob)∧Paired (RecAt H) ds rs
theorem Td{K:W.Frag}{H:Hp}:∀{as:List Addr} {rs:List (T2×Int)},Paired (RecAt H) as rs→Paired (RepT K H) (as.map V.ref) (rs.map Jac)
 | _,_,.nil=>.nil
 | _,_,.cons ⟨ka,e1,e2⟩ t=>.cons (.tupP (SqT.of e1) (.cons (Fv e2) (.cons (.int _) .nil))) (Td t)
theorem Tc{K:W.Frag}{H:Hp}:∀{bs:List V} {os:List (T2×Int×List T2)},Paired (RowV H) bs os→Paired (RepT K H) bs (os.map Yk)
 | _,_,.nil=>.nil
 | _,_,.cons r t=>.cons r.rep (Tc t)
theorem StAt.rep{K:W.Frag}{H:Hp}{x:Addr}{hs:List T2}{os:List (T2×Int×List T2)}{rs:List (T2×Int)}(h:StAt H x hs os rs):RepT K H (.ref x) (stD hs os rs):=by
 obtain⟨y1,y2,y3,as,bs,ds,e,e1,t1,e2,r2,⟨ob,e3,_⟩,r3⟩:=h
 exact .tupP (SqT.of e) (.cons (.tupP (SqT.of e1) (Hx t1)) (.cons (.tupP (SqT.of e2) (Tc r2)) (.cons (.tupP (.inl (.inr ⟨_,e3⟩)) (Td r3)) .nil)))
def Vf(C:Addr)(K:W.Frag):Sp:=fun vs H Q _=>∃(p t:Addr)(G:HGh)(th:T2)(w:Int)(a:Addr)(hl hs:List T2),vs=[.ref p,.ref t]∧HouseAt C H p G∧H t=some (.tup (tv th)) ∧
 G.outs.find? (fun q=>decide (q.1=th))=some (th,w)∧G.holds.find? (fun q=>decide (q.1=th))=some (th,a,hl)∧hl.length<64∧hs.Perm hl∧hs.Pairwise lt2 ∧
 ∀(x:Addr)(H':Hp),Bp H H'→RowV H' (.ref x) (th,w,hs)→Q (.ref x) H'
structure Rows(G:HGh)(os:List (T2×Int×List T2)):Prop where
 pm:(os.map (·.1)).Perm (G.outs.map (·.1))
 pw:(os.map (·.1)).Pairwise lt2
 at_:∀q∈os,G.outs.find? (fun z=>decide (z.1=q.1))=some (q.1,q.2.1)∧∃a hl,G.holds.find? (fun z=>decide (z.1=q.1))=some (q.1,a,hl)∧hl.length<64∧q.2.2.Perm hl∧q.2.2.Pairwise lt2
def Fd(C:Addr)(K:W.Frag):Sp:=fun vs H Q _=>∃(p:Addr)(G:HGh)(hs:List T2)(os:List (T2×Int×List T2))(rs:List (T2×Int)),vs=[.ref p]∧HouseAt C H p G∧G.hand.length<64∧G.outs.length<64∧G.recs.length<64 ∧
 hs.Perm G.hand∧hs.Pairwise lt2∧Rows G os∧rs.Perm G.recs∧(rs.map (·.1)).Pairwise lt2∧∀(x:Addr)(H':Hp),Bp H H'→StAt H' x hs os rs→Q (.ref x) H'
section
variable {P:Program}{w:World}{K:W.Frag}{mg:Str→Option Value}{base:Heap}{C NHd NNr MI NW:Addr}
theorem scI:Ao ["self","number"] ["self","number"] (Aj Sr):={}
theorem Xk{f:Addr}{fd:FuncData}(F:Fun K "__init__" "House.__init__" Sr f fd)(T:Txt K mg C NHd NNr MI NW):EX0 P w K mg base 1 f fd ["self","number"] (Hj C):=by
 refine F.ok scI (fun vs H Q E h=>?_) (fun cdv A outer s H vs Q E hr h=>?_)
 ·obtain⟨p,dx,n,rfl,_⟩:=h
  rfl
 ·obtain⟨p,dx,n,rfl,hp,k⟩:=h
  refine⟨_,Ac (Dh (pv 0) (pv 1) rfl) (Ac (Dh (pv 0) Ag rfl) (Ac (Dh (pv 0) Ag rfl) (Ac (Dh (pv 0) E7 rfl) (Ac (Dh (pv 0) E7 rfl) (Ac (Dh (pv 0) E7 rfl) (Af (Dh (pv 0) E7 rfl))))))),?_⟩
  refine⟨_,rfl,_,rfl,p,C,dx,[],rfl,hp,T.cl,T.nN,(by show 0<1000;decide),?_⟩
  refine⟨_,rfl,p,C,dx,_,rfl,Ab,T.cl,T.nM,(by show 1<1000;decide),?_⟩
  rw[K4]
  refine⟨_,rfl,p,C,dx,_,rfl,Ab,T.cl,T.nT,(by rw[Di,Bu Ex,Di];show 2<1000;decide),?_⟩
  rw[K4]
  have step:∀{H1:Hp} {d:Addr} {fs:List (Str×V)} {o:HO},H1 p=some (.ins C dx fs)→(∀b u,H b=some u→b≠p→H1 b=some u)→H1 d=none→(upd H1 d o) p=some (.ins C dx fs)∧(∀b u,H b=some u→b≠p→(upd H1 d o) b=some u)∧d≠p∧H d=none:=fun{H1 d fs o} e1 e2 e3=>by
   have ndp:p≠d:=Am e1 e3
   refine⟨by rw[Ad ndp];exact e1,fun b u e hb=>by rw[Ad (Am (e2 b u e hb) e3)];exact e2 b u e hb,ndp.symm,?_⟩
   cases q:H d with
   | none=>rfl
   | some u=>rw[e2 d u q ndp.symm] at e3;cases e3
  have a0:∀b u,H b=some u→b≠p→(upd H p (.ins C dx (Al "ticks" (.int 0) (Al "made" (.int 0) (Al "number" (.int n) []))))) b=some u:=fun b u e hb=>by rw[Ad hb];exact e
  intro d1 h1
  obtain⟨b1,b2,b3,b4⟩:=step (o:=.dT []) Ab a0 h1
  refine⟨_,rfl,p,C,dx,_,rfl,b1,T.cl,T.nH,?_,?_⟩
  ·have:=A4 "ticks" (.int 0) (Al "made" (.int 0) (Al "number" (.int n) []))
   have:=A4 "made" (.int 0) (Al "number" (.int n) [])
   have:=A4 "number" (.int n) []
   simp only[List.length_nil] at *
   lia
  have c0:∀{H1:Hp} {fs:List (Str×V)},(∀b u,H b=some u→b≠p→H1 b=some u)→∀b u,H b=some u→b≠p→(upd H1 p (.ins C dx fs)) b=some u:=fun e b u e1 hb=>by rw[Ad hb];exact e b u e1 hb
  intro d2 h2
  obtain⟨b5,b6,b7,b8⟩:=step (o:=.dT []) Ab (c0 b2) h2
  refine⟨_,rfl,p,C,dx,_,rfl,b5,T.cl,T.nO,?_,?_⟩
  ·have:=A4 "hand" (.ref d1) (Al "ticks" (.int 0) (Al "made" (.int 0) (Al "number" (.int n) [])))
   have:=A4 "ticks" (.int 0) (Al "made" (.int 0) (Al "number" (.int n) []))
   have:=A4 "made" (.int 0) (Al "number" (.int n) [])
   have:=A4 "number" (.int n) []
   simp only[List.length_nil] at *
   lia
  intro d3 h3
  obtain⟨b9,b10,b11,b12⟩:=step (o:=.dT []) Ab (c0 b6) h3
  refine⟨_,rfl,p,C,dx,_,rfl,b9,T.cl,T.nL,?_,?_⟩
  ·have:=A4 "outs" (.ref d2) (Al "hand" (.ref d1) (Al "ticks" (.int 0) (Al "made" (.int 0) (Al "number" (.int n) []))))
   have:=A4 "hand" (.ref d1) (Al "ticks" (.int 0) (Al "made" (.int 0) (Al "number" (.int n) [])))
   have:=A4 "ticks" (.int 0) (Al "made" (.int 0) (Al "number" (.int n) []))
   have:=A4 "made" (.int 0) (Al "number" (.int n) [])
   have:=A4 "number" (.int n) []
   simp only[List.length_nil] at *
   lia
  intro d4 h4
  obtain⟨b13,b14,b15,b16⟩:=step (o:=.dT []) Ab (c0 b10) h4
  refine⟨_,rfl,p,C,dx,_,rfl,b13,T.cl,T.nR,?_,?_⟩
  ·have:=A4 "holds" (.ref d3) (Al "outs" (.ref d2) (Al "hand" (.ref d1) (Al "ticks" (.int 0) (Al "made" (.int 0) (Al "number" (.int n) [])))))
   have:=A4 "outs" (.ref d2) (Al "hand" (.ref d1) (Al "ticks" (.int 0) (Al "made" (.int 0) (Al "number" (.int n) []))))
   have:=A4 "hand" (.ref d1) (Al "ticks" (.int 0) (Al "made" (.int 0) (Al "number" (.int n) [])))
   have:=A4 "ticks" (.int 0) (Al "made" (.int 0) (Al "number" (.int n) []))
   have:=A4 "made" (.int 0) (Al "number" (.int n) [])
   have:=A4 "number" (.int n) []
   simp only[List.length_nil] at *
   lia
  have n12:d1≠d2:=fun z=>by rw[←z,Ad b3,Ab] at h2;cases h2
  have n13:d1≠d3:=fun z=>by rw[←z,Ad b3,Ad n12,Ad b3,Ab] at h3;cases h3
  have n23:d2≠d3:=fun z=>by rw[←z,Ad b7,Ab] at h3;cases h3
  have n14:d1≠d4:=fun z=>by rw[←z,Ad b3,Ad n13,Ad b3,Ad n12,Ad b3,Ab] at h4;cases h4
  have n24:d2≠d4:=fun z=>by rw[←z,Ad b7,Ad n23,Ad b7,Ab] at h4;cases h4
  have n34:d3≠d4:=fun z=>by rw[←z,Ad b11,Ab] at h4;cases h4
  refine k d1 d2 d3 d4 _ b4 b8 b12 b16 ⟨⟨dx,?_⟩,?_,?_,?_,?_,fun q hq=>by simp at hq,?_⟩ (c0 b14)
  ·rw[Ab,←Jfw]
  ·rw[Ad b3,Ad n14,Ad b3,Ad n13,Ad b3,Ad n12,Ad b3,Ab];rfl
  ·rw[Ad b7,Ad n24,Ad b7,Ad n23,Ad b7,Ab];rfl
  ·rw[Ad b11,Ad n34,Ad b11,Ab];rfl
  ·rw[Ad b15,Ab];rfl
  ·simp[foot,n12,n13,n14,n23,n24,n34]
theorem scM:Ao ["self","thing"] ["self"] (Aj Sq):={}
theorem Jdd{f:Addr}{fd:FuncData}(F:Fun K "make" "House.make" Sq f fd)(T:Txt K mg C NHd NNr MI NW):EX0 P w K mg base 1 f fd ["self"] (Jr C):=by
 refine F.ok scM (fun vs H Q E h=>?_) (fun cdv A outer s H vs Q E hr h=>?_)
 ·obtain⟨p,G,rfl,_⟩:=h
  rfl
 ·obtain⟨p,G,rfl,S,z1,z2,z3,f1,f2,f3,k⟩:=h
  have hu:=Cm hr
  refine⟨_,Ac (Az (i:=1) scM.nd rfl (Or.inl rfl) (Bn (Aa (Aw (pv 0) rfl) (Aa (Aw (pv 0) rfl) Ae))))
   (Ac (Ca (pv 0) Ag C9)
   (Ac (C5 hu (Aw (pv 0) rfl) (pv 1) Ag rfl)
   (Ac (C5 hu (Aw (pv 0) rfl) (pv 1) E7 rfl)
   (Ac (C5 hu (Aw (pv 0) rfl) (pv 1) Fp rfl)
   (Ac (Ca (pv 0) Ag C9)
   (Af (Ar (pv 1)))))))),?_⟩
  obtain⟨dx,hp⟩:=S.ob
  refine⟨_,rfl,p,C,dx,_,_,rfl,hp,T.cl,T.nN,Oy G,_,rfl,p,C,dx,_,_,rfl,hp,T.cl,T.nM,Xv G,(by show 2≤sizeLine;decide),fun t ht=>?_⟩
  have s1:=Ah (o:=.tup [V.int G.num,V.int G.made]) ht
  have S1:=S.same s1
  have t1:(upd H t (.tup [V.int G.num,V.int G.made])) t=some (.tup (tv (G.num,G.made))):=Ab
  generalize upd H t (.tup [V.int G.num,V.int G.made])=H1 at s1 S1 t1
  obtain⟨dx1,hp1⟩:=S1.ob
  refine⟨_,rfl,p,C,dx1,_,_,rfl,hp1,T.cl,T.nM,Xv G,_,_,rfl,rfl,dx1,_,hp1,Da G,?_⟩
  rw[Uh]
  have S2:=S1.fld dx1 (G.made+1) G.ticks
  have fr2:∀b o,H1 b=some o→b≠p→(upd H1 p (.ins C dx1 (Bz { G with made:=G.made+1 }))) b=some o:=fun b o e hb=>by rw[Ad hb];exact e
  have tp:=S1.tup_ne t1
  have t2:=fr2 _ _ t1 tp.1
  have S2:HouseAt C (upd H1 p (.ins C dx1 (Bz { G with made:=G.made+1 }))) p { G with made:=G.made+1 }:=S2
  generalize upd H1 p (.ins C dx1 (Bz { G with made:=G.made+1 }))=H2 at S2 fr2 t2
  obtain⟨dx2,hp2⟩:=S2.ob
  refine⟨_,rfl,p,C,dx2,_,_,rfl,hp2,T.cl,T.nO,C0 _,_,rfl,G.o,_,rfl,DPut.t (k:=tk (G.num,G.made)) S2.dO t2 (by rw[ZA];exact A3 (by show G.outs.length≤1000;lia)),?_⟩
  have e3:putK (G.outs.map fun(q:T2×Int)=>(tk q.1,V.int q.2)) (tk (G.num,G.made)) (V.int 0)=(G.outs++[((G.num,G.made),0)]).map fun(q:T2×Int)=>(tk q.1,V.int q.2):=by
   rw[Ip (k:=fun q:T2×Int=>q.1) (f:=fun q=>V.int q.2) _ f2,ZF];rfl
  have S3:=S2.setOuts (G.outs++[((G.num,G.made),0)])
  unfold Ct at S3
  rw[←e3] at S3
  have tn2:=S2.tup_ne t2
  have fr3:∀b o,H2 b=some o→b∉foot G→(upd H2 G.o (.dT (putK (G.outs.map fun(q:T2×Int)=>(tk q.1,V.int q.2)) (tk (G.num,G.made)) (V.int 0)))) b=some o:=fun b o e hb=>by rw[Ad (fun z=>hb (by rw[z];simp[foot]))];exact e
  have t3:=fr3 _ _ t2 tn2.2
  generalize (upd H2 G.o (.dT (putK (G.outs.map fun(q:T2×Int)=>(tk q.1,V.int q.2)) (tk (G.num,G.made)) (V.int 0))))=H3 at S3 fr3 t3
  intro a ha
  have s4:=Ah (o:=.dT []) ha
  have S4:=S3.same s4
  have a4:(upd H3 a (.dT [])) a=some (Bh []):=Ab
  have t4:=s4 _ _ t3
  have af:a∉foot G:=fun m=>by
   obtain⟨kvs,e⟩:=S3.foot_dT (b:=a) (by have:foot { G with made:=G.made+1,outs:=G.outs++[((G.num,G.made),(0:Int))] }=foot G:=rfl;rw[this];exact m)
   rw[ha] at e;cases e
  generalize upd H3 a (.dT [])=H4 at s4 S4 a4 t4
  obtain⟨dx4,hp4⟩:=S4.ob
  refine⟨_,rfl,p,C,dx4,_,_,rfl,hp4,T.cl,T.nL,Dv _,_,rfl,G.l,_,rfl,DPut.t (k:=tk (G.num,G.made)) S4.dl t4 (by rw[ZA];exact A3 (by show G.holds.length≤1000;lia)),?_⟩
  have e5:putK (G.holds.map fun(q:T2×Addr×List T2)=>(tk q.1,V.ref q.2.1)) (tk (G.num,G.made)) (V.ref a)=(G.holds++[((G.num,G.made),a,[])]).map fun(q:T2×Addr×List T2)=>(tk q.1,V.ref q.2.1):=by
   rw[Ip (k:=fun q:T2×Addr×List T2=>q.1) (f:=fun q=>V.ref q.2.1) _ f3,ZF];rfl
  have S5:=S4.addHold (G.num,G.made) a4 af
  unfold Ji at S5
  rw[←e5] at S5
  have fr5:∀b o,H4 b=some o→b∉foot G→(upd H4 G.l (.dT (putK (G.holds.map fun(q:T2×Addr×List T2)=>(tk q.1,V.ref q.2.1)) (tk (G.num,G.made)) (V.ref a)))) b=some o:=fun b o e hb=>by rw[Ad (fun z=>hb (by rw[z];simp[foot]))];exact e
  have t5:=fr5 _ _ t4 tn2.2
  generalize (upd H4 G.l (.dT (putK (G.holds.map fun(q:T2×Addr×List T2)=>(tk q.1,V.ref q.2.1)) (tk (G.num,G.made)) (V.ref a))))=H5 at S5 fr5 t5
  obtain⟨dx5,hp5⟩:=S5.ob
  refine⟨_,rfl,p,C,dx5,_,_,rfl,hp5,T.cl,T.nH,D9 _,_,rfl,G.h,_,rfl,DPut.t (k:=tk (G.num,G.made)) S5.dh t5 (by rw[ZA];exact A3 (by show G.hand.length≤1000;lia)),?_⟩
  have e6:putK (G.hand.map fun(q:T2)=>(tk q,V.bl true)) (tk (G.num,G.made)) (V.bl true)=(G.hand++[(G.num,G.made)]).map fun(q:T2)=>(tk q,V.bl true):=by
   rw[Ip (k:=fun q:T2=>q) (f:=fun _=>V.bl true) _ f1,ZF];rfl
  have S6:=S5.setHand (G.hand++[(G.num,G.made)])
  unfold Bh at S6
  rw[←e6] at S6
  have fr6:∀b o,H5 b=some o→b∉foot G→(upd H5 G.h (.dT (putK (G.hand.map fun(q:T2)=>(tk q,V.bl true)) (tk (G.num,G.made)) (V.bl true)))) b=some o:=fun b o e hb=>by rw[Ad (fun z=>hb (by rw[z];simp[foot]))];exact e
  have t6:=fr6 _ _ t5 tn2.2
  generalize (upd H5 G.h (.dT (putK (G.hand.map fun(q:T2)=>(tk q,V.bl true)) (tk (G.num,G.made)) (V.bl true))))=H6 at S6 fr6 t6
  obtain⟨dx6,hp6⟩:=S6.ob
  refine⟨_,rfl,p,C,dx6,_,_,rfl,hp6,T.cl,T.nT,B7 _,_,_,rfl,rfl,dx6,_,hp6,Da _,?_⟩
  rw[Bg]
  have S7:=S6.fld dx6 (G.made+1) (G.ticks+1)
  have hfree:∀{b:Addr},H1 b=none→H b=none:=fun{b} e=>B5 s1 e
  have fr7:HFr p G H (upd H6 p (.ins C dx6 (Bz { G with made:=G.made+1,ticks:=G.ticks+1,outs:=G.outs++[((G.num,G.made),0)],holds:=G.holds++[((G.num,G.made),a,[])],hand:=G.hand++[(G.num,G.made)] }))):=fun b o e hb hf=>by
   rw[Ad hb]
   exact fr6 _ _ (fr5 _ _ (s4 _ _ (fr3 _ _ (fr2 _ _ (s1 _ _ e) hb) hf)) hf) hf
  refine⟨_,rfl,k t a _ ht ?_ (by rw[Ad tp.1];exact t6) S7 fr7⟩
  cases q:H a with
  | none=>rfl
  | some u =>
    exfalso
    have nap:a≠p:=fun z=>by rw[z,S3.ob.choose_spec] at ha;cases ha
    have:H3 a=some u:=fr3 _ _ (fr2 _ _ (s1 _ _ q) nap) af
    rw[ha] at this;cases this
theorem scT:Ao ["self"] ["self"] (Aj Sm):={}
theorem Jc7{f:Addr}{fd:FuncData}(F:Fun K "tick" "House.tick" Sm f fd)(T:Txt K mg C NHd NNr MI NW):EX0 P w K mg base 1 f fd ["self"] (Lp C):=by
 refine F.ok scT (fun vs H Q E h=>?_) (fun cdv A outer s H vs Q E hr h=>?_)
 ·obtain⟨p,G,rfl,_⟩:=h
  rfl
 ·obtain⟨p,G,rfl,S,k⟩:=h
  obtain⟨dx,hp⟩:=S.ob
  exact⟨_,Af (Ar (Aw (pv 0) rfl)),⟨_,rfl,p,C,dx,_,_,rfl,hp,T.cl,T.nT,B7 G,k⟩⟩
end
theorem Rm{a b c:Str}{k:NameKind}{cl:List (Str×Addr)}{y:Str}(hc:∃z,cl.lookup c=some z)(h:([(a,NameKind.local),(b,NameKind.local),(c,k)]:List (Str×NameKind)).lookup y=some .cell∨([(a,NameKind.local),(b,NameKind.local),(c,k)]:List (Str×NameKind)).lookup y=some .free):∃z,cl.lookup y=some z:=by
 by_cases e3:y=c
 ·rw[e3];exact hc
 ·exfalso
  have q3:(y==c)=false:=beq_eq_false_iff_ne.mpr e3
  by_cases e1:y=a
  ·have q1:(y==a)=true:=by rw[e1];exact beq_self_eq_true a
   simp only[List.lookup_cons,q1] at h
   rcases h with h|h<;>cases h
  ·have q1:(y==a)=false:=beq_eq_false_iff_ne.mpr e1
   by_cases e2:y=b
   ·have q2:(y==b)=true:=by rw[e2];exact beq_self_eq_true b
    simp only[List.lookup_cons,q1,q2] at h
    rcases h with h|h<;>cases h
   ·have q2:(y==b)=false:=beq_eq_false_iff_ne.mpr e2
    simp only[List.lookup_cons,q1,q2,q3,List.lookup_nil] at h
    rcases h with h|h<;>cases h
theorem Yl{H H':Hp}(s:Bp H H'){as:List Addr}{rs:List (T2×Int)}(x:Paired (RecAt H) as rs):Paired (RecAt H') as rs:=Ay (fun _ _ ⟨ka,e1,e2⟩=>⟨ka,s _ _ e1,s _ _ e2⟩) x
section
variable {P:Program}{w:World}{K:W.Frag}{mg:Str→Option Value}{base:Heap}{C NHd NNr MI NW:Addr}
theorem Jho:Ao ["self","thing"] ["self","thing"] (Aj W0):={}
theorem Jb{α β:Type}(f:α→β)(l:List α):(l.map fun t=>(t,f t)).map (·.1)=l:=by
 rw[List.map_map];exact List.map_id' l
theorem Jc6{f:Addr}{fd:FuncData}(F:Fun K "told" "House.told" W0 f fd)(T:Txt K mg C NHd NNr MI NW):EX0 P w K mg base 1 f fd ["self","thing"] (Vf C K):=by
 refine F.ok Jho (fun vs H Q E h=>?_) (fun cdv A outer s H vs Q E hr h=>?_)
 ·obtain⟨p,t,G,th,w,a,hl,hs,rfl,_⟩:=h
  rfl
 ·obtain⟨p,t,G,th,wt,a,hl,hs,rfl,S,ht,f1,f2,h64,pm,pw,k⟩:=h
  have hu:=Cm hr
  obtain⟨dx,hp⟩:=S.ob
  have g1:DGet H G.o (.ref t) (some (V.int wt)):=by
   have:=DGet.t (k:=tk th) S.dO ht
   rw[Dp (k:=fun q:T2×Int=>q.1) (f:=fun q=>V.int q.2),f1] at this
   exact this
  have g2:DGet H G.l (.ref t) (some (V.ref a)):=by
   have:=DGet.t (k:=tk th) S.dl ht
   rw[Dp (k:=fun q:T2×Addr×List T2=>q.1) (f:=fun q=>V.ref q.2.1),f2] at this
   exact this
  have g3:H a=some (Bh hl):=S.hl _ (List.mem_of_find?_eq_some f2)
  refine⟨_,Af (Ar (Bn (Aa (pv 1) (Aa (Be hu (Aw (pv 0) rfl) (pv 1)) (Aa (Cu Ey (by rfl) T.tuple PyProof.Rows.boot_tuple (Aa (Bv (Cr rfl) (by rfl) T.sorted PyProof.Rows.boot_sorted (Aa (Be hu (Aw (pv 0) rfl) (pv 1)) Ae)) Ae)) Ae))))),?_⟩
  refine⟨_,rfl,_,rfl,p,C,dx,_,_,rfl,hp,T.cl,T.nO,C0 G,_,rfl,G.o,_,rfl,g1,_,rfl,p,C,dx,_,_,rfl,hp,T.cl,T.nL,Dv G,_,rfl,G.l,_,rfl,g2,a,_,hs,rfl,Xx g3,(by rw[ZA];exact h64),(by rw[Jb];exact pm),pw,fun r as hr ha=>?_⟩
  refine⟨r,_,rfl,.inl ⟨SqL.of Ab,fun x2 hx2=>⟨(by show 3≤sizeLine;decide),fun x hx=>?_⟩⟩⟩
  have s1:=Ah (o:=.lst (as.map V.ref)) hr
  have s2:=Ah (o:=.tup (as.map V.ref)) hx2
  have s3:=Ah (o:=.tup [V.ref t,V.int wt,V.ref x2]) hx
  have ss:=Ak s1 (Ak s2 s3)
  exact k x _ ss ⟨x,t,x2,as,rfl,Ab,ss _ _ ht,s3 _ _ Ab,Ay (fun _ _ e=>ss _ _ e) ha⟩
theorem scS:Ao ["self","hand","things","records"] ["self"] (Aj Jv):={}
theorem Ja5{f fT:Addr}{fd fdT:FuncData}(F:Fun K "state" "House.state" Jv f fd)(T:Txt K mg C NHd NNr MI NW)(FT:Fun K "told" "House.told" W0 fT fdT)(bT:Binds K fdT ["self","thing"] [])(mT:Jcb K C "told" fT) :
 EX0 P w K mg base 2 f fd ["self"] (Fd C K):=by
 have GT:EX0 P w K mg base 1 fT fdT ["self","thing"] (Vf C K):=Jc6 FT T
 refine F.ok scS (fun vs H Q E h=>?_) (fun cdv A outer s H vs Q E hr h=>?_)
 ·obtain⟨p,G,hs,os,rs,rfl,_⟩:=h
  rfl
 ·obtain⟨p,G,hs,os,rs,rfl,S,z1,z2,z3,pm,pw,R,pmr,pwr,k⟩:=h
  have hr1:Room 1 _:=hr.mono (by decide)
  obtain⟨dx,hp⟩:=S.ob
  refine⟨_,Ac (Az (i:=1) scS.nd rfl (Or.inl rfl) (Cu Ey (by rfl) T.tuple PyProof.Rows.boot_tuple (Aa (Bv (Cr rfl) (by rfl) T.sorted PyProof.Rows.boot_sorted (Aa (Aw (pv 0) rfl) Ae)) Ae)))
   (Ac (Az (i:=2) scS.nd rfl (Or.inl rfl) (Cu Ey (by rfl) T.tuple PyProof.Rows.boot_tuple (Aa (Fj (caps:=[("self",0)]) rfl (Dq (Bv (Cr rfl) (by rfl) T.sorted PyProof.Rows.boot_sorted (Aa (Aw (pv 0) rfl) Ae)))
    rfl (by decide +kernel) rfl (by decide +kernel) rfl ⟨rfl,trivial⟩ (fun y h=>Rm ⟨_,rfl⟩ h) ⟨⟨rfl,rfl,rfl,rfl⟩,trivial⟩ (by decide +kernel) (fun _ _ _ _ _=>Gi)
    (fun _ _ _ _ _=>Ap (pv 1) T.cl mT GT hr1 bT .nil Bj (Aa (pv 0) Ae))) Ae)))
   (Ac (Az (i:=3) scS.nd rfl (Or.inl rfl) (Cu Np (by rfl) T.tuple PyProof.Rows.boot_tuple (Aa (Bv (Jj rfl (K1 hr)) (by rfl) T.sorted PyProof.Rows.boot_sorted (Aa (Qs PySem.F.plainAttrs_dict PySem.F.slot_dict_items PySem.F.type_dict_items Jbi (Aw (pv 0) rfl)) Ae)) Ae)))
   (Af (Ar (Bn (Aa (pv 1) (Aa (pv 2) (Aa (pv 3) Ae)))))))),?_⟩
  refine⟨_,rfl,p,C,dx,_,_,rfl,hp,T.cl,T.nH,D9 G,G.h,_,hs,rfl,Xx S.dh,(by rw[ZA];exact z1),(by rw[Jb];exact pm),pw,fun r1 as1 hr1' ha1=>⟨r1,_,rfl,.inl ⟨SqL.of Ab,fun x1 hx1=>?_⟩⟩⟩
  have s1:=Ah (o:=.lst (as1.map V.ref)) hr1'
  have s2:=Ah (o:=.tup (as1.map V.ref)) hx1
  have ss1:=Ak s1 s2
  have S1:=S.same ss1
  have q1:(upd (upd H r1 (.lst (as1.map V.ref))) x1 (.tup (as1.map V.ref))) x1=some (.tup (as1.map V.ref)):=Ab
  have ha1':ThsAt (upd (upd H r1 (.lst (as1.map V.ref))) x1 (.tup (as1.map V.ref))) as1 hs:=Ay (fun _ _ e=>ss1 _ _ e) ha1
  generalize upd (upd H r1 (.lst (as1.map V.ref))) x1 (.tup (as1.map V.ref))=H1 at ss1 S1 q1 ha1'
  obtain⟨dx1,hp1⟩:=S1.ob
  have e0:((G.outs.map fun q=>(q.1,V.int q.2)).map (·.1))=G.outs.map (·.1):=by rw[List.map_map];rfl
  refine⟨_,rfl,p,C,dx1,_,_,rfl,hp1,T.cl,T.nO,C0 G,G.o,_,os.map (·.1),rfl,Jbq S1.dO,(by rw[ZA];exact z2),(by rw[e0];exact R.pm),R.pw,fun r2 as2 hr2 ha2=>⟨r2,rfl,⟨_,SqL.of Ab⟩,fun q hq=>?_⟩⟩
  have s3:=Ah (o:=.lst (as2.map V.ref)) hr2
  have er2:(upd H1 r2 (.lst (as2.map V.ref))) r2=some (.lst (as2.map V.ref)):=Ab
  have S2:=S1.same s3
  have ss2:=Ak ss1 s3
  have ha2':ThsAt (upd H1 r2 (.lst (as2.map V.ref))) as2 (os.map (·.1)):=Ay (fun _ _ e=>s3 _ _ e) ha2
  have ha1b:ThsAt (upd H1 r2 (.lst (as2.map V.ref))) as1 hs:=Ay (fun _ _ e=>s3 _ _ e) ha1'
  have q1b:=s3 _ _ q1
  generalize upd H1 r2 (.lst (as2.map V.ref))=H2 at s3 er2 S2 ss2 ha2' ha1b q1b hq
  have hlen:as2.length=os.length:=by have:=Paired.length ha2;rw[ZA] at this;exact this
  have hos:os.length<64:=by
   have h1:=R.pm.length_eq
   rw[ZA,ZA] at h1
   omega
  refine Fb (K:=K) (a:=r2) (xs:=as2.map V.ref) (tt:=fun _ H Q=>Q true H) (te:=Wo C "told" (Vf C K) [] E0 (Co 1) (Dk (Co 0) Jo)) (caps:=[("self",0)]) (σ:=[some (.ref p),some (.ref x1),none,none]) (fun i ys H3=>H3 q=some (.lst ys)∧Bp H2 H3∧Paired (RowV H3) ys (os.take i)) ⟨Ab,Ah hq,by rw[List.take_zero];exact .nil⟩ (fun i ys H3 _ h=>⟨SqL.of (h.2.1 _ _ er2),h.1⟩) ?_ ?_
  ·rintro i x ys H3 N hx ⟨e3,s4,pr⟩ hN
   refine Cd ?_
   rw[ZH] at hx
   cases hai:as2[i]? with
   | none=>rw[hai] at hx;cases hx
   | some ai =>
     rw[hai] at hx
     cases hx
     have hio:i<os.length:=by rw[←hlen];exact(ZJ hai).1
     obtain⟨qo,hqo⟩:=A1 hio
     have eth:=A2 ha2' i ai qo.1 hai (by rw[ZH,hqo];rfl)
     obtain⟨f1,a,hl,f2,f3,f4,f5⟩:=R.at_ qo (ZP hqo)
     have S3:=S2.same s4
     obtain⟨dx3,hp3⟩:=S3.ob
     refine⟨_,rfl,p,dx3,_,rfl,hp3,Bk G (by decide +kernel),_,rfl,p,ai,G,qo.1,qo.2.1,a,hl,qo.2.2,rfl,S3,s4 _ _ eth,f1,f2,f3,f4,f5,fun x2 H5 s5 rep=>⟨s5 _ _ e3,?_,hN _ _ ⟨Ab,fun b o e=>?_,?_⟩⟩⟩
     ·have:=Paired.length pr
      rw[this]
      exact A3 (Nat.le_trans (List.length_take_le _ _) (by omega))
     ·have nb:b≠q:=Am e hq
      rw[Ad nb];exact s5 _ _ (s4 _ _ e)
     ·have kq:KeepT H5 (upd H5 q (.lst (ys++[V.ref x2]))):=Ji1 fun o' e=>by
       rw[s5 _ _ e3] at e;cases e;exact⟨fun _ z=>(by cases z),fun _ _ z=>(by cases z)⟩
      have et:os.take (i+1)=os.take i++[qo]:=by
       rw[List.take_add_one,hqo];rfl
      rw[et]
      exact Ep (rep.keep kq) (Ay (fun _ _ r=>(r.keep (Ji0 s5)).keep kq) pr)
  ·rintro ys H3 ⟨e3,s4,pr⟩
   rw[ZA,hlen,List.take_length] at pr
   refine⟨q,_,rfl,.inl ⟨SqL.of e3,fun x2 hx2=>?_⟩⟩
   have s5:=Ah (o:=.tup ys) hx2
   have ss3:=Ak ss2 (Ak s4 s5)
   have S4:=(S2.same s4).same s5
   have q2:(upd H3 x2 (.tup ys)) x2=some (.tup ys):=Ab
   have q1c:=s5 _ _ (s4 _ _ q1b)
   have ha1c:ThsAt (upd H3 x2 (.tup ys)) as1 hs:=Ay (fun _ _ e=>s5 _ _ (s4 _ _ e)) ha1b
   have pr':Paired (RowV (upd H3 x2 (.tup ys))) ys os:=Ay (fun _ _ r=>r.keep (Ji0 s5)) pr
   generalize upd H3 x2 (.tup ys)=H4 at s5 ss3 S4 q2 q1c ha1c pr'
   obtain⟨dx4,hp4⟩:=S4.ob
   have dr4:=S4.dr
   refine⟨_,rfl,p,C,dx4,_,_,rfl,hp4,T.cl,T.nR,Cj G,(.inr (.inr (.inl ⟨rfl,.inr ⟨_,dr4⟩⟩))),G.r,_,rfl,rfl,dr4,fun v hv=>?_⟩
   have s6:=Ah (o:=Ri v G.r) hv
   refine⟨v,G.r,G.recs,rs,rfl,Ab,s6 _ _ dr4,z3,pmr,pwr,fun r3 as3 H7 s7 hr3 e7 pr7=>⟨r3,_,rfl,SqL.of e7,fun x3 ob3 hx3 pl3=>?_⟩⟩
   have s8:=Ah (o:=.frz ob3 (.tup (as3.map V.ref))) hx3
   refine⟨_,rfl,_,rfl,_,rfl,(by show 3≤sizeLine;decide),fun x hx=>?_⟩
   have s9:=Ah (o:=.tup [V.ref x1,V.ref x2,V.ref x3]) hx
   have ss4:=Ak s6 (Ak s7 (Ak s8 s9))
   exact k x _ (Ak ss3 ss4) ⟨x1,x2,x3,as1,ys,as3,Ab,ss4 _ _ q1c,Ay (fun _ _ e=>ss4 _ _ e) ha1c,ss4 _ _ q2,Ay (fun _ _ r=>r.keep (Ji0 ss4)) pr',⟨ob3,s9 _ _ Ab,pl3⟩,Yl (Ak s8 s9) pr7⟩
theorem scCe:Ao ["_law_script","_law_k","_law_number"] ["_law_script","_law_k"] (Aj Sx):={}
def Vi(K:W.Frag):Sp:=fun vs H Q _=>∃(a:Addr)(ns:List Int)(k:Int),vs=[.ref a,.int k]∧SqL K H a (ns.map V.int)∧ns.length≤63∧0≤k∧k≤1000∧∀v:Int,Q (.int v) H
theorem Xl{f:Addr}{fd:FuncData}(F:Fun K "_law_cell" "_law_cell" Sx f fd)(hn:mg "len"=none):EX0 P w K mg base 1 f fd ["_law_script","_law_k"] (Vi K):=by
 refine F.ok scCe (fun vs H Q E h=>?_) (fun cdv A outer s H vs Q E hr h=>?_)
 ·obtain⟨a,ns,k,rfl,_⟩:=h
  rfl
 ·obtain⟨a,ns,k,rfl,hS,hl,h0,h100,kk⟩:=h
  have hlen:(ns.map V.int).length=ns.length:=ZA ..
  have item:∀i:Int,0≤i→i<ns.length→∃v,atI (ns.map V.int) i=some (.int v):=fun i a b=>by
   obtain⟨x,hx⟩:=A1 (xs:=ns) (j:=i.toNat) (by lia)
   exact⟨x,Dc a (by rw[ZH,hx];rfl)⟩
  refine⟨_,Ac (A9 (Au To (pv 1) (Bv Br (by rfl) hn PySem.boot_len (Aa (pv 0) Ae)) (A0 _)) (Af (Ar (Av Cz (pv 0) (pv 1)))) Ax)
   (Ac (Az (i:=2) scCe.nd rfl (Or.inl rfl) (Bc F2 (Bc Ew (pv 1) Ag) Ag))
   (Ac (A9 (Au Ol (Bv Br (by rfl) hn PySem.boot_len (Aa (pv 0) Ae)) Ag (A0 _))
    (Af (Az (i:=2) scCe.nd rfl (Or.inl rfl) (Bc Cc (Bc F2 (Bc Ew (Av Cz (pv 0) (Bc Cc (Bc Ew (pv 1) Ag) (Bv Br (by rfl) hn PySem.boot_len (Aa (pv 0) Ae)))) Ag) (Bc Ew (pv 1) Ag)) Ag))) Ax)
   (Af (Ar (Bc Cc (Bc Ew (pv 2) (pv 2)) Ag))))),?_⟩
  refine⟨_,rfl,_,rfl,a,_,rfl,.inl hS,_,_,rfl,rfl,_,rfl,?_⟩
  refine Ue (fun c1=>?_) (fun _=>?_)
  ·have c1:=of_decide_eq_true c1
   obtain⟨v,hv⟩:=item k h0 (by rw[hlen] at c1;exact c1)
   exact⟨_,rfl,_,rfl,a,_,_,_,rfl,rfl,hS,hv,kk v⟩
  ·refine⟨_,rfl,_,_,rfl,rfl,.inr ⟨by decide,by decide⟩,_,_,rfl,rfl,?_⟩
   refine⟨_,rfl,a,_,rfl,.inl hS,_,_,rfl,rfl,_,rfl,?_⟩
   refine Ue (fun c2=>?_) (fun _=>?_)
   ·have c2:=of_decide_eq_true c2
    have hpos:(0:Int)<(ns.length:Int):=by rw[hlen] at c2;exact c2
    obtain⟨v,hv⟩:=item (k*7 % (ns.length:Int)) (Int.emod_nonneg _ (by lia)) (Int.emod_lt_of_pos _ hpos)
    refine⟨_,rfl,_,rfl,_,_,rfl,rfl,.inr ⟨by decide,by decide⟩,_,rfl,a,_,rfl,.inl hS,_,_,rfl,rfl,(by rw[hlen];exact hpos),a,_,_,_,rfl,rfl,hS,(by rw[hlen];exact hv),_,_,rfl,rfl,.inr ⟨by decide,by decide⟩,
     _,rfl,_,_,rfl,rfl,.inr ⟨by decide,by decide⟩,_,_,rfl,rfl,_,_,rfl,rfl,(show(0:Int)<2147483647 by decide),?_⟩
    refine⟨_,rfl,_,rfl,_,_,rfl,rfl,.inl ⟨?_,?_⟩,_,_,rfl,rfl,(show(0:Int)<2147483629 by decide),kk _⟩
    ·have:=Int.emod_nonneg (v*48271+k*7919) (show(2147483647:Int)≠0 by decide)
     lia
    ·have:=Int.emod_lt_of_pos (v*48271+k*7919) (show(0:Int)<2147483647 by decide)
     lia
   ·exact⟨_,rfl,_,rfl,_,_,rfl,rfl,.inl ⟨by lia,by lia⟩,_,_,rfl,rfl,(show(0:Int)<2147483629 by decide),kk _⟩
end
theorem Jfo{a b c:T2}(h1:lt2 a b)(h2:lt2 b c):lt2 a c:=by
 rw[Gm] at *;omega
theorem Jdp{a b:T2}(h:a≠b)(h1:¬lt2 a b):lt2 b a:=by
 rw[Gm] at *
 have:¬(a.1=b.1∧a.2=b.2):=fun z=>h (Prod.ext z.1 z.2)
 omega
theorem Wz{α:Type}(key:α→T2)(x:α):∀{s:List α},(s.map key).Pairwise lt2→(∀y∈s,key x≠key y)→∃s':List α,s'.Perm (x::s)∧(s'.map key).Pairwise lt2
 | [],_,_=>⟨[x],.refl _,by simp⟩
 | y::s,h,ne=>by
   have h':=List.pairwise_cons.mp h
   by_cases e:lt2 (key x) (key y)
   ·refine⟨x::y::s,.refl _,List.pairwise_cons.mpr ⟨fun z hz=>?_,h⟩⟩
    rcases ZM hz with rfl|hz
    ·exact e
    ·exact Jfo e (h'.1 z hz)
   ·obtain⟨s',p,q⟩:=Wz key x h'.2 fun z hz=>ne z (ZD _ hz)
    refine⟨y::s',(p.cons y).trans (List.Perm.swap x y s),List.pairwise_cons.mpr ⟨fun z hz=>?_,q⟩⟩
    obtain⟨u,hu,rfl⟩:=ZN hz
    rcases ZM (p.mem_iff.mp hu) with rfl|hu
    ·exact Jdp (ne y (ZL ..)) e
    ·exact h'.1 _ (List.mem_map_of_mem hu)
theorem Si{α:Type}(key:α→T2):∀{l:List α},(l.map key).Nodup→∃s:List α,s.Perm l∧(s.map key).Pairwise lt2
 | [],_=>⟨[],.refl _,by simp⟩
 | x::l,nd=>by
   have nd':=List.nodup_cons.mp nd
   obtain⟨s,p,q⟩:=Si key nd'.2
   obtain⟨s',p',q'⟩:=Wz key x q fun y hy e=>nd'.1 (List.mem_map.mpr ⟨y,p.mem_iff.mp hy,e.symm⟩)
   exact⟨s',p'.trans (p.cons x),q'⟩
structure Good(G:HGh):Prop where
 h1:G.hand.Nodup
 h2:G.hand.length<64
 o1:(G.outs.map (·.1)).Nodup
 o2:G.outs.length<64
 r1:(G.recs.map (·.1)).Nodup
 r2:G.recs.length<64
 at_:∀q∈G.outs,∃a hl,G.holds.find? (fun z=>decide (z.1=q.1))=some (q.1,a,hl)∧hl.Nodup∧hl.length<64
structure Told(G:HGh)(hs:List T2)(os:List (T2×Int×List T2))(rs:List (T2×Int)):Prop where
 pm:hs.Perm G.hand
 pw:hs.Pairwise lt2
 rw_:Rows G os
 pr:rs.Perm G.recs
 wr:(rs.map (·.1)).Pairwise lt2
theorem find_self{l:List (T2×Int)}(nd:(l.map (·.1)).Nodup){q:T2×Int}(hq:q∈l):l.find? (fun z=>decide (z.1=q.1))=some q:=by
 induction l with
 | nil=>cases hq
 | cons x l ih =>
   have nd':=List.nodup_cons.mp nd
   rcases ZM hq with rfl|hq
   ·simp
   ·have ne:¬x.1=q.1:=fun z=>nd'.1 (List.mem_map.mpr ⟨q,hq,z.symm⟩)
    rw[List.find?_cons,decide_eq_false ne]
    exact ih nd'.2 hq
theorem Xf{G:HGh}(g:Good G):∀{s:List (T2×Int)},(∀q∈s,q∈G.outs)→∃os:List (T2×Int×List T2),os.map (fun q=>(q.1,q.2.1))=s∧∀q∈os,G.outs.find? (fun z=>decide (z.1=q.1))=some (q.1,q.2.1)∧∃a hl,G.holds.find? (fun z=>decide (z.1=q.1))=some (q.1,a,hl)∧hl.length<64∧q.2.2.Perm hl∧q.2.2.Pairwise lt2
 | [],_=>⟨[],rfl,fun q hq=>by cases hq⟩
 | x::s,h=>by
   obtain⟨os,e,k⟩:=Xf g fun q hq=>h q (ZD _ hq)
   have hx:=h x (ZL ..)
   obtain⟨a,hl,f,nd,z⟩:=g.at_ x hx
   obtain⟨hs,p,q⟩:=Si (fun t:T2=>t) (l:=hl) (by rw[List.map_id'];exact nd)
   rw[List.map_id'] at q
   refine⟨(x.1,x.2,hs)::os,by rw[List.map_cons,e],fun y hy=>?_⟩
   rcases ZM hy with rfl|hy
   ·exact⟨find_self g.o1 hx,a,hl,f,z,p,q⟩
   ·exact k y hy
theorem Good.told{G:HGh}(g:Good G):∃hs os rs,Told G hs os rs:=by
 obtain⟨hs,p1,q1⟩:=Si (fun t:T2=>t) (l:=G.hand) (by rw[List.map_id'];exact g.h1)
 obtain⟨so,p2,q2⟩:=Si (fun q:T2×Int=>q.1) g.o1
 obtain⟨rs,p3,q3⟩:=Si (fun q:T2×Int=>q.1) g.r1
 obtain⟨os,e,k⟩:=Xf g fun q hq=>p2.mem_iff.mp hq
 have e1:os.map (·.1)=so.map (·.1):=by rw[←e,List.map_map];rfl
 rw[List.map_id'] at q1
 exact⟨hs,os,rs,p1,q1,⟨by rw[e1];exact p2.map _,by rw[e1];exact q2,k⟩,p3,q3⟩
abbrev Qi:Stmt:=inClass (top 14) 17
abbrev L1:Stmt:=inClass (top 14) 11
abbrev Xb:Stmt:=inClass (top 14) 23
abbrev Xc:Stmt:=inClass (top 14) 24
abbrev Ql:Stmt:=inClass (top 21) 0
abbrev Og:Stmt:=inClass (top 21) 1
abbrev Gg:Stmt:=inClass (top 21) 2
abbrev Ld:Stmt:=inClass (top 21) 3
abbrev Vm:Stmt:=inClass (top 23) 0
abbrev Qd:Stmt:=inClass (top 23) 1
abbrev Qe:Stmt:=inClass (top 23) 2
abbrev Qh:Stmt:=inClass (top 23) 3
abbrev Qa:Stmt:=inClass (top 23) 4
abbrev Qg:Stmt:=inClass (top 23) 5
abbrev P9:Stmt:=inClass (top 23) 11
abbrev Qb:Stmt:=inClass (top 23) 6
abbrev Lc:Stmt:=inClass (top 23) 7
abbrev Gf:Stmt:=inClass (top 23) 9
abbrev Ic:Stmt:=inClass (top 23) 10
abbrev Ea:Stmt:=inClass (top 23) 12
abbrev Dg:Stmt:=inClass (top 23) 14
abbrev Ib:Stmt:=inClass (top 23) 15
abbrev Qc:Stmt:=inClass (top 23) 16
abbrev Qf:Stmt:=inClass (top 23) 22
structure Nv(K:W.Frag)(mg:Str→Option Value)(C NL:Addr):Prop where
 cl:Cls K C
 nL:NoAttr K C "latest"
 nW:NoAttr K C "waiting"
 mgC:mg "Post"=some (.ref C)
 cNL:Ry K mg "NoLetter" NL
 list:mg "list"=none
def Ww(C:Addr):Sp:=fun vs H Q _=>∃(p dx:Addr),vs=[.ref p]∧H p=some (.ins C dx [])∧∀(d:Addr)(H':Hp),H d=none→PostAt C H' p d 0 []→(∀b o,H b=some o→b≠p→H' b=some o)→Q .non H'
def Lr(C:Addr):Sp:=fun vs H Q _=>∃(p d:Addr)(c:Int)(ls:List (Int×Addr))(k s g a:V),vs=[.ref p,k,s,g,a]∧PostAt C H p d c ls∧ls.length≤500 ∧
 ∀(t:Addr)(H':Hp),H t=none→H' t=some (.tup [.int (c+1),k,s,g,a])→PostAt C H' p d (c+1) (ls++[(c+1,t)])→(∀b o,H b=some o→b≠p→b≠d→H' b=some o)→Q (.int (c+1)) H'
def Lu(C:Addr):Sp:=fun vs H Q _=>∃(p d:Addr)(c:Int)(ls:List (Int×Addr)),vs=[.ref p]∧PostAt C H p d c ls ∧
 ∀(l:Addr)(H':Hp),H l=none→H' l=some (.lst (ls.map fun x=>V.ref x.2))→Bp H H'→Q (.ref l) H'
def Sh(C NL:Addr):Sp:=fun vs H Q E=>∃(p d:Addr)(c:Int)(ls:List (Int×Addr))(n:Int),vs=[.ref p,.int n]∧PostAt C H p d c ls ∧
 ((∃(l1 l2:List (Int×Addr))(t:Addr),ls=l1++(n,t)::l2∧∀(H':Hp),PostAt C H' p d c (l1++l2)→(∀b o,H b=some o→b≠d→H' b=some o)→Q (.ref t) H')∨((∀l∈ls,l.1≠n)∧E (.ref NL) none H))
section
variable {P:Program}{w:World}{K:W.Frag}{mg:Str→Option Value}{base:Heap}
theorem Jhw:Ao ["self"] ["self"] (Aj Ql):={}
theorem Ja8{f C NL:Addr}{fd:FuncData}(F:Fun K "__init__" "Post.__init__" Ql f fd)(T:Nv K mg C NL):EX0 P w K mg base 1 f fd ["self"] (Ww C):=by
 refine F.ok Jhw (fun vs H Q E h=>?_) (fun cdv A outer s H vs Q E hr h=>?_)
 ·obtain⟨p,dx,rfl,_⟩:=h
  rfl
 ·obtain⟨p,dx,rfl,hp,k⟩:=h
  refine⟨_,Ac (Dh (pv 0) Ag rfl) (Af (Dh (pv 0) F0 rfl)),?_⟩
  refine⟨_,rfl,p,C,dx,[],rfl,hp,T.cl,T.nL,(by show 0<1000;decide),?_⟩
  intro d hd
  have hpd:p≠d:=fun z=>by rw[←z,Ab] at hd;cases hd
  have hd':H d=none:=by rw[Ad (Ne.symm hpd)] at hd;exact hd
  refine⟨_,rfl,p,C,dx,_,rfl,(by rw[Ad hpd];exact Ab),T.cl,T.nW,(by show 1<1000;decide),?_⟩
  refine k d _ hd' ⟨⟨dx,Ab⟩,by rw[Ad (Ne.symm hpd),Ab];rfl,fun l hl=>by simp at hl,List.nodup_nil⟩ fun b o e hb=>?_
  rw[Ad hb,Ad (Am e hd'),Ad hb]
  exact e
theorem Jhu:Ao ["self","kind","sender","goal","about"] ["self","kind","sender","goal","about"] (Aj Og):={}
theorem Qx{f C NL:Addr}{fd:FuncData}(F:Fun K "put" "Post.put" Og f fd)(T:Nv K mg C NL):EX0 P w K mg base 1 f fd ["self","kind","sender","goal","about"] (Lr C):=by
 refine F.ok Jhu (fun vs H Q E h=>?_) (fun cdv A outer s H vs Q E hr h=>?_)
 ·obtain⟨p,d,c,ls,k,s,g,a,rfl,_⟩:=h
  rfl
 ·obtain⟨p,d,c,ls,kk,ss,gg,aa,rfl,S,hl,k⟩:=h
  have hu:=Cm hr
  obtain⟨⟨dx,h1⟩,hd,le,nd⟩:=id S
  have npd:p≠d:=S.ne
  refine⟨_,Ac (Ca (pv 0) Ag C9)
   (Ac (C5 hu (Aw (pv 0) rfl) (Aw (pv 0) rfl) (Bn (Aa (Aw (pv 0) rfl) (Aa (pv 1) (Aa (pv 2) (Aa (pv 3) (Aa (pv 4) Ae)))))) rfl)
   (Af (Ar (Aw (pv 0) rfl)))),?_⟩
  refine⟨_,rfl,p,C,dx,_,_,rfl,h1,T.cl,T.nL,D7 _ _,_,_,rfl,rfl,dx,_,h1,(by rw[L6];show 2<1000;decide),?_⟩
  rw[Yo]
  have h2:(upd H p (.ins C dx (D5 (c+1) d))) p=some (.ins C dx (D5 (c+1) d)):=Ab
  have d2:(upd H p (.ins C dx (D5 (c+1) d))) d=some (.dK (kvsOf ls)):=by rw[Ad npd.symm];exact hd
  refine⟨_,rfl,p,C,dx,_,_,rfl,h2,T.cl,T.nL,D7 _ _,_,rfl,_,rfl,_,rfl,_,rfl,(by show 5≤sizeLine;decide),?_⟩
  intro t ht
  have npt:p≠t:=Am h2 ht
  have ndt:d≠t:=Am d2 ht
  have ht':H t=none:=by rw[Ad npt.symm] at ht;exact ht
  have h3:∀o,(upd (upd H p (.ins C dx (D5 (c+1) d))) t o) p=some (.ins C dx (D5 (c+1) d)):=fun o=>by rw[Ad npt];exact h2
  have d3:∀o,(upd (upd H p (.ins C dx (D5 (c+1) d))) t o) d=some (.dK (kvsOf ls)):=fun o=>by rw[Ad ndt];exact d2
  refine⟨_,rfl,p,C,dx,_,_,rfl,h3 _,T.cl,T.nW,D0 _ _,_,rfl,p,C,dx,_,_,rfl,h3 _,T.cl,T.nL,D7 _ _,d,_,rfl,DPut.k (k:=Sum.inl (c+1)) (d3 _) (by rw[Xp];exact A3 (by omega)),?_⟩
  have hnew:Cw (kvsOf ls) (Sum.inl (c+1):Key)=none:=by
   rw[Gq,List.find?_eq_none.mpr fun l hl=>by have:=le l hl;simp;omega]
   rfl
  have eput:putK (kvsOf ls) (Sum.inl (c+1):Key) (V.ref t)=kvsOf (ls++[(c+1,t)]):=by
   rw[Ef _ hnew]
   unfold kvsOf
   rw[ZF]
   rfl
  rw[eput]
  refine⟨_,rfl,p,C,dx,_,_,rfl,(by rw[Ad npd];exact h3 _),T.cl,T.nL,D7 _ _,?_⟩
  refine k t _ ht' (by rw[Ad ndt.symm,Ab]) ⟨⟨dx,by rw[Ad npd];exact h3 _⟩,Ab,fun l hl=>?_,?_⟩ fun b o e hp hb=>?_
  ·rcases ZI hl with hl|hl
   ·have:=le l hl;omega
   ·have e:l=(c+1,t):=by simpa using hl
    rw[e]
    exact Int.le_refl _
  ·rw[ZF]
   refine Er nd fun m=>?_
   obtain⟨l,hl,e⟩:=ZN m
   have:=le l hl
   have e':l.1=c+1:=e
   omega
  ·rw[Ad hb,Ad (Am e ht'),Ad hp]
   exact e
theorem Jhv:Ao ["self"] ["self"] (Aj Gg):={}
theorem Tr{f C NL:Addr}{fd:FuncData}(F:Fun K "letters" "Post.letters" Gg f fd)(T:Nv K mg C NL):EX0 P w K mg base 1 f fd ["self"] (Lu C):=by
 refine F.ok Jhv (fun vs H Q E h=>?_) (fun cdv A outer s H vs Q E hr h=>?_)
 ·obtain⟨p,d,c,ls,rfl,_⟩:=h
  rfl
 ·obtain⟨p,d,c,ls,rfl,S,k⟩:=h
  obtain⟨⟨dx,h1⟩,hd,le,nd⟩:=id S
  refine⟨_,Af (Ar (Cu (Kg rfl) (by rfl) T.list PyProof.Rows.boot_list (Aa (Qs PySem.F.plainAttrs_dict PySem.F.slot_dict_values PySem.F.type_dict_values Yu (Aw (pv 0) rfl)) Ae))),?_⟩
  refine⟨_,rfl,p,C,dx,_,_,rfl,h1,T.cl,T.nW,D0 _ _,(.inr (.inr (.inl ⟨rfl,.inl ⟨_,hd⟩⟩))),d,_,rfl,rfl,hd,fun v hv=>?_⟩
  have ndv:d≠v:=Am hd hv
  refine⟨v,d,_,rfl,Ab,by rw[Ad ndv];exact hd,fun l hl=>?_⟩
  have nvl:l≠v:=fun z=>by rw[z,Ab] at hl;cases hl
  have hl':H l=none:=by rw[Ad nvl] at hl;exact hl
  refine k l _ hl' (by rw[Ab];unfold kvsOf;rw[List.map_map];rfl) fun b o e=>?_
  rw[Ad (Am e hl'),Ad (Am e hv)]
  exact e
theorem Jht:Ao ["self","n"] ["self","n"] (Aj Ld):={}
theorem Yr{f C NL:Addr}{fd:FuncData}(F:Fun K "taken" "Post.taken" Ld f fd)(T:Nv K mg C NL):EX1 P w K mg base 1 f fd ["self","n"] (Sh C NL):=by
 refine ok1 F Jht (fun vs H Q E h=>?_) (fun cdv A outer s H vs Q E hr h=>?_)
 ·obtain⟨p,d,c,ls,n,rfl,_⟩:=h
  rfl
 ·obtain⟨p,d,c,ls,n,rfl,S,k⟩:=h
  have hu:=Cm hr
  obtain⟨⟨dx,h1⟩,hd,le,nd⟩:=id S
  have npd:p≠d:=S.ne
  refine⟨_,Ac (A9 (Eh (Ec hu (pv 1) (Aw (pv 0) rfl))) (Af (E6 rfl rfl T.cNL Ff)) Ax)
   (Af (Ar (Tj (Aw (pv 0) rfl) (pv 1) ⟨rfl,rfl,rfl,rfl⟩))),?_⟩
  refine⟨_,rfl,_,rfl,p,C,dx,_,_,rfl,h1,T.cl,T.nW,D0 _ _,d,_,rfl,DGet.k (k:=Sum.inl n) hd,_,rfl,?_⟩
  rcases k with⟨l1,l2,t,rfl,k⟩|⟨hno,k⟩
  ·have ev:Cw (kvsOf (l1++(n,t)::l2)) (Sum.inl n:Key)=some (.ref t):=by rw[Gq,Na nd];rfl
   rw[ev]
   refine B0 ?_
   refine⟨_,rfl,p,C,dx,_,_,rfl,h1,T.cl,T.nW,D0 _ _,d,rfl,.inl ⟨_,.inl hd⟩,_,rfl,_,Sum.inl n,_,hd,rfl,ev,?_⟩
   rw[Us nd]
   refine k _ ⟨⟨dx,by rw[Ad npd];exact h1⟩,Ab,fun l hl=>le l ?_,?_⟩ fun b o e hb=>by rw[Ad hb];exact e
   ·rcases ZI hl with hl|hl
    ·exact ZB _ hl
    ·exact ZC _ (ZD _ hl)
   ·rw[ZF,List.map_cons] at nd
    rw[ZF]
    refine List.nodup_append.mpr ⟨(List.nodup_append.mp nd).1,(List.nodup_cons.mp (List.nodup_append.mp nd).2.1).2,fun a ha b hb=>(List.nodup_append.mp nd).2.2 a ha b (ZD _ hb)⟩
  ·have ev:Cw (kvsOf ls) (Sum.inl n:Key)=none:=by
    rw[Gq,List.find?_eq_none.mpr fun l hl=>by simpa using hno l hl]
    rfl
   rw[ev]
   exact Cd k
end
section
variable {P:Program}{w:World}{K:W.Frag}{mg:Str→Option Value}{base:Heap}{C NHd NNr MI NW:Addr}
def Ws(C:Addr):Sp:=fun vs H Q _=>∃(p t:Addr)(G:HGh)(th:T2),vs=[.ref p,.ref t]∧HouseAt C H p G∧H t=some (.tup (tv th))∧Q (.bl (decide ((G.recs.find? (fun q=>decide (q.1=th))).map (·.2)=some 0))) H
theorem Jhq:Ao ["self","thing"] ["self","thing"] (Aj Qi):={}
theorem Ja6{f:Addr}{fd:FuncData}(F:Fun K "is_spent" "House.is_spent" Qi f fd)(T:Txt K mg C NHd NNr MI NW):EX0 P w K mg base 1 f fd ["self","thing"] (Ws C):=by
 refine F.ok Jhq (fun vs H Q E h=>?_) (fun cdv A outer s H vs Q E hr h=>?_)
 ·obtain⟨p,t,G,th,rfl,_⟩:=h
  rfl
 ·obtain⟨p,t,G,th,rfl,S,ht,k⟩:=h
  have hu:=Cm hr
  obtain⟨dx,hp⟩:=S.ob
  refine⟨_,Af (Ar (Lf Bx (Jas hu (Aw (pv 0) rfl) (pv 1) ⟨rfl,rfl,rfl,rfl⟩) Ag (A0 _))),?_⟩
  refine⟨_,rfl,p,C,dx,_,_,rfl,hp,T.cl,T.nR,Cj G,G.r,rfl,.inr ⟨_,.inl S.dr⟩,_,rfl,_,Et S.dr ht,?_⟩
  cases e:(G.recs.find? fun q=>decide (q.1=th)) with
  | none =>
    rw[e] at k
    exact⟨rfl,k⟩
  | some q =>
    rw[e] at k
    refine⟨rfl,?_⟩
    have e2:decide (V.int q.2=V.int 0)=decide ((some q).map (·.2)=some (0:Int)):=by simp
    show Q (V.bl (decide (V.int q.2=V.int 0))) H
    rw[e2]
    exact k
end
structure En(K:W.Frag)(mg:Str→Option Value)(C NH NI:Addr):Prop where
 cl:Cls K C
 nS:NoAttr K C "share"
 nH:NoAttr K C "houses"
 nP:NoAttr K C "post"
 nI:NoAttr K C "inquiries"
 nF:NoAttr K C "finds"
 nE:NoAttr K C "enclosed"
 mgC:mg "World"=some (.ref C)
 cNH:Ry K mg "NoHouse" NH
section
variable {P:Program}{w:World}{K:W.Frag}{mg:Str→Option Value}{base:Heap}{CW C CP NH NI NL NHd NNr MI NW:Addr}
def De(CW C CP NH:Addr):Sp:=fun vs H Q E=>∃(p:Addr)(h:Int)(W:WGh),vs=[.ref p,.int h]∧WorldAt CW C CP H p W∧((U4 W h∧E (.ref NH) none H)∨∃q G,InW W h q G∧Q (.ref q) H)
theorem Jaa:Ao ["self","h"] ["self","h"] (Aj Dg):={}
theorem C6{f:Addr}{fd:FuncData}(F:Fun K "house" "World.house" Dg f fd)(T:Txt K mg C NHd NNr MI NW)(TW:En K mg CW NH NI):EX1 P w K mg base 1 f fd ["self","h"] (De CW C CP NH):=by
 refine ok1 F Jaa (fun vs H Q E h=>?_) (fun cdv A outer s H vs Q E hr h=>?_)
 ·obtain⟨p,h,W,rfl,_⟩:=h
  rfl
 ·obtain⟨p,h,W,rfl,S,k⟩:=h
  obtain⟨dx,hp⟩:=S.ob
  refine⟨_,Ac (A9 (Ji7 (Oh (Au To (pv 1) Ag (A0 _)) (Jx (Au Jgr (pv 1) (Bv Br (by rfl) T.len PySem.boot_len (Aa (Aw (pv 0) rfl) Ae)) (A0 _))))) (Af (E6 rfl rfl TW.cNH Ff)) Ax)
   (Af (Ar (Av Cz (Aw (pv 0) rfl) (pv 1)))),?_⟩
  have e0:((W.qs.map fun q=>V.ref q.1).length:Int)=W.qs.length:=by simp
  refine⟨_,rfl,_,_,rfl,rfl,_,rfl,?_⟩
  rcases k with⟨o,k⟩|⟨q,G,i,k⟩
  ·refine Ue (fun _=>Cd k) (fun c=>?_)
   have c:¬h<0:=fun z=>c (decide_eq_true z)
   refine⟨_,rfl,_,rfl,p,CW,dx,_,_,rfl,hp,TW.cl,TW.nH,Ez W,W.hs,_,rfl,.inl (SqL.of S.hs),_,_,rfl,rfl,_,rfl,?_⟩
   rw[e0,decide_eq_true (show(W.qs.length:Int)≤h from o.resolve_left c)]
   exact Cd k
  ·obtain⟨i1,i2⟩:=i.lt
   rw[decide_eq_false (show ¬h<0 by omega)]
   refine B0 ?_
   refine⟨_,rfl,_,rfl,p,CW,dx,_,_,rfl,hp,TW.cl,TW.nH,Ez W,W.hs,_,rfl,.inl (SqL.of S.hs),_,_,rfl,rfl,_,rfl,?_⟩
   rw[e0,decide_eq_false (show ¬(W.qs.length:Int)≤h by omega)]
   refine B0 ?_
   exact⟨_,rfl,p,CW,dx,_,_,rfl,hp,TW.cl,TW.nH,Ez W,_,rfl,W.hs,_,_,_,rfl,rfl,SqL.of S.hs,i.atI,k⟩
def Pw(CW C CP NH:Addr):Sp:=fun vs H Q E=>∃(p:Addr)(h:Int)(W:WGh),vs=[.ref p,.int h]∧WorldAt CW C CP H p W∧((U4 W h∧E (.ref NH) none H)∨∃q G,InW W h q G∧Jr C [.ref q] H Q E)
theorem Jcn:Ao ["self","h"] ["self","h"] (Aj Qd):={}
theorem Jaz{f fH f1:Addr}{fd dH d1:FuncData}(F:Fun K "make" "World.make" Qd f fd)(T:Txt K mg C NHd NNr MI NW)(TW:En K mg CW NH NI)(MH:Mth K CW "house" "World.house" Dg ["self","h"] fH dH)(M1:Mth K C "make" "House.make" Sq ["self"] f1 d1)(G1:EX1 P w K mg base 1 f1 d1 ["self"] (Jr C)):EX1 P w K mg base 2 f fd ["self","h"] (Pw CW C CP NH):=by
 have GH:EX1 P w K mg base 1 fH dH ["self","h"] (De CW C CP NH):=C6 MH.fn T TW
 refine ok1 F Jcn (fun vs H Q E h=>?_) (fun cdv A outer s H vs Q E hr h=>?_)
 ·obtain⟨p,h,W,rfl,_⟩:=h
  rfl
 ·obtain⟨p,h,W,rfl,S,k⟩:=h
  have hr1:Room 1 _:=hr.mono (by decide)
  obtain⟨dx,hp⟩:=S.ob
  refine⟨_,Af (Ar (Cg (pl:=_) (Ap (pl:=_) (pv 0) TW.cl MH.mt GH hr1 MH.bd .nil Bb (Aa (pv 1) Ae)) T.cl M1.mt G1 hr M1.bd .nil Bb)),?_⟩
  refine⟨_,rfl,p,dx,_,rfl,hp,Dj W (by decide +kernel),_,rfl,p,h,W,rfl,S,?_⟩
  rcases k with k|⟨q,G,i,k⟩
  ·exact .inl k
  ·obtain⟨dx1,hq⟩:=(i.at S).ob
   exact .inr ⟨q,G,i,q,dx1,_,rfl,hq,Bk G (by decide +kernel),k⟩
def Px(CW C CP NH NHd NNr:Addr):Sp:=fun vs H Q E=>∃(p:Addr)(h:Int)(va vb:V)(W:WGh),vs=[.ref p,.int h,va,vb]∧WorldAt CW C CP H p W∧((U4 W h∧E (.ref NH) none H)∨∃q G,InW W h q G∧Js C NHd NNr [.ref q,va,vb] H (fun _ H'=>Q .non H') E)
theorem Jcp:Ao ["self","h","a","b"] ["self","h","a","b"] (Aj Qe):={}
theorem Ja1{f fH f1:Addr}{fd dH d1:FuncData}(F:Fun K "hold" "World.hold" Qe f fd)(T:Txt K mg C NHd NNr MI NW)(TW:En K mg CW NH NI)(MH:Mth K CW "house" "World.house" Dg ["self","h"] fH dH)(M1:Mth K C "hold" "House.hold" Ss ["self","a","b"] f1 d1)(G1:EX1 P w K mg base 3 f1 d1 ["self","a","b"] (Js C NHd NNr)):EX1 P w K mg base 4 f fd ["self","h","a","b"] (Px CW C CP NH NHd NNr):=by
 have GH:EX1 P w K mg base 1 fH dH ["self","h"] (De CW C CP NH):=C6 MH.fn T TW
 refine ok1 F Jcp (fun vs H Q E h=>?_) (fun cdv A outer s H vs Q E hr h=>?_)
 ·obtain⟨p,h,va,vb,W,rfl,_⟩:=h
  rfl
 ·obtain⟨p,h,va,vb,W,rfl,S,k⟩:=h
  have hr1:Room 1 _:=hr.mono (by decide)
  obtain⟨dx,hp⟩:=S.ob
  refine⟨_,Af (A7 (Ap (pl:=_) (Ap (pl:=_) (pv 0) TW.cl MH.mt GH hr1 MH.bd .nil Bb (Aa (pv 1) Ae)) T.cl M1.mt G1 hr M1.bd .nil Bb (Aa (pv 2) (Aa (pv 3) Ae)))),?_⟩
  refine⟨_,rfl,p,dx,_,rfl,hp,Dj W (by decide +kernel),_,rfl,p,h,W,rfl,S,?_⟩
  rcases k with k|⟨q,G,i,k⟩
  ·exact .inl k
  ·obtain⟨dx1,hq⟩:=(i.at S).ob
   exact .inr ⟨q,G,i,q,dx1,_,rfl,hq,Bk G (by decide +kernel),_,rfl,_,rfl,k⟩
def Pz(CW C CP NH NHd NNr MI:Addr):Sp:=fun vs H Q E=>∃(p:Addr)(h:Int)(va vb:V)(W:WGh),vs=[.ref p,.int h,va,vb]∧WorldAt CW C CP H p W∧((U4 W h∧E (.ref NH) none H)∨∃q G,InW W h q G∧Ju C NHd NNr MI [.ref q,va,vb] H (fun _ H'=>Q .non H') E)
theorem Jcs:Ao ["self","h","a","b"] ["self","h","a","b"] (Aj Qh):={}
theorem Ja4{f fH f1:Addr}{fd dH d1:FuncData}(F:Fun K "drop" "World.drop" Qh f fd)(T:Txt K mg C NHd NNr MI NW)(TW:En K mg CW NH NI)(MH:Mth K CW "house" "World.house" Dg ["self","h"] fH dH)(M1:Mth K C "drop" "House.drop" Sv ["self","a","b"] f1 d1)(G1:EX1 P w K mg base 4 f1 d1 ["self","a","b"] (Ju C NHd NNr MI)):EX1 P w K mg base 5 f fd ["self","h","a","b"] (Pz CW C CP NH NHd NNr MI):=by
 have GH:EX1 P w K mg base 1 fH dH ["self","h"] (De CW C CP NH):=C6 MH.fn T TW
 refine ok1 F Jcs (fun vs H Q E h=>?_) (fun cdv A outer s H vs Q E hr h=>?_)
 ·obtain⟨p,h,va,vb,W,rfl,_⟩:=h
  rfl
 ·obtain⟨p,h,va,vb,W,rfl,S,k⟩:=h
  have hr1:Room 1 _:=hr.mono (by decide)
  obtain⟨dx,hp⟩:=S.ob
  refine⟨_,Af (A7 (Ap (pl:=_) (Ap (pl:=_) (pv 0) TW.cl MH.mt GH hr1 MH.bd .nil Bb (Aa (pv 1) Ae)) T.cl M1.mt G1 hr M1.bd .nil Bb (Aa (pv 2) (Aa (pv 3) Ae)))),?_⟩
  refine⟨_,rfl,p,dx,_,rfl,hp,Dj W (by decide +kernel),_,rfl,p,h,W,rfl,S,?_⟩
  rcases k with k|⟨q,G,i,k⟩
  ·exact .inl k
  ·obtain⟨dx1,hq⟩:=(i.at S).ob
   exact .inr ⟨q,G,i,q,dx1,_,rfl,hq,Bk G (by decide +kernel),_,rfl,_,rfl,k⟩
def Pu(CW C CP NH NHd NNr MI:Addr):Sp:=fun vs H Q E=>∃(p:Addr)(h:Int)(va vb:V)(W:WGh),vs=[.ref p,.int h,va,vb]∧WorldAt CW C CP H p W∧((U4 W h∧E (.ref NH) none H)∨∃q G,InW W h q G∧Jq C NHd NNr MI [.ref q,va,vb] H (fun _ H'=>Q .non H') E)
theorem Jcm:Ao ["self","h","a","b"] ["self","h","a","b"] (Aj Qa):={}
theorem Jaw{f fH f1:Addr}{fd dH d1:FuncData}(F:Fun K "take" "World.take" Qa f fd)(T:Txt K mg C NHd NNr MI NW)(TW:En K mg CW NH NI)(MH:Mth K CW "house" "World.house" Dg ["self","h"] fH dH)(M1:Mth K C "take" "House.take" Sn ["self","a","b"] f1 d1)(G1:EX1 P w K mg base 4 f1 d1 ["self","a","b"] (Jq C NHd NNr MI)):EX1 P w K mg base 5 f fd ["self","h","a","b"] (Pu CW C CP NH NHd NNr MI):=by
 have GH:EX1 P w K mg base 1 fH dH ["self","h"] (De CW C CP NH):=C6 MH.fn T TW
 refine ok1 F Jcm (fun vs H Q E h=>?_) (fun cdv A outer s H vs Q E hr h=>?_)
 ·obtain⟨p,h,va,vb,W,rfl,_⟩:=h
  rfl
 ·obtain⟨p,h,va,vb,W,rfl,S,k⟩:=h
  have hr1:Room 1 _:=hr.mono (by decide)
  obtain⟨dx,hp⟩:=S.ob
  refine⟨_,Af (A7 (Ap (pl:=_) (Ap (pl:=_) (pv 0) TW.cl MH.mt GH hr1 MH.bd .nil Bb (Aa (pv 1) Ae)) T.cl M1.mt G1 hr M1.bd .nil Bb (Aa (pv 2) (Aa (pv 3) Ae)))),?_⟩
  refine⟨_,rfl,p,dx,_,rfl,hp,Dj W (by decide +kernel),_,rfl,p,h,W,rfl,S,?_⟩
  rcases k with k|⟨q,G,i,k⟩
  ·exact .inl k
  ·obtain⟨dx1,hq⟩:=(i.at S).ob
   exact .inr ⟨q,G,i,q,dx1,_,rfl,hq,Bk G (by decide +kernel),_,rfl,_,rfl,k⟩
def Py(CW C CP NH NHd:Addr):Sp:=fun vs H Q E=>∃(p:Addr)(h:Int)(vb:V)(W:WGh),vs=[.ref p,.int h,vb]∧WorldAt CW C CP H p W∧((U4 W h∧E (.ref NH) none H)∨∃q G,InW W h q G∧Jt C NHd [.ref q,vb] H (fun _ H'=>Q .non H') E)
theorem Jcr:Ao ["self","h","b"] ["self","h","b"] (Aj Qg):={}
theorem Ja3{f fH f1:Addr}{fd dH d1:FuncData}(F:Fun K "free" "World.free" Qg f fd)(T:Txt K mg C NHd NNr MI NW)(TW:En K mg CW NH NI)(MH:Mth K CW "house" "World.house" Dg ["self","h"] fH dH)(M1:Mth K C "free" "House.free" Su ["self","b"] f1 d1)(G1:EX1 P w K mg base 2 f1 d1 ["self","b"] (Jt C NHd)):EX1 P w K mg base 3 f fd ["self","h","b"] (Py CW C CP NH NHd):=by
 have GH:EX1 P w K mg base 1 fH dH ["self","h"] (De CW C CP NH):=C6 MH.fn T TW
 refine ok1 F Jcr (fun vs H Q E h=>?_) (fun cdv A outer s H vs Q E hr h=>?_)
 ·obtain⟨p,h,vb,W,rfl,_⟩:=h
  rfl
 ·obtain⟨p,h,vb,W,rfl,S,k⟩:=h
  have hr1:Room 1 _:=hr.mono (by decide)
  obtain⟨dx,hp⟩:=S.ob
  refine⟨_,Af (A7 (Ap (pl:=_) (Ap (pl:=_) (pv 0) TW.cl MH.mt GH hr1 MH.bd .nil Bb (Aa (pv 1) Ae)) T.cl M1.mt G1 hr M1.bd .nil Bb (Aa (pv 2) Ae))),?_⟩
  refine⟨_,rfl,p,dx,_,rfl,hp,Dj W (by decide +kernel),_,rfl,p,h,W,rfl,S,?_⟩
  rcases k with k|⟨q,G,i,k⟩
  ·exact .inl k
  ·obtain⟨dx1,hq⟩:=(i.at S).ob
   exact .inr ⟨q,G,i,q,dx1,_,rfl,hq,Bk G (by decide +kernel),_,rfl,k⟩
def E3(CW C CP NH:Addr)(K:W.Frag):Sp:=fun vs H Q E=>∃(p:Addr)(h:Int)(W:WGh),vs=[.ref p,.int h]∧WorldAt CW C CP H p W∧((U4 W h∧E (.ref NH) none H)∨∃q G,InW W h q G∧Fd C K [.ref q] H Q E)
theorem Z9:Ao ["self","h"] ["self","h"] (Aj Ic):={}
theorem Yp{f fH f1:Addr}{fd dH d1:FuncData}(F:Fun K "state" "World.state" Ic f fd)(T:Txt K mg C NHd NNr MI NW)(TW:En K mg CW NH NI)(MH:Mth K CW "house" "World.house" Dg ["self","h"] fH dH)(M1:Mth K C "state" "House.state" Jv ["self"] f1 d1)(G1:EX1 P w K mg base 2 f1 d1 ["self"] (Fd C K)):EX1 P w K mg base 3 f fd ["self","h"] (E3 CW C CP NH K):=by
 have GH:EX1 P w K mg base 1 fH dH ["self","h"] (De CW C CP NH):=C6 MH.fn T TW
 refine ok1 F Z9 (fun vs H Q E h=>?_) (fun cdv A outer s H vs Q E hr h=>?_)
 ·obtain⟨p,h,W,rfl,_⟩:=h
  rfl
 ·obtain⟨p,h,W,rfl,S,k⟩:=h
  have hr1:Room 1 _:=hr.mono (by decide)
  obtain⟨dx,hp⟩:=S.ob
  refine⟨_,Af (Ar (Cg (pl:=_) (Ap (pl:=_) (pv 0) TW.cl MH.mt GH hr1 MH.bd .nil Bb (Aa (pv 1) Ae)) T.cl M1.mt G1 hr M1.bd .nil Bb)),?_⟩
  refine⟨_,rfl,p,dx,_,rfl,hp,Dj W (by decide +kernel),_,rfl,p,h,W,rfl,S,?_⟩
  rcases k with k|⟨q,G,i,k⟩
  ·exact .inl k
  ·obtain⟨dx1,hq⟩:=(i.at S).ob
   exact .inr ⟨q,G,i,q,dx1,_,rfl,hq,Bk G (by decide +kernel),k⟩
def K5(CW C CP NH:Addr):Sp:=fun vs H Q E=>∃(p:Addr)(h:Int)(W:WGh),vs=[.ref p,.int h]∧WorldAt CW C CP H p W∧((U4 W h∧E (.ref NH) none H)∨∃q G,InW W h q G∧Lp C [.ref q] H Q E)
theorem Jcl:Ao ["self","h"] ["self","h"] (Aj P9):={}
theorem Jav{f fH f1:Addr}{fd dH d1:FuncData}(F:Fun K "tick" "World.tick" P9 f fd)(T:Txt K mg C NHd NNr MI NW)(TW:En K mg CW NH NI)(MH:Mth K CW "house" "World.house" Dg ["self","h"] fH dH)(M1:Mth K C "tick" "House.tick" Sm ["self"] f1 d1)(G1:EX1 P w K mg base 1 f1 d1 ["self"] (Lp C)):EX1 P w K mg base 2 f fd ["self","h"] (K5 CW C CP NH):=by
 have GH:EX1 P w K mg base 1 fH dH ["self","h"] (De CW C CP NH):=C6 MH.fn T TW
 refine ok1 F Jcl (fun vs H Q E h=>?_) (fun cdv A outer s H vs Q E hr h=>?_)
 ·obtain⟨p,h,W,rfl,_⟩:=h
  rfl
 ·obtain⟨p,h,W,rfl,S,k⟩:=h
  have hr1:Room 1 _:=hr.mono (by decide)
  obtain⟨dx,hp⟩:=S.ob
  refine⟨_,Af (Ar (Cg (pl:=_) (Ap (pl:=_) (pv 0) TW.cl MH.mt GH hr1 MH.bd .nil Bb (Aa (pv 1) Ae)) T.cl M1.mt G1 hr M1.bd .nil Bb)),?_⟩
  refine⟨_,rfl,p,dx,_,rfl,hp,Dj W (by decide +kernel),_,rfl,p,h,W,rfl,S,?_⟩
  rcases k with k|⟨q,G,i,k⟩
  ·exact .inl k
  ·obtain⟨dx1,hq⟩:=(i.at S).ob
   exact .inr ⟨q,G,i,q,dx1,_,rfl,hq,Bk G (by decide +kernel),k⟩
end
def gvO(G:HGh)(tb:T2)(wt:Int):List (T2×Int):=if tb∈G.outs.map (·.1) then Ba G.outs tb (Ai G.outs tb-wt) else G.outs
theorem Jd2{l:List (T2×Int)}{t:T2}(h:t∉l.map (·.1)):l.find? (fun q=>decide (q.1=t))=none:=List.find?_eq_none.mpr fun q hq=>by
 have:¬q.1=t:=fun z=>h (List.mem_map.mpr ⟨q,hq,z⟩)
 simpa using this
theorem Jd{H:Hp}{d t:Addr}{l:List (T2×Int)}{th:T2}{v:Int}(hd:H d=some (Ct l))(ht:H t=some (.tup (tv th)))(f:l.find? (fun q=>decide (q.1=th))=some (th,v)):DGet H d (.ref t) (some (V.int v)):=by
 have:=Et hd ht
 rw[f] at this
 exact this
section
variable {P:Program}{w:World}{K:W.Frag}{mg:Str→Option Value}{base:Heap}{C NHd NNr MI NW:Addr}
def P5(C:Addr):Sp:=fun vs H Q _=>∃(p b:Addr)(G:HGh)(tb:T2)(wt:Int),vs=[.ref p,.ref b,.int wt]∧HouseAt C H p G∧H b=some (.tup (tv tb))∧G.outs.length≤500∧Done C p G H { G with ticks:=G.ticks+1,outs:=gvO G tb wt } (Q .non)
theorem Jhz:Ao ["self","b","weight"] ["self","b","weight"] (Aj L0):={}
theorem Tt{f:Addr}{fd:FuncData}(F:Fun K "given" "House.given" L0 f fd)(T:Txt K mg C NHd NNr MI NW):EX0 P w K mg base 1 f fd ["self","b","weight"] (P5 C):=by
 refine F.ok Jhz (fun vs H Q E h=>?_) (fun cdv A outer s H vs Q E hr h=>?_)
 ·obtain⟨p,b,G,tb,wt,rfl,_⟩:=h
  rfl
 ·obtain⟨p,b,G,tb,wt,rfl,S,hb,z,k⟩:=h
  have hu:=Cm hr
  obtain⟨dx,hp⟩:=S.ob
  refine⟨_,Ac (A9 (Eh (Qt hu (pv 1) (Aw (pv 0) rfl))) (Af (Iq hu (Aw (pv 0) rfl) (pv 1) (pv 2) Jbr (fun _ _ _=>rfl))) Ax) (Af (Ca (pv 0) Ag C9)),?_⟩
  refine⟨_,rfl,_,rfl,p,C,dx,_,_,rfl,hp,T.cl,T.nO,C0 G,G.o,_,rfl,Et S.dO hb,_,rfl,?_⟩
  by_cases h:tb∈G.outs.map (·.1)
  ·have fo:=F6 h
   rw[fo]
   refine Cd ?_
   have g1:DGet H G.o (.ref b) (some (V.int (Ai G.outs tb))):=Jd S.dO hb fo
   refine⟨_,rfl,p,C,dx,_,_,rfl,hp,T.cl,T.nO,C0 _,_,rfl,G.o,_,rfl,g1,_,rfl,_,_,rfl,rfl,_,DPut.t (k:=tk tb) S.dO hb (by rw[ZA];exact A3 (by lia)),?_⟩
   rw[Eg]
   have S1:HouseAt C (upd H G.o (Ct (Ba G.outs tb (Ai G.outs tb-wt)))) p { G with outs:=Ba G.outs tb (Ai G.outs tb-wt) }:=S.setOuts _
   obtain⟨dx1,hp1⟩:=S1.ob
   refine⟨_,rfl,p,C,dx1,_,_,rfl,hp1,T.cl,T.nT,B7 _,_,_,rfl,rfl,dx1,_,hp1,Da _,?_⟩
   rw[Bg]
   have e:gvO G tb wt=Ba G.outs tb (Ai G.outs tb-wt):=by unfold gvO;rw[if_pos h]
   rw[e] at k
   exact Dy (G1:={ G with outs:=Ba G.outs tb (Ai G.outs tb-wt) }) (by simp[foot]) rfl rfl S1 k
  ·rw[Jd2 h]
   refine B0 ?_
   have e:gvO G tb wt=G.outs:=by unfold gvO;rw[if_neg h]
   rw[e] at k
   refine⟨_,rfl,p,C,dx,_,_,rfl,hp,T.cl,T.nT,B7 _,_,_,rfl,rfl,dx,_,hp,Da _,?_⟩
   rw[Bg]
   exact k _ (S.fld dx G.made (G.ticks+1)) fun b' o e h1 h2=>by rw[Ad h1];exact e
def psH(G:HGh)(tb:T2)(mine:Bool):List T2:=if mine=true then Bo G.hand tb else G.hand
def psO(G:HGh)(tb:T2)(sh:Int)(mine:Bool):List (T2×Int):=Ba G.outs tb (Ai G.outs tb+(if mine=true then sh-1 else 2*sh-1))
def Lq(C:Addr):Sp:=fun vs H Q _=>∃(p b:Addr)(G:HGh)(tb:T2)(sh:Int)(mine:Bool),vs=[.ref p,.ref b,.int sh,.bl mine]∧HouseAt C H p G∧H b=some (.tup (tv tb))∧G.outs.length≤500∧G.hand.length≤500∧tb∈G.outs.map (·.1) ∧
 Done C p G H { G with ticks:=G.ticks+1,hand:=psH G tb mine,outs:=psO G tb sh mine } (Q .non)
theorem Jhs:Ao ["self","b","share","mine"] ["self","b","share","mine"] (Aj Ie):={}
theorem Om{f:Addr}{fd:FuncData}(F:Fun K "passed" "House.passed" Ie f fd)(T:Txt K mg C NHd NNr MI NW):EX0 P w K mg base 1 f fd ["self","b","share","mine"] (Lq C):=by
 refine F.ok Jhs (fun vs H Q E h=>?_) (fun cdv A outer s H vs Q E hr h=>?_)
 ·obtain⟨p,b,G,tb,sh,mine,rfl,_⟩:=h
  rfl
 ·obtain⟨p,b,G,tb,sh,mine,rfl,S,hb,z1,z2,h,k⟩:=h
  have hu:=Cm hr
  obtain⟨dx,hp⟩:=S.ob
  refine⟨_,Ac (A9 (Fh (pv 3)) (Ac (C5 hu (Aw (pv 0) rfl) (pv 1) Fp rfl) (Af (Iq hu (Aw (pv 0) rfl) (pv 1) (Bc Qu (pv 2) Ag) C9 (fun _ _ _=>rfl))))
   (Af (Iq hu (Aw (pv 0) rfl) (pv 1) (Bc Qu (Bc Ew Ag (pv 2)) Ag) C9 (fun _ _ _=>rfl)))) (Af (Ca (pv 0) Ag C9)),?_⟩
  have fo:=F6 h
  refine⟨_,rfl,mine,rfl,?_⟩
  cases mine with
  | true =>
    refine Cd ?_
    refine⟨_,rfl,p,C,dx,_,_,rfl,hp,T.cl,T.nH,D9 G,_,rfl,G.h,_,rfl,DPut.t (k:=tk tb) S.dh hb (by rw[ZA];exact A3 (by lia)),?_⟩
    rw[Eb]
    have S1:HouseAt C (upd H G.h (Bh (Bo G.hand tb))) p { G with hand:=Bo G.hand tb }:=S.setHand (Bo G.hand tb)
    have fr1:HFr p G H (upd H G.h (Bh (Bo G.hand tb))):=fun b' o e h1 h2=>by rw[Ad fun e'=>h2 (by rw[e'];simp[foot])];exact e
    have b1:=fr1 _ _ hb (S.tup_ne hb).1 (S.tup_ne hb).2
    rw[show(HO.dT ((Bo G.hand tb).map fun q=>(tk q,V.bl true)))=Bh (Bo G.hand tb) from rfl]
    generalize (upd H G.h (Bh (Bo G.hand tb)))=H1 at S1 fr1 b1
    obtain⟨dx1,hp1⟩:=S1.ob
    have g1:DGet H1 G.o (.ref b) (some (V.int (Ai G.outs tb))):=Jd S1.dO b1 fo
    refine⟨_,rfl,p,C,dx1,_,_,rfl,hp1,T.cl,T.nO,C0 _,_,rfl,G.o,_,rfl,g1,_,rfl,_,_,rfl,rfl,_,_,rfl,rfl,_,DPut.t (k:=tk tb) S1.dO b1 (by rw[ZA];exact A3 (by show G.outs.length≤1000;lia)),?_⟩
    rw[Eg]
    have S2:=S1.setOuts (Ba G.outs tb (Ai G.outs tb+(sh-1)))
    have fr2:HFr p G H (upd H1 G.o (Ct (Ba G.outs tb (Ai G.outs tb+(sh-1))))):=fun b' o' e h1 h2=>by rw[Ad fun e'=>h2 (by rw[e'];simp[foot])];exact fr1 _ _ e h1 h2
    obtain⟨dx2,hp2⟩:=S2.ob
    refine⟨_,rfl,p,C,dx2,_,_,rfl,hp2,T.cl,T.nT,B7 _,_,_,rfl,rfl,dx2,_,hp2,Da _,?_⟩
    rw[Bg]
    exact k _ (S2.fld dx2 G.made (G.ticks+1)) fun b' o e h1 h2=>by rw[Ad h1];exact fr2 _ _ e h1 h2
  | false =>
    refine B0 ?_
    have g1:DGet H G.o (.ref b) (some (V.int (Ai G.outs tb))):=Jd S.dO hb fo
    refine⟨_,rfl,p,C,dx,_,_,rfl,hp,T.cl,T.nO,C0 _,_,rfl,G.o,_,rfl,g1,_,rfl,_,_,rfl,rfl,.inl ⟨by decide,by decide⟩,_,_,rfl,rfl,_,_,rfl,rfl,_,DPut.t (k:=tk tb) S.dO hb (by rw[ZA];exact A3 (by lia)),?_⟩
    rw[Eg]
    have S1:HouseAt C (upd H G.o (Ct (Ba G.outs tb (Ai G.outs tb+(2*sh-1))))) p { G with outs:=Ba G.outs tb (Ai G.outs tb+(2*sh-1)) }:=S.setOuts _
    obtain⟨dx1,hp1⟩:=S1.ob
    refine⟨_,rfl,p,C,dx1,_,_,rfl,hp1,T.cl,T.nT,B7 _,_,_,rfl,rfl,dx1,_,hp1,Da _,?_⟩
    rw[Bg]
    exact Dy (G1:={ G with outs:=Ba G.outs tb (Ai G.outs tb+(2*sh-1)) }) (by simp[foot]) rfl rfl S1 k
end
theorem Jcw{H:Hp}{d t:Addr}{l:List (T2×Addr×List T2)}{th:T2}{a:Addr}{hl:List T2}(hd:H d=some (Ji l))(ht:H t=some (.tup (tv th)))(f:l.find? (fun q=>decide (q.1=th))=some (th,a,hl)):DGet H d (.ref t) (some (V.ref a)):=by
 have:=DGet.t (k:=tk th) hd ht
 rw[Dp (k:=fun q:T2×Addr×List T2=>q.1) (f:=fun q=>V.ref q.2.1),f] at this
 exact this
structure Jb9(mg:Str→Option Value):Prop where
 dict:mg "dict"=none
 list:mg "list"=none
 max:mg "max"=none
section
variable {P:Program}{w:World}{K:W.Frag}{mg:Str→Option Value}{base:Heap}{C NHd NNr MI NW:Addr}
def Oe:Sp:=fun vs H Q _=>∃(sa l:Addr)(as:List Addr)(ts:List T2)(hl:HL)(n:Nat)(R:List T2),vs=[.ref sa,.ref l]∧H sa=some (.lst (as.map V.ref))∧ThsAt H as ts∧ts.length≤400∧H l=some (Ji hl)∧hl.length≤400 ∧
 (∀q∈hl,H q.2.1=some (Bh q.2.2)∧q.2.2.length≤400∧q.2.1≠l)∧Rch (nxT hl) n (ts.filter fun t=>decide (t∈hl.map (·.1))) [] R∧n≤5000∧∀(x:Addr)(H':Hp),H x=none→Bp H H'→H' x=some (Bh R)→Q (.ref x) H'
theorem scR:Ao ["starts","holds","found","thing","ahead"] ["starts","holds"] (Aj Id):={}
theorem Vr{f:Addr}{fd:FuncData}(F:Fun K "reached" "reached" Id f fd):EX0 P w K mg base 1 f fd ["starts","holds"] Oe:=by
 refine F.ok scR (fun vs H Q E h=>?_) (fun cdv A outer s H vs Q E hr h=>?_)
 ·obtain⟨sa,l,as,ts,hl,n,R,rfl,_⟩:=h
  rfl
 ·obtain⟨sa,l,as,ts,hl,n,R,rfl,es,th,zt,el,zl,hq,rch,zn,k⟩:=h
  have hu:=Cm hr
  refine⟨_,Ac (Az (i:=2) scR.nd rfl (Or.inl rfl) E7)
   (Ac (Ir (te:=Co 0) (i:=4) (caps:=[("holds",1)]) scR.nd rfl rfl rfl rfl (Dq (pv 0))
    rfl (by decide +kernel) rfl (by decide +kernel) rfl ⟨rfl,trivial⟩ (fun y h=>Rm ⟨_,rfl⟩ h) ⟨⟨rfl,rfl,rfl,rfl⟩,trivial⟩ (by decide +kernel) (fun _ _ _ _ _=>Fg (Eh (Qt hu (pv 0) (pv 1)))) (fun _ _ _ _ _=>pv 0))
   (Ac (Jai PassesOwn.never (Jag (pv 4) (fun _=>rfl))
    (Ac (Az (i:=3) scR.nd rfl (Or.inl rfl) (Qs PySem.F.plainAttrs_list PySem.F.slot_list_pop PySem.F.type_list_pop Jfm (pv 4)))
    (Af (A9 (Eh (Ec hu (pv 3) (pv 2)))
     (Ac (C5 hu (pv 2) (pv 3) Fp rfl)
     (Af (A7 (Kk PySem.F.plainAttrs_list PySem.F.slot_list_extend PySem.F.type_list_extend Yv (pv 4) (Aa (PE.thaw (Fj (te:=Co 0) (caps:=[("holds",1)]) rfl (Le (Be hu (pv 1) (pv 3)))
      rfl (by decide +kernel) rfl (by decide +kernel) rfl ⟨rfl,trivial⟩ (fun y h=>Rm ⟨_,rfl⟩ h) ⟨⟨rfl,rfl,rfl,rfl⟩,trivial⟩ (by decide +kernel) (fun _ _ _ _ _=>Fg (Eh (Qt hu (pv 0) (pv 1)))) (fun _ _ _ _ _=>pv 0))) Ae))))) Ax))))
   (Af (Ar (pv 2))))),?_⟩
  intro fa hfa
  have s1:=Ah (o:=.dT []) hfa
  have e1:(upd H fa (.dT [])) fa=some (Bh []):=Ab
  generalize upd H fa (.dT [])=H1 at s1 e1
  have th1:ThsAt H1 as ts:=ThsAt.keep (Ji0 s1) th
  refine⟨_,rfl,sa,rfl,⟨_,SqL.of (s1 _ _ es)⟩,fun aa haa=>?_⟩
  refine O4 (b:=fun t=>decide (t∈hl.map (·.1))) (caps:=[("holds",1)]) haa (by lia) (s1 _ _ es) th1 (fun H2 a t Q' sm ha ht q=>?_) fun H2 bs sm ea tb=>?_
  ·obtain⟨o,g,eo⟩:=Vz (k:=fun q:T2×Addr×List T2=>q.1) (f:=fun q=>V.ref q.2.1) (.inl (sm _ _ (s1 _ _ el))) ha
   refine⟨_,rfl,_,rfl,l,o,rfl,g,?_⟩
   rw[eo]
   exact⟨_,rfl,q⟩
  have naa:H aa=none:=by
   cases c:H aa with
   | none=>rfl
   | some o=>rw[s1 _ _ c] at haa;cases haa
  have nfa:fa≠aa:=fun z=>by rw[←z,e1] at haa;cases haa
  refine⟨fun m σ H'=>∃(ahead found:List T2)(as':List Addr)(u3:Option V),σ=[some (.ref sa),some (.ref l),some (.ref fa),u3,some (.ref aa)]∧Bp H H'∧H' fa=some (Bh found)∧H' aa=some (.lst (as'.map V.ref))∧ThsAt H' as' ahead∧Rch (nxT hl) m ahead found R∧found.length+m≤5000∧∀t∈ahead,t∈hl.map (·.1),
   ⟨n,_,[],bs,_,rfl,Ak s1 sm,sm _ _ e1,ea,tb,rch,by simpa using zn,fun t ht=>by have:=(List.mem_filter.mp ht).2;simpa using this⟩,?_⟩
  rintro m σ H' ⟨ahead,found,as',u3,rfl,sh,ef,ea',tha,rc,zm,hk⟩
  refine⟨_,rfl,_,.inl ⟨_,SqL.of ea',rfl⟩,?_⟩
  cases m with
  | zero =>
    obtain⟨e0,eR⟩:=rc
    rw[e0] at tha
    have e2:as'=[]:=List.length_eq_zero_iff.mp (Paired.length tha)
    rw[e2]
    refine B0 ⟨_,rfl,k fa H' hfa sh ?_⟩
    rw[eR];exact ef
  | succ m =>
    have zl1:=rc.len
    obtain⟨a,t,ea0,rc⟩:=rc
    rw[ea0] at tha zl1
    obtain⟨bs',c,e2,thb,ec⟩:=Zu tha
    subst e2
    have em:(bs'++[c]).map V.ref=bs'.map V.ref++[V.ref c]:=by rw[ZF];rfl
    rw[em] at ea' ⊢
    rw[show(!(bs'.map V.ref++[V.ref c]).isEmpty)=true by cases bs'<;>rfl]
    refine Cd ⟨_,fun σ' H' h=>⟨m,Nat.lt_succ_self m,h⟩,?_⟩
    refine⟨_,rfl,.inl ⟨rfl,_,SqL.of ea'⟩,aa,_,_,rfl,rfl,ea',Jdt _ _,?_⟩
    rw[show(bs'.map V.ref++[V.ref c]).dropLast=bs'.map V.ref by simp]
    have s3:Bp H (upd H' aa (.lst (bs'.map V.ref))):=fun b o e=>by rw[Ad (Am e naa)];exact sh _ _ e
    have kt3:KeepT H' (upd H' aa (.lst (bs'.map V.ref))):=Ji1 fun o' e=>by
     rw[ea'] at e;cases e;exact⟨fun _ z=>(by cases z),fun _ _ z=>(by cases z)⟩
    have ef3:(upd H' aa (.lst (bs'.map V.ref))) fa=some (Bh found):=by rw[Ad nfa];exact ef
    have ea3:(upd H' aa (.lst (bs'.map V.ref))) aa=some (.lst (bs'.map V.ref)):=Ab
    have thb3:ThsAt (upd H' aa (.lst (bs'.map V.ref))) bs' a:=ThsAt.keep kt3 thb
    have ec3:=kt3.tup _ _ ec
    generalize upd H' aa (.lst (bs'.map V.ref))=H3 at s3 kt3 ef3 ea3 thb3 ec3
    refine⟨_,rfl,_,rfl,fa,_,rfl,Jf ef3 ec3,_,rfl,?_⟩
    rcases rc with⟨hf,rc⟩|⟨hf,rc⟩
    ·rw[if_pos hf]
     exact B0 ⟨a,found,bs',_,rfl,s3,ef3,ea3,thb3,rc,by lia,fun u hu=>hk u (by rw[ea0];exact ZB _ hu)⟩
    ·rw[if_neg hf]
     refine Cd ⟨_,rfl,_,rfl,fa,_,rfl,DPut.t (k:=tk t) ef3 ec3 (by rw[ZA];exact Lw (by lia)),?_⟩
     rw[Eb,show Bo found t=found++[t] by unfold Bo;rw[if_neg hf]]
     have s4:Bp H (upd H3 fa (Bh (found++[t]))):=fun b o e=>by rw[Ad (Am e hfa)];exact s3 _ _ e
     have kt4:KeepT H3 (upd H3 fa (Bh (found++[t]))):=Ji1 fun o' e=>by
      rw[ef3] at e;cases e;exact⟨fun _ z=>(by cases z),fun _ _ z=>(by cases z)⟩
     have ef4:(upd H3 fa (Bh (found++[t]))) fa=some (Bh (found++[t])):=Ab
     have ea4:(upd H3 fa (Bh (found++[t]))) aa=some (.lst (bs'.map V.ref)):=by rw[Ad nfa.symm];exact ea3
     have thb4:ThsAt (upd H3 fa (Bh (found++[t]))) bs' a:=ThsAt.keep kt4 thb3
     have ec4:=kt4.tup _ _ ec3
     rw[show HO.dT ((found++[t]).map fun q=>(tk q,V.bl true))=Bh (found++[t]) from rfl]
     generalize upd H3 fa (Bh (found++[t]))=H4 at s4 kt4 ef4 ea4 thb4 ec4
     have tin:t∈hl.map (·.1):=hk t (by rw[ea0];exact ZC _ (by simp))
     obtain⟨ad,fd'⟩:=Rp tin
     have mq:=List.mem_of_find?_eq_some fd'
     obtain⟨q1,q2,q3⟩:=hq _ mq
     have q1:H ad=some (Bh (getH hl t)):=q1
     have q2:(getH hl t).length≤400:=q2
     have q3:ad≠l:=q3
     refine⟨_,rfl,.inl ⟨rfl,_,SqL.of ea4⟩,_,rfl,_,rfl,l,_,rfl,Jcw (s4 _ _ el) ec4 fd',ad,_,rfl,s4 _ _ q1,fun ob pl hpl=>?_⟩
     have naad:aa≠ad:=fun z=>by rw[z,q1] at naa;cases naa
     have nfad:fa≠ad:=fun z=>by rw[z,q1] at hfa;cases hfa
     refine Kd (b:=fun u=>decide (u∈hl.map (·.1))) (caps:=[("holds",1)]) (l:=getH hl t) (key:=fun q=>q) (val:=fun _=>V.bl true) (ob:=ob) hpl (by lia) Ab (fun H2 a' u Q' sm' ha hu' q=>?_) fun H5 bs2 sm5 ep5 th5=>?_
     ·obtain⟨o,g,eo⟩:=Vz (k:=fun q:T2×Addr×List T2=>q.1) (f:=fun q=>V.ref q.2.1) (.inl (sm' l (Ji hl) (by rw[Ad q3.symm];exact s4 _ _ el))) ha
      refine⟨_,rfl,_,rfl,l,o,rfl,g,?_⟩
      rw[eo]
      exact⟨_,rfl,q⟩
     ·have f5:H5 ad=some (.frz ob (Bh (getH hl t))):=sm5 _ _ Ab
      refine⟨upd H5 ad (Bh (getH hl t)),⟨ad,ob,_,f5,fun o v z=>?_,rfl⟩,?_⟩
      ·have z:H ad=some (.frz o v):=z
       rw[q1] at z;cases z
      have npl:pl≠ad:=fun z=>by rw[z,Ab] at hpl;cases hpl
      have s6:Bp H4 (upd H5 ad (Bh (getH hl t))):=fun b o e=>by
       by_cases hb:b=ad
       ·subst hb
        rw[s4 _ _ q1] at e
        rw[Ab];exact e
       ·rw[Ad hb]
        exact sm5 _ _ (by rw[Ad hb];exact e)
      have ep6:(upd H5 ad (Bh (getH hl t))) pl=some (.lst (bs2.map V.ref)):=by rw[Ad npl];exact ep5
      have th6:ThsAt (upd H5 ad (Bh (getH hl t))) bs2 (nxT hl t):=by
       have th5:ThsAt H5 bs2 (nxT hl t):=by rw[List.map_id'] at th5;exact th5
       refine Ay (fun b u e=>?_) th5
       rw[Ad fun z=>by rw[z,f5] at e;cases e];exact e
      generalize upd H5 ad (Bh (getH hl t))=H6 at s6 ep6 th6
      have zz:=rc.len
      rw[ZE] at zz
      have l1:=Paired.length thb4
      have l2:=Paired.length th6
      refine⟨aa,pl,_,_,rfl,rfl,s6 _ _ ea4,ep6,Nat.le_of_lt (Lw (by rw[ZA,ZA];lia)),?_⟩
      rw[←ZF]
      have kt7:KeepT H6 (upd H6 aa (.lst ((bs'++bs2).map V.ref))):=Ji1 fun o' e=>by
       rw[s6 _ _ ea4] at e;cases e;exact⟨fun _ z=>(by cases z),fun _ _ z=>(by cases z)⟩
      refine⟨a++nxT hl t,found++[t],bs'++bs2,_,rfl,fun b o e=>?_,?_,Ab,ThsAt.keep kt7 (Po (ThsAt.keep (Ji0 s6) thb4) th6),rc,?_,fun u hu=>?_⟩
      ·rw[Ad (Am e naa)];exact s6 _ _ (s4 _ _ e)
      ·rw[Ad nfa];exact s6 _ _ ef4
      ·rw[ZE];show found.length+1+m≤5000;lia
      ·rcases ZI hu with hu|hu
       ·exact hk u (by rw[ea0];exact ZB _ hu)
       ·have:=(List.mem_filter.mp hu).2;simpa using this
def Z3(C:Addr):Sp:=fun vs H Q _=>∃(p ta:Addr)(G:HGh)(as:List Addr)(ts:List T2),vs=[.ref p,.ref ta]∧HouseAt C H p G∧G.holds.map (·.1)=G.outs.map (·.1)∧H ta=some (.lst (as.map V.ref))∧ThsAt H as ts∧Done C p G H (Bl G ts) (Q .non)
theorem scLo:Ao ["self","things","thing"] ["self","things"] (Aj Xb):={}
theorem Jde{f:Addr}{fd:FuncData}(F:Fun K "lose" "House.lose" Xb f fd)(T:Txt K mg C NHd NNr MI NW):EX0 P w K mg base 1 f fd ["self","things"] (Z3 C):=by
 refine F.ok scLo (fun vs H Q E h=>?_) (fun cdv A outer s H vs Q E hr h=>?_)
 ·obtain⟨p,ta,G,as,ts,rfl,_⟩:=h
  rfl
 ·obtain⟨p,ta,G,as,ts,rfl,S,ke,et,th,k⟩:=h
  have hu:=Cm hr
  have lt:=Paired.length th
  refine⟨_,Af (Ho PassesOwn.never rfl (Dq (pv 1)) (Bq (i:=2) scLo.nd rfl (Or.inl rfl))
   (Af (A9 (Eh (Qt hu (pv 2) (Aw (pv 0) rfl))) (Ac (A7 (Fz hu (Aw (pv 0) rfl) (pv 2) ⟨rfl,rfl,rfl,rfl⟩)) (Af (A7 (Fz hu (Aw (pv 0) rfl) (pv 2) ⟨rfl,rfl,rfl,rfl⟩)))) Ax))),?_⟩
  refine⟨_,rfl,ta,rfl,⟨_,SqL.of et⟩,?_⟩
  refine Jg (K:=K) (a:=ta) (xs:=as.map V.ref) (fun i σ H2=>∃u2:Option V,σ=[some (.ref p),some (.ref ta),u2]∧HouseAt C H2 p (Bl G (ts.take i))∧HFr p G H H2)
   ⟨_,rfl,by rw[List.take_zero,V8];exact S,fun b o e _ _=>e⟩ (fun i σ H2 _ h=>let⟨_,_,_,fr⟩:=h;SqL.of (fr _ _ et (S.lst_ne et).1 (S.lst_ne et).2)) ?_ ?_
  ·rintro i x σ H2 hx ⟨u2,rfl,S2,fr2⟩
   rw[ZH] at hx
   cases ea:as[i]? with
   | none=>rw[ea] at hx;cases hx
   | some a =>
     rw[ea] at hx
     have hx:V.ref a=x:=ZO hx
     subst hx
     obtain⟨t,ht⟩:=A1 (xs:=ts) (j:=i) (by have:=(ZJ ea).1;lia)
     have ha:=A2 th i a t ea ht
     have ha2:=fr2 _ _ ha (S.tup_ne ha).1 (S.tup_ne ha).2
     obtain⟨dx2,hp2⟩:=S2.ob
     obtain⟨o,g,eo⟩:=Vz (k:=fun q:T2×Int=>q.1) (f:=fun q=>V.int q.2) (.inl S2.dO) ha2
     have f1:=F7 (fun q:T2×Int=>q.1) G.outs ht
     have f2:=F7 (fun q:T2×Addr×List T2=>q.1) G.holds ht
     refine⟨_,rfl,_,rfl,p,C,dx2,_,_,rfl,hp2,T.cl,T.nO,C0 _,G.o,o,rfl,g,_,rfl,?_⟩
     rw[eo]
     have ks:(Bl G (ts.take i)).holds.map (·.1)=(Bl G (ts.take i)).outs.map (·.1):=by
      show(G.holds.filter fun q=>decide (q.1∉ts.take i)).map (·.1)=(G.outs.filter fun q=>decide (q.1∉ts.take i)).map (·.1)
      rw[Do (fun q:T2×Addr×List T2=>q.1) G.holds (fun t=>decide (t∉ts.take i)),Do (fun q:T2×Int=>q.1) G.outs (fun t=>decide (t∉ts.take i)),ke]
     by_cases h:t∈(Bl G (ts.take i)).outs.map (·.1)
     ·rw[decide_eq_true h]
      obtain⟨v1,hv1⟩:=Jn (l:=(Bl G (ts.take i)).outs) (k:=fun q=>q.1) (f:=fun q=>V.int q.2) h
      obtain⟨v2,hv2⟩:=Jn (l:=(Bl G (ts.take i)).holds) (k:=fun q=>q.1) (f:=fun q=>V.ref q.2.1) (by rw[ks];exact h)
      refine Cd ⟨_,rfl,p,C,dx2,_,_,rfl,hp2,T.cl,T.nO,C0 _,G.o,rfl,.inr ⟨_,.inl S2.dO⟩,_,rfl,_,tk t,_,a,S2.dO,rfl,ha2,hv1,?_⟩
      rw[Ga (k:=fun q:T2×Int=>q.1) (f:=fun q=>V.int q.2)]
      have S3:=S2.setOuts ((Bl G (ts.take i)).outs.filter fun q=>decide (q.1≠t))
      have fr3:HFr p G H (upd H2 G.o (Ct ((Bl G (ts.take i)).outs.filter fun q=>decide (q.1≠t)))):=fun b o e h1 h2=>by rw[Ad fun z=>h2 (by rw[z];simp[foot])];exact fr2 _ _ e h1 h2
      have ha3:=fr3 _ _ ha (S.tup_ne ha).1 (S.tup_ne ha).2
      rw[show HO.dT (((Bl G (ts.take i)).outs.filter fun q=>decide (q.1≠t)).map fun q=>(tk q.1,V.int q.2))=Ct ((Bl G (ts.take i)).outs.filter fun q=>decide (q.1≠t)) from rfl]
      have S3:HouseAt C (upd H2 G.o (Ct ((Bl G (ts.take i)).outs.filter fun q=>decide (q.1≠t)))) p { Bl G (ts.take i) with outs:=(Bl G (ts.take i)).outs.filter fun q=>decide (q.1≠t) }:=S3
      generalize upd H2 G.o (Ct ((Bl G (ts.take i)).outs.filter fun q=>decide (q.1≠t)))=H3 at S3 fr3 ha3
      obtain⟨dx3,hp3⟩:=S3.ob
      refine⟨_,rfl,p,C,dx3,_,_,rfl,hp3,T.cl,T.nL,Dv _,G.l,rfl,.inr ⟨_,.inl S3.dl⟩,_,rfl,_,tk t,_,a,S3.dl,rfl,ha3,hv2,?_⟩
      have e3:C4 (({ Bl G (ts.take i) with outs:=(Bl G (ts.take i)).outs.filter fun q=>decide (q.1≠t) }:HGh).holds.map fun(q:T2×Addr×List T2)=>(tk q.1,V.ref q.2.1)) (tk t)=((Bl G (ts.take i)).holds.filter fun q=>decide (q.1≠t)).map fun(q:T2×Addr×List T2)=>(tk q.1,V.ref q.2.1) :=
       Ga (k:=fun q:T2×Addr×List T2=>q.1) (f:=fun q=>V.ref q.2.1) _ t
      rw[e3]
      have S4:=S3.subHolds (hl:=(Bl G (ts.take i)).holds.filter fun q=>decide (q.1≠t)) List.filter_sublist
      have eG:Bl G (ts.take (i+1))={ Bl G (ts.take i) with outs:=(Bl G (ts.take i)).outs.filter (fun q=>decide (q.1≠t)),holds:=(Bl G (ts.take i)).holds.filter (fun q=>decide (q.1≠t)) }:=by
       unfold Bl
       rw[f1,f2]
      refine⟨_,rfl,by rw[eG];exact S4,fun b o e h1 h2=>?_⟩
      rw[Ad fun z=>h2 (by rw[z];show G.l∈foot G;simp[foot])];exact fr3 _ _ e h1 h2
     ·rw[decide_eq_false h]
      have no1:∀q∈(Bl G (ts.take i)).outs,q.1≠t:=fun q hq z=>h (List.mem_map.mpr ⟨q,hq,z⟩)
      have no2:∀q∈(Bl G (ts.take i)).holds,q.1≠t:=fun q hq z=>h (by rw[←ks];exact List.mem_map.mpr ⟨q,hq,z⟩)
      have eG:Bl G (ts.take (i+1))=Bl G (ts.take i):=by
       have a1:(Bl G (ts.take i)).outs.filter (fun q=>decide (q.1≠t))=(Bl G (ts.take i)).outs:=List.filter_eq_self.mpr fun q hq=>by simpa using no1 q hq
       have a2:(Bl G (ts.take i)).holds.filter (fun q=>decide (q.1≠t))=(Bl G (ts.take i)).holds:=List.filter_eq_self.mpr fun q hq=>by simpa using no2 q hq
       unfold Bl at a1 a2 ⊢
       rw[f1,f2,a1,a2]
      exact B0 ⟨_,rfl,by rw[eG];exact S2,fr2⟩
  ·rintro σ H2 ⟨u2,rfl,S2,fr2⟩
   rw[ZA,lt,List.take_length] at S2
   exact k H2 S2 fr2
def C2(G:HGh)(rs:List (T2×Int)):List (T2×Int):=(rs.filter fun q=>!heldB G q.1).filter fun q=>decide (0<q.2)
def Z4(C:Addr):Sp:=fun vs H Q _=>∃(p:Addr)(G:HGh)(n:Nat)(rs:List (T2×Int)),vs=[.ref p]∧HouseAt C H p G∧Ok G n∧n≤62∧(∀t∈G.hand,InU t)∧(∀q∈G.holds,∀t∈q.2.2,InU t)∧rs.Perm G.recs∧(rs.map (·.1)).Pairwise lt2 ∧
 ∀(x:Addr)(as:List Addr)(H':Hp),H x=none→H' x=some (.lst (as.map V.ref))→BackAt H' as (C2 G rs)→HouseAt C H' p (keepB G)→HFr p G H H'→Q (.ref x) H'
theorem scGB:Ao ["self","held","holder","thing","unheld","back"] ["self"] (Aj Xc):={}
def Jgd(K:W.Frag):TE:=Jey (Dk (Co 0) (Dk (Ob (Zw K (Co 1) "records") (Co 0)) Jo))
def Jga(K:W.Frag):TT:=Kj (tOp (rI0 fun i j=>.bl (decide (j<i))) (Ob (Zw K (Co 1) "records") (Co 0)) (tC (.int 0)))
theorem Jdg{f:Addr}{fd:FuncData}(F:Fun K "give_back" "House.give_back" Xc f fd)(T:Txt K mg C NHd NNr MI NW)(Tx:Jb9 mg):EX0 P w K mg base 1 f fd ["self"] (Z4 C):=by
 refine F.ok scGB (fun vs H Q E h=>?_) (fun cdv A outer s H vs Q E hr h=>?_)
 ·obtain⟨p,G,n,rs,rfl,_⟩:=h
  rfl
 ·obtain⟨p,G,n,rs,rfl,S,ok,zn,ir1,ir2,pm,pw,k⟩:=h
  have hu:=Cm hr
  obtain⟨dx,hp⟩:=S.ob
  refine⟨_,Ac (Az (i:=1) scGB.nd rfl (by first|exact Or.inl rfl|exact Or.inr rfl) (Cu (Wd (K1 hr)) (by rfl) Tx.dict PyProof.Rows.boot_dict (Aa (Aw (pv 0) rfl) Ae)))
   (Ac (Ho PassesOwn.never rfl (Le (Aw (pv 0) rfl)) (Bq (i:=2) scGB.nd rfl (Or.inl rfl))
    (Af (A7 (Kk PySem.F.plainAttrs_dict PySem.F.slot_dict_update PySem.F.type_dict_update (Jdo hu) (pv 1) (Aa (Be hu (Aw (pv 0) rfl) (pv 2)) Ae)))))
   (PSs.thaw (Ac (Ir (te:=Co 0) (i:=4) (caps:=[("held",1)]) scGB.nd rfl rfl rfl rfl (Dq (Bv (Cr rfl) (by rfl) T.sorted PyProof.Rows.boot_sorted (Aa (Aw (pv 0) rfl) Ae)))
    rfl (by decide +kernel) rfl (by decide +kernel) rfl ⟨rfl,trivial⟩ (fun y h=>Rm ⟨_,rfl⟩ h) ⟨⟨rfl,rfl,rfl,rfl⟩,trivial⟩ (by decide +kernel) (fun _ _ _ _ _=>Fg (Eh (Ec hu (pv 0) (pv 1)))) (fun _ _ _ _ _=>pv 0))
   (Ac (Ir (te:=Jgd K) (tt:=Jga K) (i:=5) (caps:=[("self",0)]) scGB.nd rfl rfl rfl rfl (Dq (pv 4))
    rfl (by decide +kernel) rfl (by decide +kernel) rfl ⟨rfl,trivial⟩ (fun y h=>Rm ⟨_,rfl⟩ h) ⟨⟨rfl,rfl,rfl,rfl⟩,trivial⟩ (by decide +kernel) (fun _ _ _ _ _=>Fg (Au Ol (Be hu (Aw (pv 1) rfl) (pv 0)) Ag (A0 _))) (fun _ _ _ _ _=>Bn (Aa (pv 0) (Aa (Be hu (Aw (pv 1) rfl) (pv 0)) Ae))))
   (Ac (Ho PassesOwn.never rfl (Dq (pv 4)) (Bq (i:=3) scGB.nd rfl (Or.inl rfl))
    (Af (A7 (Fz hu (Aw (pv 0) rfl) (pv 3) ⟨rfl,rfl,rfl,rfl⟩))))
   (Af (Ar (pv 5)))))))),?_⟩
  have z1:=ok.hz
  have z2:=ok.lens
  have z3:=ok.rz
  refine⟨_,rfl,p,C,dx,_,_,rfl,hp,T.cl,T.nH,D9 G,G.h,_,rfl,S.dh,M0 ok.hn ir1,fun hd hhd=>?_⟩
  have e0:D4 [] (G.hand.map fun q=>(tk q,V.bl true))=G.hand.map fun q=>(tk q,V.bl true):=by
   have:=F4 G.hand []
   rw[Nt _ _ (by simpa using ok.hn)] at this
   simpa using this
  rw[e0]
  have s1:=Ah (o:=Bh G.hand) hhd
  have e1:(upd H hd (Bh G.hand)) hd=some (Bh G.hand):=Ab
  rw[show HO.dT (G.hand.map fun q=>(tk q,V.bl true))=Bh G.hand from rfl]
  generalize upd H hd (Bh G.hand)=H1 at s1 e1
  have S1:=S.same s1
  obtain⟨dx1,hp1⟩:=S1.ob
  have ndl:(G.holds.map (·.1)).Nodup:=by rw[ok.ke];exact ok.on
  have nhd:∀{b:Addr} {o:HO},H b=some o→b≠hd:=fun e=>Am e hhd
  have npl:p≠G.l:=fun z=>S.p_ne (b:=G.l) (by simp[foot]) z.symm
  refine⟨_,rfl,p,C,dx1,_,_,rfl,hp1,T.cl,T.nL,Dv G,G.l,_,rfl,S1.dl,fun ob=>?_⟩
  refine Jbv (d:=G.l) (ob:=ob) (fun i σ H2=>∃u2:Option V,σ=[some (.ref p),some (.ref hd),u2,none,none,none]∧H2 hd=some (Bh (Ci G.hand (G.holds.take i)))∧∀b o,(upd H1 G.l (.frz ob (Ji G.holds))) b=some o→b≠hd→H2 b=some o)
   ⟨_,rfl,by rw[Ad (nhd S.dl).symm,e1];rfl,fun b o e _=>e⟩ (fun i σ H2 _ h=>let⟨_,_,_,fr⟩:=h;fr _ _ Ab (nhd S.dl)) ?_ ?_
  ·rintro i a kk v σ H2 hx ha ⟨u2,rfl,eh,fr⟩
   rw[ZH] at hx
   cases eq:G.holds[i]? with
   | none=>rw[eq] at hx;cases hx
   | some q =>
     rw[eq] at hx
     have hx:(tk q.1,V.ref q.2.1)=(kk,v):=ZO hx
     have mq:=ZP eq
     have e2:kk=tk q.1:=(Prod.mk.inj hx).1.symm
     rw[e2,Wn] at ha
     have hpp:H2 p=some (.ins C dx1 (Bz G)):=fr _ _ (by rw[Ad npl];exact hp1) (nhd hp)
     have hll:H2 G.l=some (.frz ob (Ji G.holds)):=fr _ _ Ab (nhd S.dl)
     have hqq:H2 q.2.1=some (Bh q.2.2):=by
      have h0:=S.hl q mq
      refine fr _ _ ?_ (nhd h0)
      rw[Ad (S.nds.2.2.2 q mq).2.2.1];exact S1.hl q mq
     have gv:Cw (G.holds.map fun(q:T2×Addr×List T2)=>(tk q.1,V.ref q.2.1)) (tk q.1)=some (V.ref q.2.1):=by
      rw[Dp (k:=fun q:T2×Addr×List T2=>q.1) (f:=fun q=>V.ref q.2.1),FX.find_self (k:=fun q:T2×Addr×List T2=>q.1) ndl mq];rfl
     have l0:=ok.ln q mq
     have l1:(Ci G.hand (G.holds.take i)).length≤62+62*62:=by
      have h1:=Kq (B:=62) (qs:=G.holds.take i) (hand:=G.hand) (fun r hr=>by have:=(ok.ln r (List.mem_of_mem_take hr)).2;lia)
      have h2:(G.holds.take i).length≤G.holds.length:=by rw[List.length_take];lia
      have h3:(G.holds.take i).length*62≤62*62:=Nat.mul_le_mul_right _ (by lia)
      lia
     refine⟨_,rfl,.inr (.inr (.inl ⟨rfl,.inr ⟨_,eh⟩⟩)),_,rfl,p,C,dx1,_,_,rfl,hpp,T.cl,T.nL,Dv G,_,rfl,G.l,_,rfl,.inr ⟨_,tk q.1,a,.inr ⟨ob,hll⟩,rfl,ha,gv.symm⟩,hd,q.2.1,_,_,rfl,rfl,eh,.inl hqq,(nhd (S.hl q mq)).symm,?_,fun _=>M0 l0.1 (ir2 q mq),?_⟩
     ·rw[ZA,ZA]
      exact Nat.le_of_lt (Lw (by lia))
     ·rw[F4,←Rn G.hand eq]
      exact⟨_,rfl,Ab,fun b o e hb=>by rw[Ad hb];exact fr b o e hb⟩
  ·rintro σ H2 ⟨u2,rfl,eh,fr⟩
   rw[ZA,List.take_length] at eh
   have hll:H2 G.l=some (.frz ob (Ji G.holds)):=fr _ _ Ab (nhd S.dl)
   refine⟨upd H2 G.l (Ji G.holds),⟨G.l,ob,_,hll,fun o v z=>?_,rfl⟩,?_⟩
   ·have z:H G.l=some (.frz o v):=z
    rw[S.dl] at z;cases z
   have s3:Bp H (upd H2 G.l (Ji G.holds)):=fun b o e=>by
    by_cases hb:b=G.l
    ·subst hb
     rw[S.dl] at e
     rw[Ab];exact e
    ·rw[Ad hb]
     exact fr _ _ (by rw[Ad hb];exact s1 _ _ e) (nhd e)
   have e3:(upd H2 G.l (Ji G.holds)) hd=some (Bh (Ci G.hand G.holds)):=by rw[Ad (nhd S.dl).symm];exact eh
   generalize upd H2 G.l (Ji G.holds)=H3 at s3 e3
   have S3:=S.same s3
   obtain⟨dx3,hp3⟩:=S3.ob
   refine⟨_,rfl,p,C,dx3,_,_,rfl,hp3,T.cl,T.nR,Cj G,G.r,_,rs.map (·.1),rfl,Jbq S3.dr,(by rw[ZA];lia),?_,pw,fun sl asl hsl tsl=>⟨sl,rfl,⟨_,SqL.of Ab⟩,fun ul hul=>?_⟩⟩
   ·have e4:((G.recs.map fun q=>(q.1,V.int q.2)).map (·.1))=G.recs.map (·.1):=by rw[List.map_map];rfl
    rw[e4];exact pm.map _
   have s4:=Ah (o:=.lst (asl.map V.ref)) hsl
   have el4:(upd H3 sl (.lst (asl.map V.ref))) sl=some (.lst (asl.map V.ref)):=Ab
   have t4:ThsAt (upd H3 sl (.lst (asl.map V.ref))) asl (rs.map (·.1)):=ThsAt.keep (Ji0 s4) tsl
   generalize upd H3 sl (.lst (asl.map V.ref))=H4 at s4 el4 t4 hul
   have lrs:rs.length≤62:=by have:=pm.length_eq;lia
   refine O4 (b:=fun t=>!heldB G t) (caps:=[("held",1)]) hul (by rw[ZA];lia) el4 t4 (fun H5 a t Q' sm ha ht q=>?_) fun H5 bs sm eu tu=>?_
   ·refine⟨_,rfl,_,rfl,hd,_,rfl,Jf (sm _ _ (s4 _ _ e3)) ha,?_⟩
    have e5:(!(if t∈Ci G.hand G.holds then some (V.bl true) else none).isSome)=!heldB G t:=by
     rw[←Za]
     by_cases c:t∈Ci G.hand G.holds
     ·rw[if_pos c,decide_eq_true c];rfl
     ·rw[if_neg c,decide_eq_false c];rfl
    rw[e5]
    exact⟨_,rfl,q⟩
   have eU:(rs.map (·.1)).filter (fun t=>!heldB G t)=(rs.filter fun q=>!heldB G q.1).map (·.1):=(Do (fun q:T2×Int=>q.1) rs fun t=>!heldB G t).symm
   rw[eU] at tu
   have s5:Bp H H5:=Ak s3 (Ak s4 sm)
   have usub:∀q∈rs.filter (fun q=>!heldB G q.1),q∈rs:=fun q hq=>(List.mem_filter.mp hq).1
   have usz:(rs.filter fun q=>!heldB G q.1).length≤62:=by have:=List.length_filter_le (fun q=>!heldB G q.1) rs;lia
   have hbk:C2 G rs=(rs.filter fun q=>!heldB G q.1).filter fun q=>decide (0<q.2):=rfl
   have und:((rs.filter fun q=>!heldB G q.1).map (·.1)).Nodup:=by
    have h1:(rs.map (·.1)).Nodup:=(pm.map _).nodup_iff.mpr ok.rn
    exact h1.sublist (List.filter_sublist.map _)
   generalize hus:(rs.filter fun q=>!heldB G q.1)=us at tu usub usz hbk und
   have S5:=S.same s5
   have lbs:=Paired.length tu
   rw[ZA] at lbs
   have val:∀q∈us,G.recs.find? (fun r=>decide (r.1=q.1))=some q:=fun q hq=>FX.find_self (k:=fun q:T2×Int=>q.1) ok.rn (pm.subset (usub q hq))
   refine⟨_,rfl,ul,rfl,⟨_,SqL.of eu⟩,fun bl hbl=>?_⟩
   refine Fb (K:=K) (a:=ul) (p:=bl) (xs:=bs.map V.ref) (tt:=Jga K) (te:=Jgd K) (caps:=[("self",0)]) (fun i ys H6=>∃cs:List Addr,ys=cs.map V.ref∧H6 bl=some (.lst ys)∧Bp H5 H6∧BackAt H6 cs ((us.take i).filter fun q=>decide (0<q.2)))
    ⟨[],rfl,Ab,Ah hbl,.nil⟩ (fun i ys H6 _ h=>let⟨_,_,e,sm,_⟩:=h;⟨SqL.of (sm _ _ eu),e⟩) ?_ ?_
   ·rintro i x ys H6 N hx ⟨cs,ey,e6,s6,ba⟩ hN
    rw[ZH] at hx
    cases eb:bs[i]? with
    | none=>rw[eb] at hx;cases hx
    | some b =>
      rw[eb] at hx
      have hx:V.ref b=x:=ZO hx
      subst hx
      obtain⟨q,hq⟩:=A1 (xs:=us) (j:=i) (by have:=(ZJ eb).1;lia)
      have hb:=A2 tu i b q.1 eb (by rw[ZH,hq];rfl)
      have hb6:=s6 _ _ hb
      have S6:=S5.same s6
      obtain⟨dx6,hp6⟩:=S6.ob
      have gv:DGet H6 G.r (.ref b) (some (V.int q.2)):=Jd S6.dr hb6 (val q (ZP hq))
      have ft:=Rq (b:=fun q:T2×Int=>decide (0<q.2)) hq
      refine⟨_,rfl,p,C,dx6,_,_,rfl,hp6,T.cl,T.nR,Cj G,_,rfl,G.r,_,rfl,gv,_,_,rfl,rfl,_,rfl,?_⟩
      by_cases c:0<q.2
      ·rw[decide_eq_true c] at ft ⊢
       refine Cd ⟨_,rfl,_,rfl,p,C,dx6,_,_,rfl,hp6,T.cl,T.nR,Cj G,_,rfl,G.r,_,rfl,gv,(by show 2≤sizeLine;decide),fun x1 hx1=>?_⟩
       have s7:=Ah (o:=.tup [V.ref b,V.int q.2]) hx1
       have x7:(upd H6 x1 (.tup [V.ref b,V.int q.2])) x1=some (.tup [V.ref b,V.int q.2]):=Ab
       have e7:=s7 _ _ e6
       generalize upd H6 x1 (.tup [V.ref b,V.int q.2])=H7 at s7 x7 e7
       have kt8:KeepT H7 (upd H7 bl (.lst (ys++[V.ref x1]))):=Ji1 fun o' e=>by
        rw[e7] at e;cases e;exact⟨fun _ z=>(by cases z),fun _ _ z=>(by cases z)⟩
       have lcs:cs.length≤us.length:=by rw[Paired.length ba];exact J8 _ us i
       refine⟨e7,by rw[ey,ZA];exact Lw (by lia),hN _ _ ⟨cs++[x1],by rw[ey,ZF];rfl,Ab,fun d o e=>?_,?_⟩⟩
       ·rw[Ad (Am e hbl)];exact s7 _ _ (s6 _ _ e)
       ·rw[ft,if_pos rfl]
        exact Bf (BackAt.keep kt8 (BackAt.keep (Ji0 s7) ba)) ⟨b,kt8.tup _ _ x7,kt8.tup _ _ (s7 _ _ hb6)⟩
      ·rw[decide_eq_false c] at ft ⊢
       refine B0 (hN _ _ ⟨cs,ey,e6,s6,?_⟩)
       rw[ft,if_neg (by decide),List.append_nil];exact ba
   ·rintro ys H6 ⟨cs,ey,e6,s6,ba⟩
    rw[ZA,lbs,List.take_length,←hbk] at ba
    rw[ey] at e6
    have S6:=S5.same s6
    have eu6:=s6 _ _ eu
    have tu6:ThsAt H6 bs (us.map (·.1)):=ThsAt.keep (Ji0 s6) tu
    have nblr:bl≠G.r:=fun z=>by rw[z,S5.dr] at hbl;cases hbl
    have hbl0:H bl=none:=by
     cases c:H bl with
     | none=>rfl
     | some o=>rw[s5 _ _ c] at hbl;cases hbl
    refine⟨_,rfl,ul,rfl,⟨_,SqL.of eu6⟩,?_⟩
    have dropR:∀j,({ G with recs:=G.recs.filter fun q=>decide (q.1∉(us.map (·.1)).take j) }:HGh).recs=G.recs.filter fun q=>decide (q.1∉(us.map (·.1)).take j):=fun _=>rfl
    refine Jg (K:=K) (a:=ul) (xs:=bs.map V.ref) (fun i σ H7=>∃u3:Option V,σ=[some (.ref p),some (.ref hd),u2,u3,some (.ref ul),some (.ref bl)]∧HouseAt C H7 p { G with recs:=G.recs.filter fun q=>decide (q.1∉(us.map (·.1)).take i) }∧∀b o,H6 b=some o→b≠G.r→H7 b=some o)
     ⟨_,rfl,?_,fun b o e _=>e⟩ (fun i σ H7 _ h=>let⟨_,_,_,fr⟩:=h;SqL.of (fr _ _ eu6 fun z=>by rw[z,S6.dr] at eu6;cases eu6)) ?_ ?_
    ·have e8:(G.recs.filter fun q=>decide (q.1∉(us.map (·.1)).take 0))=G.recs:=List.filter_eq_self.mpr fun q _=>by simp
     rw[e8];exact S6
    ·rintro i x σ H7 hx ⟨u3,rfl,S7,fr7⟩
     rw[ZH] at hx
     cases eb:bs[i]? with
     | none=>rw[eb] at hx;cases hx
     | some b =>
       rw[eb] at hx
       have hx:V.ref b=x:=ZO hx
       subst hx
       obtain⟨q,hq⟩:=A1 (xs:=us) (j:=i) (by have:=(ZJ eb).1;lia)
       have hqm:(us.map (·.1))[i]?=some q.1:=by rw[ZH,hq];rfl
       have hb:=A2 tu6 i b q.1 eb hqm
       have hb7:=fr7 _ _ hb fun z=>by rw[z,S6.dr] at hb;cases hb
       obtain⟨dx7,hp7⟩:=S7.ob
       have qin:q.1∈(G.recs.filter fun r=>decide (r.1∉(us.map (·.1)).take i)).map (·.1):=by
        refine List.mem_map.mpr ⟨q,List.mem_filter.mpr ⟨pm.subset (usub q (ZP hq)),?_⟩,rfl⟩
        have:q.1∉(us.map (·.1)).take i:=fun z=>Km und hqm z
        simpa using this
       obtain⟨v,hv⟩:=Jn (l:=G.recs.filter fun(r:T2×Int)=>decide (r.1∉(us.map fun(z:T2×Int)=>z.1).take i)) (k:=fun(q:T2×Int)=>q.1) (f:=fun(q:T2×Int)=>V.int q.2) (t:=q.1) qin
       refine⟨_,rfl,p,C,dx7,_,_,rfl,hp7,T.cl,T.nR,Cj _,G.r,rfl,.inr ⟨_,.inl S7.dr⟩,_,rfl,_,tk q.1,_,b,S7.dr,rfl,hb7,hv,?_⟩
       have e9:C4 ((({ G with recs:=G.recs.filter fun q=>decide (q.1∉(us.map (·.1)).take i) }:HGh).recs).map fun q=>(tk q.1,V.int q.2)) (tk q.1)=(G.recs.filter fun r=>decide (r.1∉(us.map (·.1)).take (i+1))).map fun q=>(tk q.1,V.int q.2):=by
        rw[F7 (fun q:T2×Int=>q.1) G.recs hqm]
        exact Ga (k:=fun q:T2×Int=>q.1) (f:=fun q=>V.int q.2) _ _
       rw[e9]
       have S8:=S7.setRecs (G.recs.filter fun r=>decide (r.1∉(us.map (·.1)).take (i+1)))
       exact⟨_,rfl,S8,fun b o e hb=>by rw[Ad hb];exact fr7 _ _ e hb⟩
    ·rintro σ H7 ⟨u3,rfl,S7,fr7⟩
     rw[ZA,lbs,←ZA (f:=fun q:T2×Int=>q.1),List.take_length] at S7
     have kt7:KeepT H6 H7:=⟨fun b xs e=>fr7 _ _ e (fun z=>by rw[z,S6.dr] at e;cases e),fun b o v e=>fr7 _ _ e (fun z=>by rw[z,S6.dr] at e;cases e)⟩
     refine⟨_,rfl,k bl cs H7 hbl0 (fr7 _ _ e6 nblr) (BackAt.keep kt7 ba) ?_ fun b o e h1 h2=>fr7 _ _ (s6 _ _ (s5 _ _ e)) fun z=>h2 (by rw[z];simp[foot])⟩
     have eK:keepB G={ G with recs:=G.recs.filter fun q=>decide (q.1∉us.map (·.1)) }:=by
      unfold keepB
      have:(G.recs.filter fun q=>heldB G q.1)=G.recs.filter fun q=>decide (q.1∉us.map (·.1)):=List.filter_congr fun q hq=>by
       by_cases c:heldB G q.1=true
       ·have nm:q.1∉us.map (·.1):=fun z=>by
         obtain⟨r,hr,er⟩:=ZN z
         rw[←hus] at hr
         have:=(List.mem_filter.mp hr).2
         rw[er,c] at this;cases this
        rw[c,decide_eq_true nm]
       ·have c:heldB G q.1=false:=by simpa using c
        have im:q.1∈us.map (·.1):=by
         rw[←hus]
         exact List.mem_map.mpr ⟨q,List.mem_filter.mpr ⟨pm.symm.subset hq,by rw[c];rfl⟩,rfl⟩
        rw[c];simp only[im,not_true_eq_false,decide_false]
      rw[this]
     rw[eK];exact S7
def Ia(C:Addr):Sp:=fun vs H Q _=>∃(p:Addr)(G:HGh)(n m:Nat)(rs:List (T2×Int))(R:List T2),vs=[.ref p]∧HouseAt C H p G∧Ok G n∧n≤62∧(∀t∈G.hand,InU t)∧(∀q∈G.holds,∀t∈q.2.2,InU t)∧rs.Perm G.recs∧(rs.map (·.1)).Pairwise lt2 ∧
 Rch (nxT G.holds) m (startT G) [] R∧m≤5000∧Ok (keepR G R) n ∧
 ∀(x:Addr)(as:List Addr)(H':Hp),(∀b o,H b=some o→b≠p→b∉foot G→b≠x)→H' x=some (.lst (as.map V.ref))→BackAt H' as (C2 (keepR G R) rs)→HouseAt C H' p (tk1 (keepB (keepR G R)))→HFr p G H H'→Q (.ref x) H'
theorem scCl:Ao ["self","lent","kept"] ["self"] (Aj L1):={}
def Jhc(K:W.Frag):TT:=Kj (tOp (rI0 fun i j=>.bl (decide (j<i))) (Ob (Zw K (Co 1) "outs") (Co 0)) (tC (.int 0)))
theorem Jbb{f fR fL fG:Addr}{fd dR dL dG:FuncData}(F:Fun K "clean" "House.clean" L1 f fd)(T:Txt K mg C NHd NNr MI NW)(Tx:Jb9 mg)(MR:Gdf K mg "reached" Id ["starts","holds"] fR dR)(ML:Mth K C "lose" "House.lose" Xb ["self","things"] fL dL)(MG:Mth K C "give_back" "House.give_back" Xc ["self"] fG dG) :
 EX0 P w K mg base 2 f fd ["self"] (Ia C):=by
 have GR:EX0 P w K mg base 1 fR dR ["starts","holds"] Oe:=Vr MR.fn
 have GL:EX0 P w K mg base 1 fL dL ["self","things"] (Z3 C):=Jde ML.fn T
 have GG:EX0 P w K mg base 1 fG dG ["self"] (Z4 C):=Jdg MG.fn T Tx
 refine F.ok scCl (fun vs H Q E h=>?_) (fun cdv A outer s H vs Q E hr h=>?_)
 ·obtain⟨p,G,n,m,rs,R,rfl,_⟩:=h
  rfl
 ·obtain⟨p,G,n,m,rs,R,rfl,S,ok,zn,ir1,ir2,pm,pw,rc,zm,okR,k⟩:=h
  have hu:=Cm hr
  obtain⟨dx,hp⟩:=S.ob
  refine⟨_,Ac (Ir (te:=Co 0) (tt:=Jhc K) (i:=1) (caps:=[("self",0)]) scCl.nd rfl rfl rfl rfl (Le (Aw (pv 0) rfl))
   rfl (by decide +kernel) rfl (by decide +kernel) rfl ⟨rfl,trivial⟩ (fun y h=>Rm ⟨_,rfl⟩ h) ⟨⟨rfl,rfl,rfl,rfl⟩,trivial⟩ (by decide +kernel) (fun _ _ _ _ _=>Fg (Au Ol (Be hu (Aw (pv 1) rfl) (pv 0)) Ag (A0 _))) (fun _ _ _ _ _=>pv 0))
   (PSs.thaw (Ac (Az (i:=2) scCl.nd rfl (by first|exact Or.inl rfl|exact Or.inr rfl) (Bw GR hr (by rfl) MR.mg MR.fn.kp MR.bd .nil Bj (Aa (Bc Jfi (Cu (Nq rfl) (by rfl) Tx.list PyProof.Rows.boot_list (Aa (Aw (pv 0) rfl) Ae)) (pv 1)) (Aa (Aw (pv 0) rfl) Ae))))
   (Ac (A7 (Ap (pl:=_) (pv 0) T.cl ML.mt GL hr ML.bd .nil Bj (Aa (PE.thaw (Fj (te:=Co 0) (caps:=[("kept",2)]) rfl (Le (Aw (pv 0) rfl))
    rfl (by decide +kernel) rfl (by decide +kernel) rfl ⟨rfl,trivial⟩ (fun y h=>Rm ⟨_,rfl⟩ h) ⟨⟨rfl,rfl,rfl,rfl⟩,trivial⟩ (by decide +kernel) (fun _ _ _ _ _=>Fg (Eh (Ec hu (pv 0) (pv 1)))) (fun _ _ _ _ _=>pv 0))) Ae)))
   (Ac (Ca (pv 0) Ag C9)
   (Af (Ar (Cg (pv 0) T.cl MG.mt GG hr MG.bd .nil Bj))))))),?_⟩
  have z0:=ok.oz
  have z1:=ok.hz
  have z2:=ok.lens
  have npo:p≠G.o:=fun z=>S.p_ne (b:=G.o) (by simp[foot]) z.symm
  refine⟨_,rfl,p,C,dx,_,_,rfl,hp,T.cl,T.nO,C0 G,G.o,_,rfl,S.dO,fun ob ll hll=>?_⟩
  refine Kd (b:=fun t=>decide (0<Ai G.outs t)) (caps:=[("self",0)]) (l:=G.outs) (key:=fun q=>q.1) (val:=fun q=>V.int q.2) (ob:=ob) hll (by lia) Ab (fun H2 a t Q' sm ha ht q=>?_) fun H2 bs sm el tl=>?_
  ·have hp2:H2 p=some (.ins C dx (Bz G)):=sm _ _ (by rw[Ad npo];exact hp)
   have gv:Cw (G.outs.map fun q=>(tk q.1,V.int q.2)) (tk t)=some (V.int (Ai G.outs t)):=by
    rw[Dp (k:=fun q:T2×Int=>q.1) (f:=fun q=>V.int q.2),F6 ht];rfl
   exact⟨_,rfl,p,C,dx,_,_,rfl,hp2,T.cl,T.nO,C0 G,_,rfl,G.o,_,rfl,.inr ⟨_,tk t,a,.inr ⟨ob,sm _ _ Ab⟩,rfl,ha,gv.symm⟩,_,_,rfl,rfl,_,rfl,q⟩
  have ho2:H2 G.o=some (.frz ob (Ct G.outs)):=sm _ _ Ab
  refine⟨upd H2 G.o (Ct G.outs),⟨G.o,ob,_,ho2,fun o v z=>?_,rfl⟩,?_⟩
  ·have z:H G.o=some (.frz o v):=z
   rw[S.dO] at z;cases z
  have nll:ll≠G.o:=fun z=>by rw[z,Ab] at hll;cases hll
  have s3:Bp H (upd H2 G.o (Ct G.outs)):=fun b o e=>by
   by_cases hb:b=G.o
   ·subst hb
    rw[S.dO] at e
    rw[Ab];exact e
   ·rw[Ad hb]
    exact sm _ _ (by rw[Ad hb];exact e)
  have el3:(upd H2 G.o (Ct G.outs)) ll=some (.lst (bs.map V.ref)):=by rw[Ad nll];exact el
  have tl3:ThsAt (upd H2 G.o (Ct G.outs)) bs (G8 G):=by
   refine Ay (fun b u e=>?_) tl
   rw[Ad fun z=>by rw[z,ho2] at e;cases e];exact e
  generalize upd H2 G.o (Ct G.outs)=H3 at s3 el3 tl3
  have S3:=S.same s3
  obtain⟨dx3,hp3⟩:=S3.ob
  refine⟨_,rfl,p,C,dx3,_,_,rfl,hp3,T.cl,T.nH,D9 G,G.h,_,rfl,.inl S3.dh,fun l1 as1 hl1 ky1=>?_⟩
  have t1:ThsAt H3 as1 G.hand:=Xo (val:=fun _=>V.bl true) ky1
  have s4:=Ah (o:=.lst (as1.map V.ref)) hl1
  have e4:(upd H3 l1 (.lst (as1.map V.ref))) l1=some (.lst (as1.map V.ref)):=Ab
  have t4:ThsAt (upd H3 l1 (.lst (as1.map V.ref))) as1 G.hand:=ThsAt.keep (Ji0 s4) t1
  have el4:=s4 _ _ el3
  have tl4:ThsAt (upd H3 l1 (.lst (as1.map V.ref))) bs (G8 G):=ThsAt.keep (Ji0 s4) tl3
  generalize upd H3 l1 (.lst (as1.map V.ref))=H4 at s4 e4 t4 el4 tl4
  have n1:=Paired.length t4
  have n2:=Paired.length tl4
  have n3:(G8 G).length≤62:=by
   have:(G8 G).length≤(G.outs.map (·.1)).length:=List.length_filter_le _ _
   rw[ZA] at this;lia
  refine⟨_,rfl,l1,ll,_,_,rfl,rfl,e4,el4,Nat.le_of_lt (Lw (by rw[ZA,ZA];lia)),fun cl hcl=>?_⟩
  rw[←ZF]
  have s5:=Ah (o:=.lst ((as1++bs).map V.ref)) hcl
  have e5:(upd H4 cl (.lst ((as1++bs).map V.ref))) cl=some (.lst ((as1++bs).map V.ref)):=Ab
  have t5:ThsAt (upd H4 cl (.lst ((as1++bs).map V.ref))) (as1++bs) (G.hand++G8 G):=ThsAt.keep (Ji0 s5) (Po t4 tl4)
  generalize upd H4 cl (.lst ((as1++bs).map V.ref))=H5 at s5 e5 t5
  have S5:=S3.same (Ak s4 s5)
  obtain⟨dx5,hp5⟩:=S5.ob
  refine⟨_,rfl,p,C,dx5,_,_,rfl,hp5,T.cl,T.nL,Dv G,cl,G.l,as1++bs,G.hand++G8 G,G.holds,m,R,rfl,e5,t5,by rw[ZE];lia,S5.dl,by lia,fun q hq=>⟨S5.hl q hq,by have:=(ok.ln q hq).2;lia,(S.nds.2.2.2 q hq).2.2.1⟩,rc,zm,fun kp H6 hkp s6 ek=>?_⟩
  have S6:=S5.same s6
  obtain⟨dx6,hp6⟩:=S6.ob
  refine⟨_,rfl,p,dx6,_,rfl,hp6,Bk G (by decide +kernel),_,rfl,p,C,dx6,_,_,rfl,hp6,T.cl,T.nO,C0 G,G.o,_,rfl,S6.dO,fun ob2 gl hgl=>?_⟩
  have nkp:kp≠G.o:=fun z=>by rw[z,S5.dO] at hkp;cases hkp
  refine Kd (b:=fun t=>decide (t∉R)) (caps:=[("kept",2)]) (l:=G.outs) (key:=fun q=>q.1) (val:=fun q=>V.int q.2) (ob:=ob2) hgl (by lia) Ab (fun H7 a t Q' sm7 ha ht q=>?_) fun H7 gs sm7 eg tg=>?_
  ·refine⟨_,rfl,_,rfl,kp,_,rfl,Jf (sm7 kp (Bh R) (by rw[Ad nkp];exact ek)) ha,?_⟩
   have e8:(!(if t∈R then some (V.bl true) else none).isSome)=decide (t∉R):=by
    by_cases c:t∈R
    ·rw[if_pos c];simp[c]
    ·rw[if_neg c];simp[c]
   rw[e8]
   exact⟨_,rfl,q⟩
  have ho7:H7 G.o=some (.frz ob2 (Ct G.outs)):=sm7 _ _ Ab
  refine⟨upd H7 G.o (Ct G.outs),⟨G.o,ob2,_,ho7,fun o v z=>?_,rfl⟩,?_⟩
  ·have z:H G.o=some (.frz o v):=z
   rw[S.dO] at z;cases z
  have ngl:gl≠G.o:=fun z=>by rw[z,Ab] at hgl;cases hgl
  have s8:Bp H6 (upd H7 G.o (Ct G.outs)):=fun b o e=>by
   by_cases hb:b=G.o
   ·subst hb
    rw[S6.dO] at e
    rw[Ab];exact e
   ·rw[Ad hb]
    exact sm7 _ _ (by rw[Ad hb];exact e)
  have eg8:(upd H7 G.o (Ct G.outs)) gl=some (.lst (gs.map V.ref)):=by rw[Ad ngl];exact eg
  have tg8:ThsAt (upd H7 G.o (Ct G.outs)) gs ((G.outs.map (·.1)).filter fun t=>decide (t∉R)):=by
   refine Ay (fun b u e=>?_) tg
   rw[Ad fun z=>by rw[z,ho7] at e;cases e];exact e
  generalize upd H7 G.o (Ct G.outs)=H8 at s8 eg8 tg8
  have S8:=S6.same s8
  refine⟨p,gl,G,gs,_,rfl,S8,ok.ke,eg8,tg8,fun H9 S9 fr9=>?_⟩
  rw[Rt ok.ke] at S9
  obtain⟨dx9,hp9⟩:=S9.ob
  refine⟨_,rfl,p,C,dx9,_,_,rfl,hp9,T.cl,T.nT,B7 _,_,_,rfl,rfl,dx9,_,hp9,Da _,?_⟩
  rw[Bg]
  have S10:=S9.fld dx9 (keepR G R).made ((keepR G R).ticks+1)
  have fr10:HFr p G H8 (upd H9 p (.ins C dx9 (Bz { keepR G R with ticks:=(keepR G R).ticks+1 }))):=fun b o e h1 h2=>by rw[Ad h1];exact fr9 _ _ e h1 h2
  have S10:HouseAt C (upd H9 p (.ins C dx9 (Bz { keepR G R with ticks:=(keepR G R).ticks+1 }))) p (tk1 (keepR G R)):=S10
  generalize upd H9 p (.ins C dx9 (Bz { keepR G R with ticks:=(keepR G R).ticks+1 }))=H10 at S10 fr10
  obtain⟨dx10,hp10⟩:=S10.ob
  have s08:Bp H H8:=Ak s3 (Ak s4 (Ak s5 (Ak s6 s8)))
  refine⟨_,rfl,p,dx10,_,rfl,hp10,Bk _ (by decide +kernel),p,tk1 (keepR G R),n,rs,rfl,S10,okR.tk1,zn,ir1,fun q hq=>ir2 q (List.mem_filter.mp hq).1,pm,pw,fun x as H11 hx ex ba S11 fr11=>?_⟩
  have hx0:∀b o,H b=some o→b≠p→b∉foot G→b≠x:=fun b o e h1 h2=>Am (fr10 _ _ (s08 _ _ e) h1 h2) hx
  refine k x as H11 hx0 ex ba S11 fun b o e h1 h2=>fr11 _ _ (fr10 _ _ (s08 _ _ e) h1 h2) h1 fun z=>h2 (List.Sublist.subset (Ul (G:={ G with outs:=(keepR G R).outs }) List.filter_sublist) z)
end
end K42
namespace FX
open PySem PySem.Spec PyProof.Rows L2
theorem Jig{a b c d:Str}{k1 k2:NameKind}{cl:List (Str×Addr)}{y:Str}(hc:∃z,cl.lookup c=some z)(hd:∃z,cl.lookup d=some z)(h:([(a,NameKind.local),(b,NameKind.local),(c,k1),(d,k2)]:List (Str×NameKind)).lookup y=some .cell∨([(a,NameKind.local),(b,NameKind.local),(c,k1),(d,k2)]:List (Str×NameKind)).lookup y=some .free):∃z,cl.lookup y=some z :=
 V4 (fun p hp hk=>by
  simp only[List.mem_cons,List.not_mem_nil,or_false] at hp
  rcases hp with rfl|rfl|rfl|rfl
  ·rcases hk with hk|hk<;>cases hk
  ·rcases hk with hk|hk<;>cases hk
  ·exact hc
  ·exact hd) h
def WLet(H:Hp)(t:Addr)(n:Int)(kind:Str)(s g:Int)(tb:T2)(x:Int):Prop:=∃a b,H t=some (.tup [.int n,.str kind,.int s,.int g,.ref a])∧H a=some (.tup [.ref b,.int x])∧H b=some (.tup (tv tb))
theorem WLet.keep{H H':Hp}{t:Addr}{n:Int}{kind:Str}{s g:Int}{tb:T2}{x:Int}(h:WLet H t n kind s g tb x)(k:KeepT H H'):WLet H' t n kind s g tb x:=let⟨a,b,e1,e2,e3⟩:=h;⟨a,b,k.tup _ _ e1,k.tup _ _ e2,k.tup _ _ e3⟩
end FX
namespace K42
open PySem L2 FX
def Jio(G:HGh)(tb:T2)(wt:Int)(G':HGh):Prop:=(tb.1=G.num∧∃o,G.outs.find? (fun q=>decide (q.1=tb))=some (tb,o)∧G'={ G with ticks:=G.ticks+1,hand:=Bo G.hand tb,outs:=Ba G.outs tb (o-wt) })∨(tb.1≠G.num∧G'={ G with ticks:=G.ticks+1,hand:=Bo G.hand tb,recs:=Ba G.recs tb (V5 G.recs tb+wt) })
def Wt(kind:Str)(G:HGh)(tb:T2)(wt:Int)(G':HGh):Prop:=(kind="hold"∧Jio G tb wt G')∨(kind="more"∧G'={ G with ticks:=G.ticks+1,recs:=Ba G.recs tb (V5 G.recs tb+wt) })∨(kind="back"∧G'={ G with ticks:=G.ticks+1,outs:=gvO G tb wt })
theorem Wt.foot{kind:Str}{G G':HGh}{tb:T2}{wt:Int}(h:Wt kind G tb wt G'):foot G'=foot G:=by
 rcases h with⟨_,⟨_,o,_,rfl⟩|⟨_,rfl⟩⟩|⟨_,rfl⟩|⟨_,rfl⟩<;>rfl
section
variable {P:Program}{w:World}{K:W.Frag}{mg:Str→Option Value}{base:Heap}{CW C CP NH NI NL NHd NNr MI NW:Addr}
def Sz(G:HGh):Prop:=G.hand.length≤500∧G.outs.length≤500∧G.recs.length≤500
def Gd(CW C CP:Addr):Sp:=fun vs H Q _=>∃(p t:Addr)(W:WGh)(n s g:Int)(kind:Str)(tb:T2)(wt:Int)(q:Addr)(G G':HGh),vs=[.ref p,.ref t]∧WorldAt CW C CP H p W∧WLet H t n kind s g tb wt∧InW W g q G∧Wt kind G tb wt G'∧Sz G ∧
 ∀H',WorldAt CW C CP H' p { W with qs:=W.qs.set g.toNat (q,G') }→WFr p W H H'→Q .non H'
theorem scWWeight:Ao ["self","letter","kind","house","thing","weight"] ["self","letter"] (Aj Ib):={}
theorem Vq{f f1 f2 f3:Addr}{fd d1 d2 d3:FuncData}(F:Fun K "weight_came" "World.weight_came" Ib f fd)(T:Txt K mg C NHd NNr MI NW)(TW:En K mg CW NH NI)(M1:Mth K C "came" "House.came" Sy ["self","b","weight"] f1 d1)(G1:EX0 P w K mg base 2 f1 d1 ["self","b","weight"] (P7 C))(M2:Mth K C "added" "House.added" L3 ["self","b","weight"] f2 d2)(G2:EX0 P w K mg base 2 f2 d2 ["self","b","weight"] (La C))(M3:Mth K C "given" "House.given" L0 ["self","b","weight"] f3 d3):EX0 P w K mg base 3 f fd ["self","letter"] (Gd CW C CP):=by
 have G3:EX0 P w K mg base 1 f3 d3 ["self","b","weight"] (P5 C):=Tt M3.fn T
 refine F.ok scWWeight (fun vs H Q E h=>?_) (fun cdv A outer s H vs Q E hr h=>?_)
 ·obtain⟨p,t,W,n,s,g,kind,tb,wt,q,G,G',rfl,_⟩:=h
  rfl
 ·obtain⟨p,t,W,n,s,g,kind,tb,wt,q,G,G',rfl,S,⟨a,b,e1,e2,e3⟩,i,cm,⟨z1,z2,z3⟩,k⟩:=h
  have hr1:Room 1 _:=hr.mono (by decide)
  obtain⟨dx,hp⟩:=S.ob
  refine⟨_,Ac (Az (i:=2) scWWeight.nd rfl (Or.inl rfl) (Av Aq (pv 1) Ag))
   (Ac (Az (i:=3) scWWeight.nd rfl (Or.inl rfl) (Av Cz (Aw (pv 0) rfl) (Av Aq (pv 1) Ag)))
   (Ac (Az (i:=4) scWWeight.nd rfl (Or.inl rfl) (Av Aq (Av Aq (pv 1) Ag) Ag))
   (Ac (Az (i:=5) scWWeight.nd rfl (Or.inl rfl) (Av Aq (Av Aq (pv 1) Ag) Ag))
   (Af (A9 (Au Bx (pv 2) As (A0 _)) (Af (A7 (Ap (pl:=_) (pv 3) T.cl M1.mt G1 hr M1.bd .nil Bj (Aa (pv 4) (Aa (pv 5) Ae)))))
    (Af (A9 (Au Bx (pv 2) As (A0 _)) (Af (A7 (Ap (pl:=_) (pv 3) T.cl M2.mt G2 hr M2.bd .nil Bj (Aa (pv 4) (Aa (pv 5) Ae)))))
     (Af (A7 (Ap (pl:=_) (pv 3) T.cl M3.mt G3 hr1 M3.bd .nil Bj (Aa (pv 4) (Aa (pv 5) Ae)))))))))))),?_⟩
  refine⟨_,rfl,t,_,_,_,rfl,rfl,SqT.of e1,rfl,?_⟩
  refine⟨_,rfl,p,CW,dx,_,_,rfl,hp,TW.cl,TW.nH,Ez W,_,rfl,t,_,_,_,rfl,rfl,SqT.of e1,rfl,W.hs,_,_,_,rfl,rfl,SqL.of S.hs,i.atI,?_⟩
  refine⟨_,rfl,t,_,_,_,rfl,rfl,SqT.of e1,rfl,a,_,_,_,rfl,rfl,SqT.of e2,rfl,?_⟩
  refine⟨_,rfl,t,_,_,_,rfl,rfl,SqT.of e1,rfl,a,_,_,_,rfl,rfl,SqT.of e2,rfl,?_⟩
  obtain⟨dx1,hq⟩:=(i.at S).ob
  have dn:Done C q G H G' fun H'=>Q .non H':=fun H' S' fr=>by
   obtain⟨x1,x2⟩:=S.step i.2 S' fr fun b hb=>.inl (by rw[cm.foot] at hb;exact hb)
   exact k H' x1 x2
  rcases cm with⟨rfl,cm⟩|⟨rfl,rfl⟩|⟨rfl,rfl⟩
  ·refine Hu ⟨_,rfl,q,dx1,_,rfl,hq,Bk G (by decide +kernel),_,rfl,_,rfl,q,b,G,tb,wt,rfl,i.at S,e3,z1,z2,z3,?_⟩
   rcases cm with⟨h1,o,h2,rfl⟩|⟨h1,rfl⟩
   ·exact .inl ⟨h1,o,h2,dn⟩
   ·exact .inr ⟨h1,dn⟩
  ·exact noI (Hu ⟨_,rfl,q,dx1,_,rfl,hq,Bk G (by decide +kernel),_,rfl,_,rfl,q,b,G,tb,wt,rfl,i.at S,e3,z3,dn⟩)
  ·exact noI (noI ⟨_,rfl,q,dx1,_,rfl,hq,Bk G (by decide +kernel),_,rfl,_,rfl,q,b,G,tb,wt,rfl,i.at S,e3,z2,dn⟩)
def Dx(G:HGh)(tb:T2)(sh:Int)(mine:Bool):HGh:={ G with ticks:=G.ticks+1,hand:=psH G tb mine,outs:=psO G tb sh mine }
def N7(p:Addr)(W:WGh)(H:Hp)(x:Addr):Prop:=∀b o,H b=some o→b∉Cs p W→b≠x
def K7(CW C CP:Addr):Sp:=fun vs H Q _=>∃(p t:Addr)(W:WGh)(n s home goal:Int)(tb:T2)(q:Addr)(G:HGh),vs=[.ref p,.ref t]∧WorldAt CW C CP H p W∧WLet H t n "pass" s home tb goal∧InW W home q G∧Sz G∧tb∈G.outs.map (·.1)∧W.ls.length≤400 ∧
 ((goal=home∧∀(x t1:Addr)(H':Hp),WorldAt CW C CP H' p { W with qs:=W.qs.set home.toNat (q,Dx G tb W.share true),c:=W.c+1,ls:=W.ls++[(W.c+1,t1)] }→WLet H' t1 (W.c+1) "more" home s tb W.share→WFr p W H H'→x≠W.hs→N7 p W H x→H' x=some (.lst [.int (W.c+1)])→Q (.ref x) H') ∨
  (goal≠home∧∀(x t1 t2:Addr)(H':Hp),WorldAt CW C CP H' p { W with qs:=W.qs.set home.toNat (q,Dx G tb W.share false),c:=W.c+1+1,ls:=W.ls++[(W.c+1,t1)]++[(W.c+1+1,t2)] }→WLet H' t1 (W.c+1) "hold" home goal tb W.share→WLet H' t2 (W.c+1+1) "more" home s tb W.share→WFr p W H H'→x≠W.hs→N7 p W H x→H' x=some (.lst [.int (W.c+1),.int (W.c+1+1)])→Q (.ref x) H'))
theorem scWPass:Ao ["self","letter","home","thing","goal","went"] ["self","letter"] (Aj Qc):={}
theorem Jay{f f1 f3:Addr}{fd d1 d3:FuncData}(F:Fun K "pass_came" "World.pass_came" Qc f fd)(T:Txt K mg C NHd NNr MI NW)(TW:En K mg CW NH NI)(TP:Nv K mg CP NL)(M1:Mth K C "passed" "House.passed" Ie ["self","b","share","mine"] f1 d1)(M3:Mth K CP "put" "Post.put" Og ["self","kind","sender","goal","about"] f3 d3) :
 EX0 P w K mg base 2 f fd ["self","letter"] (K7 CW C CP):=by
 have G1:EX0 P w K mg base 1 f1 d1 ["self","b","share","mine"] (Lq C):=Om M1.fn T
 have G3:EX0 P w K mg base 1 f3 d3 ["self","kind","sender","goal","about"] (Lr CP):=Qx M3.fn TP
 refine F.ok scWPass (fun vs H Q E h=>?_) (fun cdv A outer s H vs Q E hr h=>?_)
 ·obtain⟨p,t,W,n,s,home,goal,tb,q,G,rfl,_⟩:=h
  rfl
 ·obtain⟨p,t,W,n,s,home,goal,tb,q,G,rfl,S,⟨a,b,e1,e2,e3⟩,i,⟨z1,z2,z3⟩,ho,zl,k⟩:=h
  obtain⟨dx,hp⟩:=S.ob
  refine⟨_,Ac (Az (i:=2) scWPass.nd rfl (Or.inl rfl) (Av Aq (pv 1) Ag))
   (Ac (Az (i:=3) scWPass.nd rfl (Or.inl rfl) (Av Aq (Av Aq (pv 1) Ag) Ag))
   (Ac (Az (i:=4) scWPass.nd rfl (Or.inl rfl) (Av Aq (Av Aq (pv 1) Ag) Ag))
   (Ac (A7 (Ap (pl:=_) (Av Cz (Aw (pv 0) rfl) (pv 2)) T.cl M1.mt G1 hr M1.bd .nil Bj (Aa (pv 3) (Aa (Aw (pv 0) rfl) (Aa (Lf Bx (pv 4) (pv 2) (A0 _)) Ae)))))
   (Ac (Az (i:=5) scWPass.nd rfl (Or.inl rfl) (Fi Ae))
   (Ac (A9 (Au Xj (pv 4) (pv 2) (A0 _)) (Af (A7 (Kk PySem.F.plainAttrs_list PySem.F.slot_list_append PySem.F.type_list_append Dm (pv 5) (Aa (Ap (pl:=_) (Aw (pv 0) rfl) TP.cl M3.mt G3 hr M3.bd .nil Bj (Aa As (Aa (pv 2) (Aa (pv 4) (Aa (Bn (Aa (pv 3) (Aa (Aw (pv 0) rfl) Ae))) Ae))))) Ae)))) Ax)
   (Ac (A7 (Kk PySem.F.plainAttrs_list PySem.F.slot_list_append PySem.F.type_list_append Dm (pv 5) (Aa (Ap (pl:=_) (Aw (pv 0) rfl) TP.cl M3.mt G3 hr M3.bd .nil Bj (Aa As (Aa (pv 2) (Aa (Av Aq (pv 1) Ag) (Aa (Bn (Aa (pv 3) (Aa (Aw (pv 0) rfl) Ae))) Ae))))) Ae)))
   (Af (Ar (pv 5))))))))),?_⟩
  refine⟨_,rfl,t,_,_,_,rfl,rfl,SqT.of e1,rfl,?_⟩
  refine⟨_,rfl,t,_,_,_,rfl,rfl,SqT.of e1,rfl,a,_,_,_,rfl,rfl,SqT.of e2,rfl,?_⟩
  refine⟨_,rfl,t,_,_,_,rfl,rfl,SqT.of e1,rfl,a,_,_,_,rfl,rfl,SqT.of e2,rfl,?_⟩
  obtain⟨dx1,hq⟩:=(i.at S).ob
  refine⟨_,rfl,p,CW,dx,_,_,rfl,hp,TW.cl,TW.nH,Ez W,_,rfl,W.hs,_,_,_,rfl,rfl,SqL.of S.hs,i.atI,q,dx1,_,rfl,hq,Bk G (by decide +kernel),_,rfl,_,rfl,p,CW,dx,_,_,rfl,hp,TW.cl,TW.nS,Fs W,_,rfl,_,rfl,rfl,q,b,G,tb,W.share,decide (V.int goal=V.int home),rfl,i.at S,e3,z2,z1,ho,fun H1 S1 fr1=>?_⟩
  obtain⟨W1,wf1⟩:=S.step i.2 S1 fr1 fun b hb=>.inl hb
  have kt1:=WFr.keepT S wf1
  refine⟨Nat.zero_le _,fun x hx=>?_⟩
  have s2:=Ah (o:=.lst []) hx
  have ex:(upd H1 x (.lst [])) x=some (.lst []):=Ab
  have W2:=W1.same s2
  have kt2:=kt1.trans (Ji0 s2)
  have xhs:x≠W.hs:=fun z=>by rw[z] at hx;rw[W1.hs] at hx;cases hx
  have xnw:N7 p W H x:=fun b o e hb z=>by rw[←z,wf1 b o e hb] at hx;cases hx
  have ef1:=kt2.tup _ _ e1
  have ef3:=kt2.tup _ _ e3
  obtain⟨dx2,hp2⟩:=W2.ob
  obtain⟨dx3,hq2⟩:=W2.po.ob
  have xno:x∉Cs p { W with qs:=W.qs.set home.toNat (q,Dx G tb W.share (decide (V.int goal=V.int home))) }:=W2.lst_no ex xhs
  refine⟨_,rfl,_,rfl,rfl,_,rfl,?_⟩
  rcases k with⟨rfl,k⟩|⟨ne,k⟩
  ·rw[show(!decide (V.int goal=V.int goal))=false by simp]
   refine B0 ?_
   refine⟨_,rfl,.inl ⟨rfl,_,SqL.of ex⟩,_,rfl,p,CW,dx2,_,_,rfl,hp2,TW.cl,TW.nP,D6 _,W.po,dx3,_,rfl,hq2,Dr _ _ (by decide +kernel) (by decide +kernel),_,rfl,_,rfl,t,_,_,_,rfl,rfl,SqT.of ef1,rfl,_,rfl,_,rfl,p,CW,dx2,_,_,rfl,hp2,TW.cl,TW.nS,Fs _,(by show 2≤sizeLine;decide),fun a2 ha2=>?_⟩
   have s3:=Ah (o:=.tup [V.ref b,V.int W.share]) ha2
   have W3:=W2.same s3
   refine⟨W.po,W.pd,W.c,W.ls,_,_,_,_,rfl,W3.po,Nat.le_trans zl (by decide),fun t1 H4 ht et S4 fr4=>?_⟩
   obtain⟨W4,wf4⟩:=W3.posted S4 fr4
   have kt4:=WFr.keepT W3 wf4
   have ex4:H4 x=some (.lst []):=wf4 _ _ (s3 _ _ ex) xno
   refine⟨x,_,_,rfl,rfl,ex4,A3 (by show 0≤1000;decide),?_⟩
   have kq:KeepT H4 (upd H4 x (.lst ([]++[V.int (W.c+1)]))):=Ji1 fun o' e=>by
    rw[ex4] at e;cases e;exact⟨fun _ z=>(by cases z),fun _ _ z=>(by cases z)⟩
   refine⟨_,rfl,k x t1 _ ?_ ⟨a2,b,kq.tup _ _ et,kq.tup _ _ (kt4.tup _ _ Ab),kq.tup _ _ (kt4.tup _ _ (s3 _ _ ef3))⟩ (fun b' o' e' hb'=>?_) xhs xnw Ab⟩
   ·have:=W4.keep (H':=upd H4 x (.lst ([]++[V.int (W.c+1)]))) fun b' o' hb' e'=>by rw[Ad (fun z=>xno (by rw[←z];exact hb'))];exact e'
    rw[show decide (V.int goal=V.int goal)=true by simp] at this
    exact this
   ·have hbx:b'≠x:=fun z=>by rw[z] at e' hb';rw[wf1 x o' e' hb'] at hx;cases hx
    rw[Ad hbx]
    exact fr4 b' o' (s3 _ _ (s2 _ _ (wf1 b' o' e' hb'))) (fun z=>hb' (ZB _ (by rw[z];simp[Cb]))) fun z=>hb' (ZB _ (by rw[z];simp[Cb]))
  ·rw[show(!decide (V.int goal=V.int home))=true by simp[ne]]
   refine Cd ?_
   refine⟨_,rfl,.inl ⟨rfl,_,SqL.of ex⟩,_,rfl,p,CW,dx2,_,_,rfl,hp2,TW.cl,TW.nP,D6 _,W.po,dx3,_,rfl,hq2,Dr _ _ (by decide +kernel) (by decide +kernel),_,rfl,_,rfl,_,rfl,_,rfl,p,CW,dx2,_,_,rfl,hp2,TW.cl,TW.nS,Fs _,(by show 2≤sizeLine;decide),fun a2 ha2=>?_⟩
   have s3:=Ah (o:=.tup [V.ref b,V.int W.share]) ha2
   have W3:=W2.same s3
   refine⟨W.po,W.pd,W.c,W.ls,_,_,_,_,rfl,W3.po,Nat.le_trans zl (by decide),fun t1 H4 ht et S4 fr4=>?_⟩
   obtain⟨W4,wf4⟩:=W3.posted S4 fr4
   have kt4:=WFr.keepT W3 wf4
   have ex4:H4 x=some (.lst []):=wf4 _ _ (s3 _ _ ex) xno
   refine⟨x,_,_,rfl,rfl,ex4,A3 (by show 0≤1000;decide),?_⟩
   have kq:KeepT H4 (upd H4 x (.lst ([]++[V.int (W.c+1)]))):=Ji1 fun o' e=>by
    rw[ex4] at e;cases e;exact⟨fun _ z=>(by cases z),fun _ _ z=>(by cases z)⟩
   have l1:WLet (upd H4 x (.lst ([]++[V.int (W.c+1)]))) t1 (W.c+1) "hold" home goal tb W.share:=⟨a2,b,kq.tup _ _ et,kq.tup _ _ (kt4.tup _ _ Ab),kq.tup _ _ (kt4.tup _ _ (s3 _ _ ef3))⟩
   have W5:=W4.keep (H':=upd H4 x (.lst ([]++[V.int (W.c+1)]))) fun b' o' hb' e'=>by rw[Ad (fun z=>xno (by rw[←z];exact hb'))];exact e'
   have ex5:(upd H4 x (.lst ([]++[V.int (W.c+1)]))) x=some (.lst [V.int (W.c+1)]):=Ab
   have ef1':=kq.tup _ _ (kt4.tup _ _ (s3 _ _ ef1))
   have ef3':=kq.tup _ _ (kt4.tup _ _ (s3 _ _ ef3))
   have wf5:∀b' o',H b'=some o'→b'∉Cs p W→(upd H4 x (.lst ([]++[V.int (W.c+1)]))) b'=some o':=fun b' o' e' hb'=>by
    have hbx:b'≠x:=fun z=>by rw[z] at e' hb';rw[wf1 x o' e' hb'] at hx;cases hx
    rw[Ad hbx]
    exact fr4 b' o' (s3 _ _ (s2 _ _ (wf1 b' o' e' hb'))) (fun z=>hb' (ZB _ (by rw[z];simp[Cb]))) fun z=>hb' (ZB _ (by rw[z];simp[Cb]))
   generalize upd H4 x (.lst ([]++[V.int (W.c+1)]))=H5 at l1 W5 ex5 ef1' ef3' wf5
   obtain⟨dx5,hp5⟩:=W5.ob
   obtain⟨dx6,hq5⟩:=W5.po.ob
   refine⟨_,rfl,.inl ⟨rfl,_,SqL.of ex5⟩,_,rfl,p,CW,dx5,_,_,rfl,hp5,TW.cl,TW.nP,D6 _,W.po,dx6,_,rfl,hq5,Dr _ _ (by decide +kernel) (by decide +kernel),_,rfl,_,rfl,t,_,_,_,rfl,rfl,SqT.of ef1',rfl,_,rfl,_,rfl,p,CW,dx5,_,_,rfl,hp5,TW.cl,TW.nS,Fs _,(by show 2≤sizeLine;decide),fun a6 ha6=>?_⟩
   have s6:=Ah (o:=.tup [V.ref b,V.int W.share]) ha6
   have W6:=W5.same s6
   refine⟨W.po,W.pd,W.c+1,W.ls++[(W.c+1,t1)],_,_,_,_,rfl,W6.po,(by rw[ZE];show _+1≤500;omega),fun t2 H7 ht7 et7 S7 fr7=>?_⟩
   obtain⟨W7,wf7⟩:=W6.posted S7 fr7
   have kt7:=WFr.keepT W6 wf7
   have ex7:H7 x=some (.lst [V.int (W.c+1)]):=wf7 _ _ (s6 _ _ ex5) xno
   refine⟨x,_,_,rfl,rfl,ex7,A3 (by show 1≤1000;decide),?_⟩
   have kr:KeepT H7 (upd H7 x (.lst ([V.int (W.c+1)]++[V.int (W.c+1+1)]))):=Ji1 fun o' e=>by
    rw[ex7] at e;cases e;exact⟨fun _ z=>(by cases z),fun _ _ z=>(by cases z)⟩
   refine⟨_,rfl,k x t1 t2 _ ?_ (l1.keep (((Ji0 s6).trans kt7).trans kr)) ⟨a6,b,kr.tup _ _ et7,kr.tup _ _ (kt7.tup _ _ Ab),kr.tup _ _ (kt7.tup _ _ (s6 _ _ ef3'))⟩ (fun b' o' e' hb'=>?_) xhs xnw Ab⟩
   ·have:=W7.keep (H':=upd H7 x (.lst ([V.int (W.c+1)]++[V.int (W.c+1+1)]))) fun b' o' hb' e'=>by rw[Ad (fun z=>xno (by rw[←z];exact hb'))];exact e'
    rw[show decide (V.int goal=V.int home)=false by simp[ne]] at this
    exact this
   ·have hbx:b'≠x:=fun z=>by rw[z] at e' hb';rw[wf1 x o' e' hb'] at hx;cases hx
    rw[Ad hbx]
    exact fr7 b' o' (s6 _ _ (wf5 b' o' e' hb')) (fun z=>hb' (ZB _ (by rw[z];simp[Cb]))) fun z=>hb' (ZB _ (by rw[z];simp[Cb]))
end
section
variable {P:Program}{w:World}{K:W.Frag}{mg:Str→Option Value}{base:Heap}{CW C CP CI NH NI NL NHd NNr MI NW:Addr}
def Ee(CW C CP:Addr):Sp:=fun vs H Q _=>∃(p:Addr)(W:WGh),vs=[.ref p]∧WorldAt CW C CP H p W∧∀(l:Addr)(H':Hp),H l=none→H' l=some (.lst (W.ls.map fun x=>V.ref x.2))→Bp H H'→Q (.ref l) H'
theorem Vl:Ao ["self"] ["self"] (Aj Ea):={}
theorem Tp{f f1:Addr}{fd d1:FuncData}(F:Fun K "letters" "World.letters" Ea f fd)(TW:En K mg CW NH NI)(TP:Nv K mg CP NL)(M1:Mth K CP "letters" "Post.letters" Gg ["self"] f1 d1):EX0 P w K mg base 2 f fd ["self"] (Ee CW C CP):=by
 have G1:EX0 P w K mg base 1 f1 d1 ["self"] (Lu CP):=Tr M1.fn TP
 refine F.ok Vl (fun vs H Q E h=>?_) (fun cdv A outer s H vs Q E hr h=>?_)
 ·obtain⟨p,W,rfl,_⟩:=h
  rfl
 ·obtain⟨p,W,rfl,S,k⟩:=h
  obtain⟨dx,hp⟩:=S.ob
  obtain⟨dx1,hq⟩:=S.po.ob
  refine⟨_,Af (Ar (Cg (pl:=_) (Aw (pv 0) rfl) TP.cl M1.mt G1 hr M1.bd .nil Bj)),?_⟩
  exact⟨_,rfl,p,CW,dx,_,_,rfl,hp,TW.cl,TW.nP,D6 W,W.po,dx1,_,rfl,hq,Dr _ _ (by decide +kernel) (by decide +kernel),W.po,W.pd,W.c,W.ls,rfl,S.po,k⟩
structure Ph(G:HGh)(i:Nat):Prop where
 eq:∃h o l r,G=⟨(i:Int),0,0,h,o,l,r,[],[],[],[]⟩
def Wq(CW C CP:Addr):Sp:=fun vs H Q _=>∃(p dx:Addr)(m sh:Int),vs=[.ref p,.int m,.int sh]∧H p=some (.ins CW dx [])∧0≤m∧m≤12 ∧
 ∀(W:WGh)(H':Hp),WorldAt CW C CP H' p W→W.share=sh→W.c=0→W.ls=[]→W.iqs=[]→W.fis=[]→W.ens=[]→W.qs.length=m.toNat→(∀i q G,W.qs[i]?=some (q,G)→Ph G i)→(∀b u,H b=some u→b≠p→H' b=some u)→Q .non H'
theorem Jco:Ao ["self","many","share"] ["self","many","share"] (Aj Vm):={}
theorem Ja0{f fI fP:Addr}{fd dI dP:FuncData}(F:Fun K "__init__" "World.__init__" Vm f fd)(T:Txt K mg C NHd NNr MI NW)(TW:En K mg CW NH NI)(TP:Nv K mg CP NL)(MmH:Mk K C fI)(FI:Fun K "__init__" "House.__init__" Sr fI dI)(bI:Binds K dI ["self","number"] [])(MmP:Mk K CP fP)(FP:Fun K "__init__" "Post.__init__" Ql fP dP)(bP:Binds K dP ["self"] []):EX0 P w K mg base 3 f fd ["self","many","share"] (Wq CW C CP):=by
 have GI:EX0 P w K mg base 1 fI dI ["self","number"] (Hj C):=Xk FI T
 have GP:EX0 P w K mg base 1 fP dP ["self"] (Ww CP):=Ja8 FP TP
 refine F.ok Jco (fun vs H Q E h=>?_) (fun cdv A outer s H vs Q E hr h=>?_)
 ·obtain⟨p,dx,m,sh,rfl,_⟩:=h
  rfl
 ·obtain⟨p,dx,m,sh,rfl,hp,m0,m1,k⟩:=h
  refine⟨_,Ac (Dh (pv 0) (pv 2) rfl)
   (Ac (Dh (pv 0) (Fj (te:=Oa C (Hj C) [] E0 (Dk (Co 0) Jo)) (caps:=[]) rfl (Jz rfl T.range (Aa (pv 1) Ae))
    rfl (by decide +kernel) rfl (by decide +kernel) rfl trivial (fun y h=>Jgy h) trivial (by decide +kernel) (fun _ _ _ _ _=>Gi)
    (fun _ _ _ _ _=>Qr MmH GI hr (by rfl) T.mgC bI .nil Bj (Aa (pv 0) Ae))) rfl)
   (Ac (Dh (pv 0) (Jar MmP GP hr (by rfl) TP.mgC bP .nil Bj) rfl)
   (Ac (Dh (pv 0) F0 rfl) (Ac (Dh (pv 0) F0 rfl) (Af (Dh (pv 0) F0 rfl)))))),?_⟩
  refine⟨_,rfl,_,rfl,p,CW,dx,[],rfl,hp,TW.cl,TW.nS,(by show 0<1000;decide),?_⟩
  have h1:(upd H p (.ins CW dx (Al "share" (.int sh) []))) p=some (.ins CW dx (Al "share" (.int sh) [])):=Ab
  have k1:Kp p H (upd H p (.ins CW dx (Al "share" (.int sh) []))):=Ji5
  generalize upd H p (.ins CW dx (Al "share" (.int sh) []))=H1 at h1 k1
  have mm:(m.toNat:Int)=m:=Int.toNat_of_nonneg m0
  refine⟨_,rfl,m,rfl,by lia,by lia,fun r hr'=>?_⟩
  have li0:Lies (upd H1 r (.lst [])) [r,p]:=(Lies.mk (L:=[p]) (by simp) (fun b hb=>by rw[ZK hb];exact⟨_,h1⟩)).new hr' ⟨_,Ab⟩ fun b o e=>⟨o,Ah hr' b o e⟩
  refine Nm (lo:=0) (n:=m.toNat) (tt:=fun _ H Q=>Q true H) (te:=Oa C (Hj C) [] E0 (Dk (Co 0) Jo)) (caps:=[]) (σ:=[some (.ref p),some (.int m),some (.int sh)])
   (fun i ys H2=>H2 r=some (.lst ys)∧Bp H1 H2∧∃qs:List (Addr×HGh),ys=qs.map (fun q=>V.ref q.1)∧qs.length=i∧(∀j q G,qs[j]?=some (q,G)→Ph G j)∧(∀q∈qs,HouseAt C H2 q.1 q.2)∧Lies H2 (A6 qs++[r,p]))
   ⟨Ab,Ah hr',[],rfl,rfl,fun j q G e=>by simp at e,fun q hq=>by simp at hq,li0⟩ (fun i ys H2 _ h=>h.1) ?_ ?_
  ·rintro i ys H2 N hi ⟨er,s2,qs,rfl,ql,em,ho,li⟩ hN
   refine Cd ?_
   refine⟨_,rfl,fun x dxx nx ndx nex=>⟨x,dxx,_,rfl,Ab,fun h o l r' H3 fh fo fl fr S3 kp3=>⟨rfl,?_⟩⟩⟩
   have s02:Bp H2 (upd (upd H2 dxx (.own x)) x (.ins C dxx [])):=fun b o e=>by
    rw[Ad (Am e nx),Ad (Am e ndx)]
    exact e
   have s3:Bp H2 H3:=fun b o e=>kp3 b o (s02 b o e) (Am e nx)
   have er3:=s3 _ _ er
   have e0:(0:Int)+(i:Int)=(i:Int):=by lia
   rw[e0] at S3
   refine⟨er3,A3 (by rw[ZA];lia),hN _ _ ⟨Ab,fun b o e=>?_,qs++[(x,⟨(i:Int),0,0,h,o,l,r',[],[],[],[]⟩)],by rw[ZF];rfl,by rw[ZE,ql];rfl,fun j q G e=>?_,fun q hq=>?_,?_⟩⟩
   ·rw[Ad (fun z=>by rw[z,hr'] at e;cases e)]
    exact s3 _ _ (s2 _ _ e)
   ·by_cases z:j<qs.length
    ·rw[List.getElem?_append_left z] at e
     exact em j q G e
    ·rw[List.getElem?_append_right (by lia)] at e
     have zj:j-qs.length=0:=by
      rcases Nat.eq_zero_or_pos (j-qs.length) with h|h
      ·exact h
      ·rw[List.getElem?_eq_none (by simp;lia)] at e;cases e
     rw[zj] at e
     have e:(x,(⟨(i:Int),0,0,h,o,l,r',[],[],[],[]⟩:HGh))=(q,G):=by simpa using e
     have ej:j=i:=by lia
     rw[ej,←(Prod.mk.inj e).2]
     exact⟨_,_,_,_,rfl⟩
   ·have all:∀q∈qs++[(x,(⟨(i:Int),0,0,h,o,l,r',[],[],[],[]⟩:HGh))],HouseAt C H3 q.1 q.2:=fun q hq=>by
     rcases ZI hq with hq|hq
     ·exact(ho q hq).same s3
     ·rw[ZK hq];exact S3
    have hq3:=all q hq
    have ne:=hq3.lst_ne er3
    exact hq3.keep fun b o hb e=>by
     rw[Ad (fun z=>by rw[z] at hb;exact hb.elim ne.1 ne.2)];exact e
   ·have a1:Lies H3 ((x::foot ⟨(i:Int),0,0,h,o,l,r',[],[],[],[]⟩)++(A6 qs++[r,p])):=by
     refine li.add (List.nodup_cons.mpr ⟨fun m=>S3.p_ne m rfl,S3.nd⟩) (fun b hb=>?_) (fun b hb=>?_) fun b o e=>⟨o,s3 b o e⟩
     ·rcases ZM hb with rfl|hb
      ·exact nx
      ·simp only[foot,List.map_nil,List.mem_cons,List.not_mem_nil,or_false] at hb
       rcases hb with rfl|rfl|rfl|rfl
       ·exact B5 s02 fh
       ·exact B5 s02 fo
       ·exact B5 s02 fl
       ·exact B5 s02 fr
     ·rcases ZM hb with rfl|hb
      ·obtain⟨d,e⟩:=S3.ob;exact⟨_,e⟩
      ·obtain⟨kv,e⟩:=S3.foot_dT hb;exact⟨_,e⟩
    have a2:A6 (qs++[(x,(⟨(i:Int),0,0,h,o,l,r',[],[],[],[]⟩:HGh))])++[r,p]=(A6 qs++(x::foot ⟨(i:Int),0,0,h,o,l,r',[],[],[],[]⟩))++[r,p]:=by
     rw[Cv]
     show(A6 qs++((x::foot ⟨(i:Int),0,0,h,o,l,r',[],[],[],[]⟩)++[]))++[r,p]=_
     rw[List.append_nil]
    rw[a2]
    refine((a1.perm ?_).keep fun b o e=>?_)
    ·rw[←List.append_assoc]
     exact List.Perm.append_right _ List.perm_append_comm
    ·by_cases z:b=r
     ·rw[z];exact⟨_,Ab⟩
     ·exact⟨o,by rw[Ad z];exact e⟩
  ·rintro ys H2 ⟨er,s2,qs,rfl,ql,em,ho,li⟩
   have hp2:=s2 _ _ h1
   have l1:=A4 "share" (.int sh) []
   refine⟨_,rfl,p,CW,dx,_,rfl,hp2,TW.cl,TW.nH,(by simp only[List.length_nil] at l1;lia),?_⟩
   have l2:=A4 "houses" (.ref r) (Al "share" (.int sh) [])
   have k3:Kp p H2 (upd H2 p (.ins CW dx (Al "houses" (.ref r) (Al "share" (.int sh) [])))):=Ji5
   have hp3:(upd H2 p (.ins CW dx (Al "houses" (.ref r) (Al "share" (.int sh) [])))) p=some (.ins CW dx (Al "houses" (.ref r) (Al "share" (.int sh) []))):=Ab
   generalize upd H2 p (.ins CW dx (Al "houses" (.ref r) (Al "share" (.int sh) [])))=H3 at k3 hp3
   have li3:=li.keep (k3.ex ⟨_,hp3⟩)
   intro po dxp npo ndxp nexp
   refine⟨po,dxp,rfl,Ab,fun pd H4 hpd P4 kp4=>⟨rfl,?_⟩⟩
   have s34:Bp H3 (upd (upd H3 dxp (.own po)) po (.ins CP dxp [])):=fun b o e=>by
    rw[Ad (Am e npo),Ad (Am e ndxp)]
    exact e
   have s4:Bp H3 H4:=fun b o e=>kp4 b o (s34 b o e) (Am e npo)
   have hp4:=s4 _ _ hp3
   have li4:Lies H4 (pd::po::(A6 qs++[r,p])):=by
    have a:=li3.new (b:=po) (H':=upd (upd H3 dxp (.own po)) po (.ins CP dxp [])) npo ⟨_,Ab⟩ fun b o e=>⟨o,s34 b o e⟩
    refine a.new hpd ⟨_,P4.dc⟩ fun b o e=>?_
    by_cases z:b=po
    ·rw[z];obtain⟨d,e2⟩:=P4.ob;exact⟨_,e2⟩
    ·exact⟨o,kp4 b o e z⟩
   refine⟨_,rfl,p,CW,dx,_,rfl,hp4,TW.cl,TW.nP,(by simp only[List.length_nil] at l1;lia),?_⟩
   have l3:=A4 "post" (.ref po) (Al "houses" (.ref r) (Al "share" (.int sh) []))
   have k5:Kp p H4 (upd H4 p (.ins CW dx (Al "post" (.ref po) (Al "houses" (.ref r) (Al "share" (.int sh) []))))):=Ji5
   have hp5:(upd H4 p (.ins CW dx (Al "post" (.ref po) (Al "houses" (.ref r) (Al "share" (.int sh) []))))) p=some (.ins CW dx (Al "post" (.ref po) (Al "houses" (.ref r) (Al "share" (.int sh) [])))):=Ab
   generalize upd H4 p (.ins CW dx (Al "post" (.ref po) (Al "houses" (.ref r) (Al "share" (.int sh) []))))=H5 at k5 hp5
   have li5:=li4.keep (k5.ex ⟨_,hp5⟩)
   intro iq hiq
   have li6:=li5.new (H':=upd H5 iq (.dK [])) hiq ⟨_,Ab⟩ fun b o e=>⟨o,Ah hiq b o e⟩
   have eiq:(upd H5 iq (.dK [])) iq=some (.dK []):=Ab
   have s6:=Ah (o:=.dK []) hiq
   generalize upd H5 iq (.dK [])=H6 at li6 eiq s6
   refine⟨_,rfl,p,CW,dx,_,rfl,s6 _ _ hp5,TW.cl,TW.nI,(by simp only[List.length_nil] at l1;lia),?_⟩
   have l4:=A4 "inquiries" (.ref iq) (Al "post" (.ref po) (Al "houses" (.ref r) (Al "share" (.int sh) [])))
   have k7:Kp p H6 (upd H6 p (.ins CW dx (Al "inquiries" (.ref iq) (Al "post" (.ref po) (Al "houses" (.ref r) (Al "share" (.int sh) [])))))):=Ji5
   have hp7:(upd H6 p (.ins CW dx (Al "inquiries" (.ref iq) (Al "post" (.ref po) (Al "houses" (.ref r) (Al "share" (.int sh) [])))))) p=some (.ins CW dx (Al "inquiries" (.ref iq) (Al "post" (.ref po) (Al "houses" (.ref r) (Al "share" (.int sh) []))))):=Ab
   generalize upd H6 p (.ins CW dx (Al "inquiries" (.ref iq) (Al "post" (.ref po) (Al "houses" (.ref r) (Al "share" (.int sh) [])))))=H7 at k7 hp7
   have li7:=li6.keep (k7.ex ⟨_,hp7⟩)
   intro fi hfi
   have li8:=li7.new (H':=upd H7 fi (.dK [])) hfi ⟨_,Ab⟩ fun b o e=>⟨o,Ah hfi b o e⟩
   have efi:(upd H7 fi (.dK [])) fi=some (.dK []):=Ab
   have s8:=Ah (o:=.dK []) hfi
   generalize upd H7 fi (.dK [])=H8 at li8 efi s8
   refine⟨_,rfl,p,CW,dx,_,rfl,s8 _ _ hp7,TW.cl,TW.nF,(by simp only[List.length_nil] at l1;lia),?_⟩
   have l5:=A4 "finds" (.ref fi) (Al "inquiries" (.ref iq) (Al "post" (.ref po) (Al "houses" (.ref r) (Al "share" (.int sh) []))))
   have k9:Kp p H8 (upd H8 p (.ins CW dx (Al "finds" (.ref fi) (Al "inquiries" (.ref iq) (Al "post" (.ref po) (Al "houses" (.ref r) (Al "share" (.int sh) []))))))):=Ji5
   have hp9:(upd H8 p (.ins CW dx (Al "finds" (.ref fi) (Al "inquiries" (.ref iq) (Al "post" (.ref po) (Al "houses" (.ref r) (Al "share" (.int sh) []))))))) p=some (.ins CW dx (Al "finds" (.ref fi) (Al "inquiries" (.ref iq) (Al "post" (.ref po) (Al "houses" (.ref r) (Al "share" (.int sh) [])))))):=Ab
   generalize upd H8 p (.ins CW dx (Al "finds" (.ref fi) (Al "inquiries" (.ref iq) (Al "post" (.ref po) (Al "houses" (.ref r) (Al "share" (.int sh) []))))))=H9 at k9 hp9
   have li9:=li8.keep (k9.ex ⟨_,hp9⟩)
   intro en hen
   have li10:=li9.new (H':=upd H9 en (.dK [])) hen ⟨_,Ab⟩ fun b o e=>⟨o,Ah hen b o e⟩
   have een:(upd H9 en (.dK [])) en=some (.dK []):=Ab
   have s10:=Ah (o:=.dK []) hen
   generalize upd H9 en (.dK [])=HA at li10 een s10
   refine⟨_,rfl,p,CW,dx,_,rfl,s10 _ _ hp9,TW.cl,TW.nE,(by simp only[List.length_nil] at l1;lia),?_⟩
   have kB:Kp p HA (upd HA p (.ins CW dx (Al "enclosed" (.ref en) (Al "finds" (.ref fi) (Al "inquiries" (.ref iq) (Al "post" (.ref po) (Al "houses" (.ref r) (Al "share" (.int sh) [])))))))):=Ji5
   have hpB:(upd HA p (.ins CW dx (Al "enclosed" (.ref en) (Al "finds" (.ref fi) (Al "inquiries" (.ref iq) (Al "post" (.ref po) (Al "houses" (.ref r) (Al "share" (.int sh) [])))))))) p=some (.ins CW dx (Al "enclosed" (.ref en) (Al "finds" (.ref fi) (Al "inquiries" (.ref iq) (Al "post" (.ref po) (Al "houses" (.ref r) (Al "share" (.int sh) []))))))):=Ab
   generalize upd HA p (.ins CW dx (Al "enclosed" (.ref en) (Al "finds" (.ref fi) (Al "inquiries" (.ref iq) (Al "post" (.ref po) (Al "houses" (.ref r) (Al "share" (.int sh) [])))))))=HB at kB hpB
   have nd:=li10.nd
   have pm:(en::fi::iq::pd::po::(A6 qs++[r,p])).Perm ([p,r,po,pd,iq,fi,en]++A6 qs):=by
    have a:(A6 qs++[r,p]).Perm ([r,p]++A6 qs):=List.perm_append_comm
    have b:(en::fi::iq::pd::po::(A6 qs++[r,p])).Perm ([en,fi,iq,pd,po,r,p]++A6 qs):=((((a.cons po).cons pd).cons iq).cons fi).cons en
    refine b.trans (List.Perm.append_right _ ?_)
    exact(List.reverse_perm [p,r,po,pd,iq,fi,en])
   have nd':=pm.nodup_iff.mp nd
   have kA9:Kp p H9 HB:=Kp.trans (fun b o e _=>s10 b o e) kB
   have kA7:Kp p H7 HB:=Kp.trans (Kp.trans (fun b o e _=>s8 b o e) k9) kA9
   have kA5:Kp p H5 HB:=Kp.trans (Kp.trans (fun b o e _=>s6 b o e) k7) kA7
   have kA4:Kp p H4 HB:=k5.trans kA5
   have kA2:Kp p H2 HB:=(k3.trans (fun b o e _=>s4 b o e)).trans kA4
   have tn:=(List.nodup_append.mp nd').1
   simp only[List.nodup_cons,List.mem_cons,List.not_mem_nil,or_false,not_or,List.nodup_nil,and_true,not_false_eq_true] at tn
   obtain⟨⟨a1,a2,a3,a4,a5,a6⟩,_⟩:=tn
   have hno:∀b∈A6 qs,b≠p:=fun b hb z=>(List.nodup_append.mp nd').2.2 p (by simp) b hb z.symm
   refine k ⟨sh,r,po,iq,fi,en,pd,0,[],qs,[],[],[]⟩ HB ⟨⟨dx,by rw[hpB,←Jeu]⟩,kA2 _ _ er (Ne.symm a1),fun q hq=>(ho q hq).keep fun b o hb e=>kA2 b o e (hno b (mem_hfoot.mpr ⟨q,hq,hb⟩)),P4.keep (fun o e=>kA4 _ _ e (Ne.symm a2)) (fun o e=>kA4 _ _ e (Ne.symm a3)),
    (k7.trans kA7) _ _ eiq (Ne.symm a4),(k9.trans kA9) _ _ efi (Ne.symm a5),kB _ _ een (Ne.symm a6),nd'⟩ rfl rfl rfl rfl rfl rfl ql em fun b u e hb=>kA2 b u (s2 b u (k1 b u e hb)) hb
def Fc(CW C CP NL:Addr):Sp:=fun vs H Q E=>∃(p:Addr)(n:Int)(W:WGh),vs=[.ref p,.int n]∧WorldAt CW C CP H p W∧(((∀l∈W.ls,l.1≠n)∧E (.ref NL) none H) ∨
 ∃(l1 l2:List (Int×Addr))(t:Addr)(m s g:Int)(tb:T2)(x:Int)(q:Addr)(G:HGh),W.ls=l1++(n,t)::l2∧InW W g q G∧Sz G ∧
  ((∃(kind:Str)(G':HGh),WLet H t m kind s g tb x∧Wt kind G tb x G'∧∀(r:Addr)(H':Hp),WorldAt CW C CP H' p { W with ls:=l1++l2,qs:=W.qs.set g.toNat (q,G') }→WFr p W H H'→r≠W.hs→N7 p W H r→H' r=some (.lst [])→Q (.ref r) H') ∨
   (WLet H t m "pass" s g tb x∧tb∈G.outs.map (·.1)∧W.ls.length≤400 ∧
    ((x=g∧∀(r t1:Addr)(H':Hp),WorldAt CW C CP H' p { W with qs:=W.qs.set g.toNat (q,Dx G tb W.share true),c:=W.c+1,ls:=l1++l2++[(W.c+1,t1)] }→WLet H' t1 (W.c+1) "more" g s tb W.share→WFr p W H H'→r≠W.hs→N7 p W H r→H' r=some (.lst [.int (W.c+1)])→Q (.ref r) H') ∨
     (x≠g∧∀(r t1 t2:Addr)(H':Hp),WorldAt CW C CP H' p { W with qs:=W.qs.set g.toNat (q,Dx G tb W.share false),c:=W.c+1+1,ls:=l1++l2++[(W.c+1,t1)]++[(W.c+1+1,t2)] }→WLet H' t1 (W.c+1) "hold" g x tb W.share→WLet H' t2 (W.c+1+1) "more" g s tb W.share→WFr p W H H'→r≠W.hs→N7 p W H r→H' r=some (.lst [.int (W.c+1),.int (W.c+1+1)])→Q (.ref r) H')))))
theorem scWDeliver:Ao ["self","n","letter","kind"] ["self","n"] (Aj Gf):={}
theorem Tq{f f1 f2 f3:Addr}{fd d1 d2 d3:FuncData}(F:Fun K "deliver" "World.deliver" Gf f fd)(TW:En K mg CW NH NI)(TP:Nv K mg CP NL)(M1:Mth K CP "taken" "Post.taken" Ld ["self","n"] f1 d1)(M2:Mth K CW "weight_came" "World.weight_came" Ib ["self","letter"] f2 d2)(G2:EX0 P w K mg base 3 f2 d2 ["self","letter"] (Gd CW C CP))(M3:Mth K CW "pass_came" "World.pass_came" Qc ["self","letter"] f3 d3)(G3:EX0 P w K mg base 2 f3 d3 ["self","letter"] (K7 CW C CP)):EX1 P w K mg base 4 f fd ["self","n"] (Fc CW C CP NL):=by
 have G1:EX1 P w K mg base 1 f1 d1 ["self","n"] (Sh CP NL):=Yr M1.fn TP
 have G2':EX1 P w K mg base 3 f2 d2 ["self","letter"] (Gd CW C CP):=FX.FnOk.to1 G2
 have G3':EX1 P w K mg base 2 f3 d3 ["self","letter"] (K7 CW C CP):=FX.FnOk.to1 G3
 refine ok1 F scWDeliver (fun vs H Q E h=>?_) (fun cdv A outer s H vs Q E hr h=>?_)
 ·obtain⟨p,n,W,rfl,_⟩:=h
  rfl
 ·obtain⟨p,n,W,rfl,S,k⟩:=h
  have hr1:Room 1 _:=hr.mono (by decide)
  have hr2:Room 2 _:=hr.mono (by decide)
  obtain⟨dx,hp⟩:=S.ob
  obtain⟨dx1,hq⟩:=S.po.ob
  refine⟨_,Ac (Az (i:=2) scWDeliver.nd rfl (Or.inl rfl) (Ap (pl:=_) (Aw (pv 0) rfl) TP.cl M1.mt G1 hr1 M1.bd .nil Bb (Aa (pv 1) Ae)))
   (Ac (Az (i:=3) scWDeliver.nd rfl (Or.inl rfl) (Av Aq (pv 2) Ag))
   (Ac (A9 (Au Bx (pv 3) As (A0 _)) (Af (Ar (Ap (pl:=_) (pv 0) TW.cl M3.mt G3' hr2 M3.bd .nil Bb (Aa (pv 2) Ae)))) Ax)
   (Ac (A9 (Au Bx (pv 3) As (A0 _)) E5 Ax)
   (Ac (A9 (Au Bx (pv 3) As (A0 _)) E5 Ax)
   (Ac (A9 (Au Bx (pv 3) As (A0 _)) E5 Ax)
   (Ac (A7 (Ap (pl:=_) (pv 0) TW.cl M2.mt G2' hr M2.bd .nil Bb (Aa (pv 2) Ae)))
   (Af (Ar (Fi Ae))))))))),?_⟩
  refine⟨_,rfl,p,CW,dx,_,_,rfl,hp,TW.cl,TW.nP,D6 W,W.po,dx1,_,rfl,hq,Dr _ _ (by decide +kernel) (by decide +kernel),_,rfl,W.po,W.pd,W.c,W.ls,n,rfl,S.po,?_⟩
  rcases k with k|⟨l1,l2,t,m,s,g,tb,x,q,G,el,i,sz,k⟩
  ·exact .inr k
  ·refine .inl ⟨l1,l2,t,el,fun H1 S1 fr1=>?_⟩
   obtain⟨W1,wf1⟩:=S.posted S1 fun b o e h1 h2=>fr1 b o e h2
   have kt1:=WFr.keepT S wf1
   obtain⟨dx2,hp2⟩:=W1.ob
   rcases k with⟨kind,G',hl,cm,k⟩|⟨hl,ho,zl,k⟩
   ·have hl1:=hl.keep kt1
    obtain⟨a,b,e1,_⟩:=id hl1
    refine⟨_,rfl,t,_,_,_,rfl,rfl,SqT.of e1,rfl,?_⟩
    have nk:¬kind="pass"∧¬kind="ask"∧¬kind="answer"∧¬kind="let":=by
     rcases cm with⟨rfl,_⟩|⟨rfl,_⟩|⟨rfl,_⟩<;>exact⟨by decide +kernel,by decide +kernel,by decide +kernel,by decide +kernel⟩
    refine noI (ne:=nk.1) (noI (ne:=nk.2.1) (noI (ne:=nk.2.2.1) (noI (ne:=nk.2.2.2) ⟨_,rfl,p,dx2,_,rfl,hp2,Dj _ (by decide +kernel),_,rfl,p,t,_,m,s,g,kind,tb,x,q,G,G',rfl,W1,hl1,i,cm,sz,fun H2 W2 wf2=>?_⟩)))
    refine⟨Nat.zero_le _,fun r hr'=>?_⟩
    have s3:=Ah (o:=.lst []) hr'
    have rhs:r≠W.hs:=fun z=>by rw[z] at hr';rw[W2.hs] at hr';cases hr'
    have rnw:N7 p W H r:=fun b o e hb z=>by rw[←z,wf2 b o (wf1 b o e hb) hb] at hr';cases hr'
    exact k r _ (W2.same s3) (fun b o e hb=>s3 _ _ (wf2 b o (wf1 b o e hb) hb)) rhs rnw Ab
   ·have hl1:=hl.keep kt1
    obtain⟨a,b,e1,_⟩:=id hl1
    refine⟨_,rfl,t,_,_,_,rfl,rfl,SqT.of e1,rfl,?_⟩
    have zl1:(l1++l2).length≤400:=by
     rw[el,ZE,List.length_cons] at zl
     rw[ZE];lia
    refine Hu ⟨_,rfl,p,dx2,_,rfl,hp2,Dj _ (by decide +kernel),_,rfl,p,t,_,m,s,g,x,tb,q,G,rfl,W1,hl1,i,sz,ho,zl1,?_⟩
    rcases k with⟨rfl,k⟩|⟨ne,k⟩
    ·exact .inl ⟨rfl,fun r t1 H' W2 lm wf2 rhs rnw er=>k r t1 H' W2 lm (fun b o e hb=>wf2 b o (wf1 b o e hb) hb) rhs (fun b o e hb=>rnw b o (wf1 b o e hb) hb) er⟩
    ·exact .inr ⟨ne,fun r t1 t2 H' W2 lh lm wf2 rhs rnw er=>k r t1 t2 H' W2 lh lm (fun b o e hb=>wf2 b o (wf1 b o e hb) hb) rhs (fun b o e hb=>rnw b o (wf1 b o e hb) hb) er⟩
def K6(CW C CP NHd NW:Addr):Sp:=fun vs H Q E=>∃(p b:Addr)(h g:Int)(W:WGh)(tb:T2)(q:Addr)(G:HGh),vs=[.ref p,.int h,.int g,.ref b]∧WorldAt CW C CP H p W∧H b=some (.tup (tv tb))∧InW W h q G∧(∃q2 G2,InW W g q2 G2)∧G.outs.length≤500∧G.recs.length≤500∧W.ls.length≤500 ∧
 ((tb∉G.hand∧E (.ref NHd) none H) ∨
  (tb∈G.hand∧tb.1=G.num∧∃o,G.outs.find? (fun q=>decide (q.1=tb))=some (tb,o)∧G.recs.find? (fun q=>decide (q.1=tb))=none ∧
   ∀(t:Addr)(H':Hp),WorldAt CW C CP H' p { W with qs:=W.qs.set h.toNat (q,{ G with ticks:=G.ticks+1,outs:=Ba G.outs tb (o+W.share) }),c:=W.c+1,ls:=W.ls++[(W.c+1,t)] }→WLet H' t (W.c+1) "hold" h g tb W.share→WFr p W H H'→Q (.int (W.c+1)) H') ∨
  (tb∈G.hand∧tb.1≠G.num∧∃wt,G.recs.find? (fun q=>decide (q.1=tb))=some (tb,wt)∧((wt=0∧E (.ref NW) none H) ∨
   (wt=1∧∀(t:Addr)(H':Hp),WorldAt CW C CP H' p { W with qs:=W.qs.set h.toNat (q,{ G with ticks:=G.ticks+1,recs:=Ba G.recs tb 0 }),c:=W.c+1,ls:=W.ls++[(W.c+1,t)] }→WLet H' t (W.c+1) "pass" h tb.1 tb g→WFr p W H H'→Q (.int (W.c+1)) H') ∨
   (2≤wt∧∀(t:Addr)(H':Hp),WorldAt CW C CP H' p { W with qs:=W.qs.set h.toNat (q,{ G with ticks:=G.ticks+1,recs:=Ba G.recs tb (wt-wt / 2) }),c:=W.c+1,ls:=W.ls++[(W.c+1,t)] }→WLet H' t (W.c+1) "hold" h g tb (wt / 2)→WFr p W H H'→Q (.int (W.c+1)) H'))))
theorem scWSend:Ao ["self","h","g","b","house","weight"] ["self","h","g","b"] (Aj Qb):={}
theorem O2{l:List (T2×Int)}{t:T2}{w v:Int}(h:l.find? (fun q=>decide (q.1=t))=some (t,w)):(Ba l t v).find? (fun q=>decide (q.1=t))=some (t,v):=by
 have m:t∈l.map (·.1):=List.mem_map.mpr ⟨_,List.mem_of_find?_eq_some h,rfl⟩
 unfold Ba
 rw[if_pos m]
 clear m
 induction l with
 | nil=>simp at h
 | cons q l ih =>
   rw[List.map_cons]
   by_cases e:q.1=t
   ·rw[if_pos e,List.find?_cons]
    simp[e]
   ·rw[if_neg e,List.find?_cons]
    rw[List.find?_cons] at h
    simp only[e,decide_false] at h ⊢
    exact ih h
theorem Jax{f fH f1 f2 f3:Addr}{fd dH d1 d2 d3:FuncData}(F:Fun K "send" "World.send" Qb f fd)(T:Txt K mg C NHd NNr MI NW)(TW:En K mg CW NH NI)(TP:Nv K mg CP NL)(MH:Mth K CW "house" "World.house" Dg ["self","h"] fH dH)(M1:Mth K C "part" "House.part" So ["self","b","share"] f1 d1)(G1:EX1 P w K mg base 3 f1 d1 ["self","b","share"] (P1 C NHd NW))(M2:Mth K C "is_spent" "House.is_spent" Qi ["self","thing"] f2 d2)(M3:Mth K CP "put" "Post.put" Og ["self","kind","sender","goal","about"] f3 d3) :
 EX1 P w K mg base 4 f fd ["self","h","g","b"] (K6 CW C CP NHd NW):=by
 have GH:EX1 P w K mg base 1 fH dH ["self","h"] (De CW C CP NH):=C6 MH.fn T TW
 have G2:EX1 P w K mg base 1 f2 d2 ["self","thing"] (Ws C):=FX.FnOk.to1 (Ja6 M2.fn T)
 have G3:EX1 P w K mg base 1 f3 d3 ["self","kind","sender","goal","about"] (Lr CP):=FX.FnOk.to1 (Qx M3.fn TP)
 refine ok1 F scWSend (fun vs H Q E h=>?_) (fun cdv A outer s H vs Q E hr h=>?_)
 ·obtain⟨p,b,h,g,W,tb,q,G,rfl,_⟩:=h
  rfl
 ·obtain⟨p,b,h,g,W,tb,q,G,rfl,S,hb,i,⟨q2,G2',i2⟩,z1,z2,z3,k⟩:=h
  have hr1:Room 1 _:=hr.mono (by decide)
  obtain⟨dx,hp⟩:=S.ob
  refine⟨_,Ac (Az (i:=4) scWSend.nd rfl (Or.inl rfl) (Ap (pl:=_) (pv 0) TW.cl MH.mt GH hr1 MH.bd .nil Bb (Aa (pv 1) Ae)))
   (Ac (A7 (Ap (pl:=_) (pv 0) TW.cl MH.mt GH hr1 MH.bd .nil Bb (Aa (pv 2) Ae)))
   (Ac (Az (i:=5) scWSend.nd rfl (Or.inl rfl) (Ap (pl:=_) (pv 4) T.cl M1.mt G1 hr M1.bd .nil Bb (Aa (pv 3) (Aa (Aw (pv 0) rfl) Ae))))
   (Ac (A9 (Fh (Ap (pl:=_) (pv 4) T.cl M2.mt G2 hr1 M2.bd .nil Bb (Aa (pv 3) Ae))) (Af (Ar (Ap (pl:=_) (Aw (pv 0) rfl) TP.cl M3.mt G3 hr1 M3.bd .nil Bb (Aa As (Aa (pv 1) (Aa (Av Aq (pv 3) Ag) (Aa (Bn (Aa (pv 3) (Aa (pv 2) Ae))) Ae))))))) Ax)
   (Af (Ar (Ap (pl:=_) (Aw (pv 0) rfl) TP.cl M3.mt G3 hr1 M3.bd .nil Bb (Aa As (Aa (pv 1) (Aa (pv 2) (Aa (Bn (Aa (pv 3) (Aa (pv 5) Ae))) Ae)))))))))),?_⟩
  obtain⟨dx1,hq⟩:=(i.at S).ob
  refine⟨_,rfl,p,dx,_,rfl,hp,Dj W (by decide +kernel),_,rfl,p,h,W,rfl,S,.inr ⟨q,G,i,_,rfl,p,dx,_,rfl,hp,Dj W (by decide +kernel),_,rfl,p,g,W,rfl,S,.inr ⟨q2,G2',i2,?_⟩⟩⟩
  refine⟨_,rfl,q,dx1,_,rfl,hq,Bk G (by decide +kernel),_,rfl,_,rfl,p,CW,dx,_,_,rfl,hp,TW.cl,TW.nS,Fs W,q,b,G,tb,W.share,rfl,i.at S,hb,z1,z2,?_⟩
  rcases k with k|⟨h1,h2,o,h3,h4,k⟩|⟨h1,h2,wt,h3,k⟩
  ·exact .inl k
  ·refine .inr (.inl ⟨h1,h2,o,h3,fun H1 S1 fr1=>?_⟩)
   obtain⟨W1,wf1⟩:=S.step i.2 S1 fr1 fun b hb=>.inl hb
   have kt1:=WFr.keepT S wf1
   obtain⟨dx2,hq1⟩:=S1.ob
   refine⟨_,rfl,q,dx2,_,rfl,hq1,Bk _ (by decide +kernel),_,rfl,q,b,_,tb,rfl,S1,kt1.tup _ _ hb,_,rfl,?_⟩
   have e4:decide (((G.recs.find? (fun q=>decide (q.1=tb))).map (·.2))=some 0)=false:=by rw[h4];rfl
   rw[e4]
   refine B0 ?_
   obtain⟨dx3,hp3⟩:=W1.ob
   obtain⟨dx4,hq4⟩:=W1.po.ob
   refine⟨_,rfl,p,CW,dx3,_,_,rfl,hp3,TW.cl,TW.nP,D6 _,W.po,dx4,_,rfl,hq4,Dr _ _ (by decide +kernel) (by decide +kernel),_,rfl,_,rfl,_,rfl,_,rfl,(by show 2≤sizeLine;decide),fun a ha=>?_⟩
   have s2:=Ah (o:=.tup [V.ref b,V.int W.share]) ha
   have W2:=W1.same s2
   refine⟨W.po,W.pd,W.c,W.ls,_,_,_,_,rfl,W2.po,z3,fun t H3 ht et S3 fr3=>?_⟩
   obtain⟨W3,wf3⟩:=W2.posted S3 fr3
   have kt3:=WFr.keepT W2 wf3
   refine k t H3 W3 ⟨a,b,et,kt3.tup _ _ Ab,kt3.tup _ _ (s2 _ _ (kt1.tup _ _ hb))⟩ fun b' o' e' hb'=>?_
   exact fr3 b' o' (s2 _ _ (wf1 b' o' e' hb')) (fun z=>hb' (ZB _ (by rw[z];simp[Cb]))) fun z=>hb' (ZB _ (by rw[z];simp[Cb]))
  ·refine .inr (.inr ⟨h1,h2,wt,h3,?_⟩)
   rcases k with k|⟨rfl,k⟩|⟨h4,k⟩
   ·exact .inl k
   ·refine .inr ⟨by decide,fun H1 S1 fr1=>?_⟩
    have eg:(1:Int)-Ek 1=0:=by decide
    rw[eg] at S1
    obtain⟨W1,wf1⟩:=S.step i.2 S1 fr1 fun b hb=>.inl hb
    have kt1:=WFr.keepT S wf1
    obtain⟨dx2,hq1⟩:=S1.ob
    refine⟨_,rfl,q,dx2,_,rfl,hq1,Bk _ (by decide +kernel),_,rfl,q,b,_,tb,rfl,S1,kt1.tup _ _ hb,_,rfl,?_⟩
    have e4:decide ((((Ba G.recs tb 0).find? (fun q=>decide (q.1=tb))).map (·.2))=some 0)=true:=by rw[O2 h3];rfl
    rw[e4]
    refine Cd ?_
    obtain⟨dx3,hp3⟩:=W1.ob
    obtain⟨dx4,hq4⟩:=W1.po.ob
    have hb1:=kt1.tup _ _ hb
    refine⟨_,rfl,p,CW,dx3,_,_,rfl,hp3,TW.cl,TW.nP,D6 _,W.po,dx4,_,rfl,hq4,Dr _ _ (by decide +kernel) (by decide +kernel),_,rfl,_,rfl,b,_,_,_,rfl,rfl,SqT.of hb1,rfl,_,rfl,_,rfl,(by show 2≤sizeLine;decide),fun a ha=>?_⟩
    have s2:=Ah (o:=.tup [V.ref b,V.int g]) ha
    have W2:=W1.same s2
    refine⟨W.po,W.pd,W.c,W.ls,_,_,_,_,rfl,W2.po,z3,fun t H3 ht et S3 fr3=>?_⟩
    obtain⟨W3,wf3⟩:=W2.posted S3 fr3
    have kt3:=WFr.keepT W2 wf3
    refine k t H3 W3 ⟨a,b,et,kt3.tup _ _ Ab,kt3.tup _ _ (s2 _ _ hb1)⟩ fun b' o' e' hb'=>?_
    exact fr3 b' o' (s2 _ _ (wf1 b' o' e' hb')) (fun z=>hb' (ZB _ (by rw[z];simp[Cb]))) fun z=>hb' (ZB _ (by rw[z];simp[Cb]))
   ·refine .inr ⟨by lia,fun H1 S1 fr1=>?_⟩
    have eg:Ek wt=wt / 2:=by unfold Ek;rw[if_neg (by lia)]
    rw[eg] at S1
    obtain⟨W1,wf1⟩:=S.step i.2 S1 fr1 fun b hb=>.inl hb
    have kt1:=WFr.keepT S wf1
    obtain⟨dx2,hq1⟩:=S1.ob
    refine⟨_,rfl,q,dx2,_,rfl,hq1,Bk _ (by decide +kernel),_,rfl,q,b,_,tb,rfl,S1,kt1.tup _ _ hb,_,rfl,?_⟩
    have e4:decide ((((Ba G.recs tb (wt-wt / 2)).find? (fun q=>decide (q.1=tb))).map (·.2))=some 0)=false:=by
     rw[O2 h3]
     refine decide_eq_false fun z=>?_
     have:wt-wt / 2=0:=ZO z
     lia
    rw[e4]
    refine B0 ?_
    obtain⟨dx3,hp3⟩:=W1.ob
    obtain⟨dx4,hq4⟩:=W1.po.ob
    have hb1:=kt1.tup _ _ hb
    refine⟨_,rfl,p,CW,dx3,_,_,rfl,hp3,TW.cl,TW.nP,D6 _,W.po,dx4,_,rfl,hq4,Dr _ _ (by decide +kernel) (by decide +kernel),_,rfl,_,rfl,_,rfl,_,rfl,(by show 2≤sizeLine;decide),fun a ha=>?_⟩
    rw[eg] at *
    have s2:=Ah (o:=.tup [V.ref b,V.int (wt / 2)]) ha
    have W2:=W1.same s2
    refine⟨W.po,W.pd,W.c,W.ls,_,_,_,_,rfl,W2.po,z3,fun t H3 ht et S3 fr3=>?_⟩
    obtain⟨W3,wf3⟩:=W2.posted S3 fr3
    have kt3:=WFr.keepT W2 wf3
    refine k t H3 W3 ⟨a,b,et,kt3.tup _ _ Ab,kt3.tup _ _ (s2 _ _ hb1)⟩ fun b' o' e' hb'=>?_
    exact fr3 b' o' (s2 _ _ (wf1 b' o' e' hb')) (fun z=>hb' (ZB _ (by rw[z];simp[Cb]))) fun z=>hb' (ZB _ (by rw[z];simp[Cb]))
end
structure U5(H:Hp)(c h:Int)(L:List (Int×Addr))(bs:List (T2×Int)):Prop where
 num:L.map (·.1)=(List.range bs.length).map fun(i:Nat)=>c+1+(i:Int)
 let_:Paired (fun(y:Int×Addr)(q:T2×Int)=>WLet H y.2 y.1 "back" h q.1.1 q.1 q.2) L bs
section
variable {P:Program}{w:World}{K:W.Frag}{mg:Str→Option Value}{base:Heap}{CW C CP NH NI NL NHd NNr MI NW:Addr}
def Wr(CW C CP:Addr):Sp:=fun vs H Q _=>∃(p l:Addr)(h:Int)(W:WGh)(as:List Addr)(bs:List (T2×Int)),vs=[.ref p,.int h,.ref l]∧WorldAt CW C CP H p W∧H l=some (.lst (as.map V.ref))∧l∉Cs p W∧BackAt H as bs∧bs.length≤60∧W.ls.length≤400 ∧
 ∀(x:Addr)(L:List (Int×Addr))(H':Hp),WorldAt CW C CP H' p { W with c:=W.c+(bs.length:Nat),ls:=W.ls++L }→U5 H' W.c h L bs→WFr p W H H'→x≠W.hs→N7 p W H x→H' x=some (.lst (L.map fun y=>V.int y.1))→Q (.ref x) H'
theorem Jcq:Ao ["self","h","records"] ["self","h","records"] (Aj Qf):={}
def Jgc(CP:Addr)(K:W.Frag):TE:=Wo CP "put" (Lr CP) [] E0 (Zw K (Co 2) "post") (Dk (tC (.str "back")) (Dk (Co 1) (Dk (tOp (Vo K) (tOp (Vo K) (Co 0) (tC (.int 0))) (tC (.int 0))) (Dk (Co 0) Jo))))
theorem Ja2{f f3:Addr}{fd d3:FuncData}(F:Fun K "give_back" "World.give_back" Qf f fd)(TW:En K mg CW NH NI)(TP:Nv K mg CP NL)(M3:Mth K CP "put" "Post.put" Og ["self","kind","sender","goal","about"] f3 d3):EX0 P w K mg base 2 f fd ["self","h","records"] (Wr CW C CP):=by
 have G3:EX0 P w K mg base 1 f3 d3 ["self","kind","sender","goal","about"] (Lr CP):=Qx M3.fn TP
 refine F.ok Jcq (fun vs H Q E h=>?_) (fun cdv A outer s H vs Q E hr h=>?_)
 ·obtain⟨p,l,h,W,as,bs,rfl,_⟩:=h
  rfl
 ·obtain⟨p,l,h,W,as,bs,rfl,S,el,lno,bk,zb,zl,k⟩:=h
  have lab:=Paired.length bk
  refine⟨_,Af (Ar (Fj (te:=Jgc CP K) (caps:=[("h",1),("self",0)]) rfl (Dq (pv 2))
   rfl (by decide +kernel) rfl (by decide +kernel) rfl ⟨rfl,rfl,trivial⟩ (fun y h=>Jig ⟨_,rfl⟩ ⟨_,rfl⟩ h) ⟨⟨rfl,rfl,rfl,rfl⟩,⟨rfl,rfl,rfl,rfl⟩,trivial⟩ (by decide +kernel) (fun _ _ _ _ _=>Gi)
   (fun _ _ _ _ _=>Ap (pl:=_) (Aw (pv 2) rfl) TP.cl M3.mt G3 hr M3.bd .nil Bj (Aa As (Aa (pv 1) (Aa (Av Aq (Av Aq (pv 0) Ag) Ag) (Aa (pv 0) Ae))))))),?_⟩
  refine⟨_,rfl,l,rfl,⟨_,SqL.of el⟩,fun r hr'=>?_⟩
  have s0:=Ah (o:=.lst []) hr'
  have nrl:l≠r:=Am el hr'
  have rno:r∉Cs p W:=S.none_no hr'
  have S0:WorldAt CW C CP (upd H r (.lst [])) p { W with c:=W.c+((0:Nat):Int),ls:=W.ls++[] }:=by
   rw[show W.c+((0:Nat):Int)=W.c by simp,List.append_nil];exact S.same s0
  refine Fb (K:=K) (a:=l) (xs:=as.map V.ref) (tt:=fun _ H Q=>Q true H) (te:=Jgc CP K) (caps:=[("h",1),("self",0)]) (σ:=[some (.ref p),some (.int h),some (.ref l)])
   (fun i ys H2=>H2 r=some (.lst ys)∧H2 l=some (.lst (as.map V.ref))∧∃L,ys=L.map (fun y=>V.int y.1)∧WorldAt CW C CP H2 p { W with c:=W.c+(i:Nat),ls:=W.ls++L }∧U5 H2 W.c h L (bs.take i)∧BackAt H2 as bs∧WFr p W H H2)
   ⟨Ab,s0 _ _ el,[],rfl,S0,⟨rfl,.nil⟩,bk.keep (Ji0 s0),fun b o e _=>s0 b o e⟩ (fun i ys H2 _ h=>⟨SqL.of h.2.1,h.1⟩) ?_ ?_
  ·rintro i v ys H2 N hi ⟨er,el2,L,rfl,W2,b2,bk2,wf2⟩ hN
   refine Cd ?_
   rw[ZH] at hi
   cases hai:as[i]? with
   | none=>rw[hai] at hi;cases hi
   | some ai =>
     rw[hai] at hi
     cases hi
     have hib:i<bs.length:=by rw[←lab];exact(ZJ hai).1
     obtain⟨q,hq⟩:=A1 hib
     obtain⟨cc,ea,ec⟩:=A2 bk2 i ai q hai hq
     have lL:L.length=i:=by
      have:=Paired.length b2.let_
      rw[List.length_take] at this;omega
     obtain⟨dx2,hp2⟩:=W2.ob
     obtain⟨dx3,hq2⟩:=W2.po.ob
     refine⟨_,rfl,p,CW,dx2,_,_,rfl,hp2,TW.cl,TW.nP,D6 _,W.po,dx3,_,rfl,hq2,Dr _ _ (by decide +kernel) (by decide +kernel),_,rfl,_,rfl,ai,_,_,_,rfl,rfl,SqT.of ea,rfl,cc,_,_,_,rfl,rfl,SqT.of ec,rfl,_,rfl,?_⟩
     refine⟨W.po,W.pd,_,_,_,_,_,_,rfl,W2.po,(by rw[ZE,lL];omega),fun t H4 ht et S4 fr4=>?_⟩
     obtain⟨W4,wf4⟩:=W2.posted S4 fr4
     have kt4:=WFr.keepT W2 wf4
     have er4:H4 r=some (.lst (L.map fun y=>V.int y.1)):=wf4 _ _ er rno
     have el4:H4 l=some (.lst (as.map V.ref)):=wf4 _ _ el2 lno
     have kq:KeepT H4 (upd H4 r (.lst (L.map (fun y=>V.int y.1)++[V.int (W.c+(i:Nat)+1)]))):=Ji1 fun o' e=>by
      rw[er4] at e;cases e;exact⟨fun _ z=>(by cases z),fun _ _ z=>(by cases z)⟩
     refine⟨er4,A3 (by rw[ZA];omega),hN _ _ ⟨Ab,by rw[Ad nrl];exact el4,L++[(W.c+(i:Nat)+1,t)],by rw[ZF];rfl,?_,?_,bk2.keep (kt4.trans kq),fun b' o' e' hb'=>?_⟩⟩
     ·have e1:W.c+((i+1:Nat):Int)=W.c+(i:Nat)+1:=by omega
      rw[e1,←List.append_assoc]
      exact W4.keep fun b o hb e=>by rw[Ad (fun z=>rno (by rw[←z];exact hb))];exact e
     ·rw[List.take_add_one,hq]
      refine⟨?_,Ep ?_ (Ay (fun _ _ rr=>rr.keep (kt4.trans kq)) b2.let_)⟩
      ·have n1:=b2.num
       have n2:(bs.take i).length=i:=by rw[List.length_take];omega
       rw[n2] at n1
       rw[ZF,n1,ZE,n2]
       show _=(List.range (i+1)).map _
       rw[List.range_succ,ZF]
       congr 1
       show [W.c+(i:Nat)+1]=[W.c+1+(i:Int)]
       congr 1;omega
      ·exact⟨ai,cc,kq.tup _ _ et,kq.tup _ _ (kt4.tup _ _ ea),kq.tup _ _ (kt4.tup _ _ ec)⟩
     ·have hbr:b'≠r:=fun z=>by rw[z] at e';rw[hr'] at e';cases e'
      rw[Ad hbr]
      exact wf4 b' o' (wf2 b' o' e' hb') hb'
  ·rintro ys H2 ⟨er,el2,L,rfl,W2,b2,bk2,wf2⟩
   rw[ZA,lab] at W2 b2
   rw[List.take_length] at b2
   exact k r L H2 W2 b2 wf2 (fun z=>rno (by rw[z];exact ZB _ (by simp[Cb]))) (fun b o e _ z=>by rw[←z,e] at hr';cases hr') er
theorem Fl{G:HGh}{R:List T2}:∀b∈foot (tk1 (keepB (keepR G R))),b∈foot G:=fun b hb=>by
 unfold foot at hb ⊢
 have hb:b∈G.h::G.o::G.l::G.r::(G.holds.filter (fun q=>decide (q.1∈R))).map (·.2.1):=hb
 simp only[List.mem_cons] at hb ⊢
 rcases hb with h|h|h|h|h
 ·exact .inl h
 ·exact .inr (.inl h)
 ·exact .inr (.inr (.inl h))
 ·exact .inr (.inr (.inr (.inl h)))
 ·obtain⟨q,hq,e⟩:=ZN h
  exact .inr (.inr (.inr (.inr (List.mem_map.mpr ⟨q,(List.mem_filter.mp hq).1,e⟩))))
def Hy(CW C CP:Addr):Sp:=fun vs H Q _=>∃(p:Addr)(h:Int)(W:WGh)(q:Addr)(G:HGh)(n m:Nat)(rs:List (T2×Int))(R:List T2),vs=[.ref p,.int h]∧WorldAt CW C CP H p W∧InW W h q G∧Ok G n∧n≤62∧(∀t∈G.hand,InU t)∧(∀q∈G.holds,∀t∈q.2.2,InU t)∧rs.Perm G.recs∧(rs.map (·.1)).Pairwise lt2 ∧
 Rch (nxT G.holds) m (startT G) [] R∧m≤5000∧Ok (keepR G R) n∧(C2 (keepR G R) rs).length≤60∧W.ls.length≤400 ∧
 ∀(x:Addr)(L:List (Int×Addr))(H':Hp),WorldAt CW C CP H' p { W with qs:=W.qs.set h.toNat (q,tk1 (keepB (keepR G R))),c:=W.c+((C2 (keepR G R) rs).length:Nat),ls:=W.ls++L }→U5 H' W.c h L (C2 (keepR G R) rs)→WFr p W H H'→x≠W.hs→N7 p W H x→H' x=some (.lst (L.map fun y=>V.int y.1))→Q (.ref x) H'
theorem Jab:Ao ["self","h"] ["self","h"] (Aj Lc):={}
theorem Yq{f fH f1 f2:Addr}{fd dH d1 d2:FuncData}(F:Fun K "clean" "World.clean" Lc f fd)(T:Txt K mg C NHd NNr MI NW)(TW:En K mg CW NH NI)(MH:Mth K CW "house" "World.house" Dg ["self","h"] fH dH)(M1:Mth K C "clean" "House.clean" L1 ["self"] f1 d1)(G1:EX0 P w K mg base 2 f1 d1 ["self"] (Ia C))(M2:Mth K CW "give_back" "World.give_back" Qf ["self","h","records"] f2 d2)(G2:EX0 P w K mg base 2 f2 d2 ["self","h","records"] (Wr CW C CP)):EX0 P w K mg base 3 f fd ["self","h"] (Hy CW C CP):=by
 have GH:EX0 P w K mg base 1 fH dH ["self","h"] (fun vs H Q _=>De CW C CP NH vs H Q E0):=FX.FnOk.no (C6 MH.fn T TW)
 refine F.ok Jab (fun vs H Q E h=>?_) (fun cdv A outer s H vs Q E hr h=>?_)
 ·obtain⟨p,h,W,q,G,n,m,rs,R,rfl,_⟩:=h
  rfl
 ·obtain⟨p,h,W,q,G,n,m,rs,R,rfl,S,i,ok,zn,ir1,ir2,pm,pw,rc,zm,okR,zb,zl,k⟩:=h
  have hr1:Room 1 _:=hr.mono (by decide)
  obtain⟨dx,hp⟩:=S.ob
  obtain⟨dx1,hq⟩:=(i.at S).ob
  refine⟨_,Af (Ar (Ap (pl:=_) (pv 0) TW.cl M2.mt G2 hr M2.bd .nil Bj (Aa (pv 1) (Aa (Cg (pl:=_) (Ap (pl:=_) (pv 0) TW.cl MH.mt GH hr1 MH.bd .nil Bj (Aa (pv 1) Ae)) T.cl M1.mt G1 hr M1.bd .nil Bj) Ae)))),?_⟩
  refine⟨_,rfl,p,dx,_,rfl,hp,Dj W (by decide +kernel),_,rfl,_,rfl,p,dx,_,rfl,hp,Dj W (by decide +kernel),_,rfl,p,h,W,rfl,S,.inr ⟨q,G,i,q,dx1,_,rfl,hq,Bk G (by decide +kernel),q,G,n,m,rs,R,rfl,i.at S,ok,zn,ir1,ir2,pm,pw,rc,zm,okR,fun x as H1 nx ex bk S1 fr1=>?_⟩⟩
  obtain⟨W1,wf1⟩:=S.step i.2 S1 fr1 fun b hb=>.inl (Fl b hb)
  have hsq:=S.top_house (b:=W.hs) (by simp[Cb]) (ZP i.2)
  have xhs:x≠W.hs:=fun z=>nx _ _ S.hs hsq.1 hsq.2 z.symm
  have sub:∀b,b∉Cs p W→b∉Cs p { W with qs:=W.qs.set h.toNat (q,tk1 (keepB (keepR G R))) }:=fun b hb m=>by
   rcases ZI m with m|m
   ·exact hb (ZB _ m)
   ·obtain⟨z,hz,hm⟩:=mem_hfoot.mp m
    have hz:z∈W.qs.set h.toNat (q,tk1 (keepB (keepR G R))):=hz
    rcases List.mem_or_eq_of_mem_set hz with hz|rfl
    ·exact hb (ZC _ (mem_hfoot.mpr ⟨z,hz,hm⟩))
    ·refine hb (ZC _ (mem_hfoot.mpr ⟨(q,G),ZP i.2,?_⟩))
     exact hm.imp id fun z=>Fl b z
  refine⟨p,x,h,_,as,_,rfl,W1,ex,W1.lst_no ex xhs,bk,zb,zl,fun y L H2 W2 b2 wf2 yhs ynw ey=>?_⟩
  exact k y L H2 W2 b2 (fun b o e hb=>wf2 b o (wf1 b o e hb) (sub b hb)) yhs (fun b o e hb=>ynw b o (wf1 b o e hb) (sub b hb)) ey
end
end K42
namespace FX
open PySem PySem.Spec PyProof.Rows L2
def Hd2(G:HGh)(t:T2):Prop:=t∈G.hand∨∃q∈G.holds,t∈q.2.2
theorem Ro{G:HGh}{ta t:T2}(h:t∈getH G.holds ta):Hd2 G t:=by
 unfold getH at h
 cases e:G.holds.find? fun q=>decide (q.1=ta) with
 | none=>rw[e] at h;cases h
 | some q=>rw[e] at h;exact .inr ⟨q,List.mem_of_find?_eq_some e,h⟩
def InM(m:Nat)(t:T2):Prop:=InU t∧t.1<m
structure Sd(m:Nat)(G:HGh)(n:Nat):Prop where
 ok:Ok G n
 nn:∀q∈G.recs,0≤q.2
 ip:∀t,Hd2 G t→InM m t
 rk:∀t,Hd2 G t→t.1≠G.num→t∈G.recs.map (·.1)
 ir:∀t∈G.recs.map (·.1),InM m t
 n0:0≤G.num
 n1:G.num<m
 m0:0≤G.made
 m1:G.made≤n
theorem Oo{l:List (T2×Int)}{t:T2}{v:Int}{q:T2×Int}(h:q∈Ba l t v):q=(t,v)∨q∈l:=by
 unfold Ba at h
 by_cases c:t∈l.map (·.1)
 ·rw[if_pos c] at h
  obtain⟨r,hr,e⟩:=ZN h
  by_cases d:r.1=t
  ·rw[if_pos d] at e
   exact .inl (by rw[←e,d])
  ·rw[if_neg d] at e
   exact .inr (by rw[←e];exact hr)
 ·rw[if_neg c] at h
  rcases ZI h with h|h
  ·exact .inr h
  ·exact .inl (by simpa using h)
theorem Fy(l:List (T2×Int))(t:T2)(v:Int):t∈(Ba l t v).map (·.1)∧(∀u∈l.map (·.1),u∈(Ba l t v).map (·.1))∧∀u∈(Ba l t v).map (·.1),u=t∨u∈l.map (·.1):=by
 rw[E4]
 by_cases c:t∈l.map (·.1)
 ·rw[if_pos c];exact⟨c,fun u hu=>hu,fun u hu=>.inr hu⟩
 ·rw[if_neg c]
  refine⟨ZC _ (by simp),fun u hu=>ZB _ hu,fun u hu=>?_⟩
  rcases ZI hu with hu|hu
  ·exact .inr hu
  ·exact .inl (by simpa using hu)
theorem Df:∀(l:List (T2×Int))(t u:T2)(v:Int),Ai (Ba l t v) u=if u=t then v else Ai l u:=by
 have app:∀(l:List (T2×Int))(t u:T2)(v:Int),t∉l.map (·.1)→Ai (l++[(t,v)]) u=if u=t then v else Ai l u:=fun l t u v h=>by
  unfold Ai
  rw[List.find?_append]
  by_cases e:u=t
  ·rw[if_pos e,e]
   have:l.find? (fun q=>decide (q.1=t))=none:=List.find?_eq_none.mpr fun q hq=>by
    have:¬q.1=t:=fun z=>h (List.mem_map.mpr ⟨q,hq,z⟩)
    simpa using this
   rw[this];simp
  ·rw[if_neg e]
   have:¬t=u:=fun z=>e z.symm
   cases l.find? (fun q=>decide (q.1=u))<;>simp[this]
 have mp:∀(l:List (T2×Int))(t u:T2)(v:Int),t∈l.map (·.1)→Ai (l.map fun q=>if q.1=t then(q.1,v) else q) u=if u=t then v else Ai l u:=fun l t u v h=>by
  induction l with
  | nil=>simp at h
  | cons q l ih =>
    unfold Ai
    rw[List.map_cons,List.find?_cons,List.find?_cons]
    by_cases e:q.1=t
    ·rw[if_pos e]
     by_cases e2:u=t
     ·rw[if_pos e2,e2,e];simp
     ·rw[if_neg e2]
      have n1:¬q.1=u:=fun z=>e2 (z▸e)
      rw[decide_eq_false n1]
      by_cases hl:t∈l.map (·.1)
      ·have:=ih hl
       rw[if_neg e2] at this
       exact this
      ·have:(l.map fun q=>if q.1=t then(q.1,v) else q)=l:=by
        refine(List.map_congr_left fun r hr=>?_).trans (List.map_id l)
        have:¬r.1=t:=fun z=>hl (List.mem_map.mpr ⟨r,hr,z⟩)
        rw[if_neg this];rfl
       rw[this]
    ·rw[if_neg e]
     have hl:t∈l.map (·.1):=by
      rcases ZM h with h|h
      ·exact absurd h.symm e
      ·exact h
     by_cases e2:q.1=u
     ·rw[decide_eq_true e2]
      have:¬u=t:=fun z=>e (e2.trans z)
      rw[if_neg this]
     ·rw[decide_eq_false e2]
      exact ih hl
 intro l t u v
 unfold Ba
 by_cases c:t∈l.map (·.1)
 ·rw[if_pos c];exact mp l t u v c
 ·rw[if_neg c];exact app l t u v c
theorem Hs(l:List (T2×Int))(P:T2→Bool)(t:T2):Ai (l.filter fun q=>P q.1) t=if P t=true then Ai l t else 0:=by
 induction l with
 | nil=>by_cases c:P t=true<;>simp[c,Ai]
 | cons q l ih =>
   rw[List.filter_cons]
   by_cases e:q.1=t
   ·by_cases c:P q.1=true
    ·rw[if_pos c,if_pos (by rw[←e];exact c)]
     unfold Ai
     rw[List.find?_cons,List.find?_cons,decide_eq_true e]
    ·rw[if_neg c,ih,if_neg (by rw[←e];exact c),if_neg (by rw[←e];exact c)]
   ·have e1:Ai (q::l) t=Ai l t:=by unfold Ai;rw[List.find?_cons,decide_eq_false e]
    rw[e1]
    by_cases c:P q.1=true
    ·rw[if_pos c]
     have:Ai (q::l.filter fun q=>P q.1) t=Ai (l.filter fun q=>P q.1) t:=by unfold Ai;rw[List.find?_cons,decide_eq_false e]
     rw[this,ih]
    ·rw[if_neg c,ih]
theorem M9{l:List (T2×Int)}(h:∀q∈l,0≤q.2)(t:T2):0≤Ai l t:=by
 unfold Ai
 cases e:l.find? (fun q=>decide (q.1=t)) with
 | none=>exact Int.le_refl _
 | some q=>exact h q (List.mem_of_find?_eq_some e)
section
variable {G M:HGh}{n m:Nat}
theorem Sd.of(x:Sd m G n){G':HGh}(ok':Ok G' (n+1))(nu:G'.num=G.num)(md:G'.made=G.made)(hd:∀t∈G'.hand,Hd2 G t∨(InM m t∧(t.1≠G.num→t∈G'.recs.map (·.1))))(hl:∀q∈G'.holds,∀t∈q.2.2,Hd2 G t)(nn:∀q∈G'.recs,0≤q.2)(ir:∀t∈G'.recs.map (·.1),t∈G.recs.map (·.1)∨InM m t)(ks:∀t,Hd2 G' t→t∈G.recs.map (·.1)→t∈G'.recs.map (·.1)):Sd m G' (n+1):=by
 refine⟨ok',nn,fun t ht=>?_,fun t ht e=>?_,fun t ht=>(ir t ht).elim (x.ir t) id,by rw[nu];exact x.n0,by rw[nu];exact x.n1,by rw[md];exact x.m0,by rw[md];have:=x.m1;lia⟩
 ·rcases ht with ht|⟨q,hq,ht⟩
  ·rcases hd t ht with h|h
   ·exact x.ip t h
   ·exact h.1
  ·exact x.ip t (hl q hq t ht)
 ·rw[nu] at e
  rcases id ht with h|⟨q,hq,h⟩
  ·rcases hd t h with h|h
   ·exact ks t ht (x.rk t h e)
   ·exact h.2 e
  ·exact ks t ht (x.rk t (hl q hq t h) e)
theorem Sd.up(x:Sd m G n):Sd m G (n+1):=x.of (x.ok.mono (Nat.le_succ n)) rfl rfl (fun t ht=>.inl (.inl ht)) (fun q hq t ht=>.inr ⟨q,hq,ht⟩) x.nn (fun t h=>.inl h) fun t _ h=>h
theorem Sd.tk(x:Sd m G n):Sd m (tk1 G) n:=⟨x.ok.tk1,x.nn,x.ip,x.rk,x.ir,x.n0,x.n1,x.m0,x.m1⟩
theorem Sd.make(x:Sd m G n)(hm:m≤12)(hn:n<60)(a:Addr):Sd m (tk1 (mkG G a)) (n+1):=by
 refine Sd.tk ⟨x.ok.mkG a,x.nn,fun t ht=>?_,fun t ht e=>?_,x.ir,x.n0,x.n1,by show 0≤G.made+1;have:=x.m0;lia,by show G.made+1≤((n+1:Nat):Int);have:=x.m1;lia⟩
 ·have h1:=x.m1
  have h2:=x.n1
  rcases ht with ht|⟨q,hq,ht⟩
  ·have ht:t∈G.hand++[(G.num,G.made)]:=ht
   rcases ZI ht with ht|ht
   ·exact x.ip t (.inl ht)
   ·have:t=(G.num,G.made):=by simpa using ht
    rw[this]
    exact⟨⟨x.n0,by show G.num<12;lia,x.m0,by show G.made<60;lia⟩,x.n1⟩
  ·have hq:q∈G.holds++[((G.num,G.made),a,[])]:=hq
   rcases ZI hq with hq|hq
   ·exact x.ip t (.inr ⟨q,hq,ht⟩)
   ·have:q=((G.num,G.made),a,[]):=by simpa using hq
    rw[this] at ht;cases ht
 ·rcases ht with ht|⟨q,hq,ht⟩
  ·have ht:t∈G.hand++[(G.num,G.made)]:=ht
   rcases ZI ht with ht|ht
   ·exact x.rk t (.inl ht) e
   ·have:t=(G.num,G.made):=by simpa using ht
    exact absurd (by rw[this];rfl) e
  ·have hq:q∈G.holds++[((G.num,G.made),a,[])]:=hq
   rcases ZI hq with hq|hq
   ·exact x.rk t (.inr ⟨q,hq,ht⟩) e
   ·have:q=((G.num,G.made),a,[]):=by simpa using hq
    rw[this] at ht;cases ht
theorem Ok.addIn(ok:Ok G n){tb:T2}(h:tb.1=G.num→tb∈G.outs.map (·.1)):Ok { G with hand:=Bo G.hand tb } (n+1):=by
 refine(ok.mono (Nat.le_succ n)).hand (Ma _ ok.hn) (by have:=Gn G.hand tb;have:=ok.hz;lia) fun t ht e=>?_
 rcases mem_addT'.mp ht with ht|ht
 ·exact ok.hk t ht e
 ·rw[ht];exact h (by rw[←ht];exact e)
def Ks(G:HGh)(ta tb:T2):HGh:=tk1 { G with holds:=setH G.holds ta (Bo (getH G.holds ta) tb) }
def Kt(G:HGh)(ta tb:T2):HGh:=tk1 { G with holds:=setH G.holds ta (El (getH G.holds ta) tb) }
def Nd(G:HGh)(tb:T2):HGh:=tk1 { G with hand:=Bo G.hand tb }
def Nf(G:HGh)(tb:T2):HGh:=tk1 { G with hand:=El G.hand tb }
theorem Sd.hold(x:Sd m G n){ta tb:T2}(hb:tb∈G.hand):Sd m (Ks G ta tb) (n+1):=by
 have ok':Ok { G with holds:=setH G.holds ta (Bo (getH G.holds ta) tb) } (n+1):=by
  obtain⟨g1,g2,g3⟩:=x.ok.get ta
  refine(x.ok.mono (Nat.le_succ n)).holds (Ma _ g1) (by have:=Gn (getH G.holds ta) tb;lia) fun t ht e=>?_
  rcases mem_addT'.mp ht with ht|ht
  ·exact g3 t ht e
  ·rw[ht];exact x.ok.hk tb hb (by rw[←ht];exact e)
 refine(x.of ok' rfl rfl (fun t ht=>.inl (.inl ht)) (fun q hq t ht=>?_) x.nn (fun t h=>.inl h) fun t _ h=>h).tk
 rcases Ja hq with⟨_,e⟩|hq
 ·rw[e] at ht
  rcases mem_addT'.mp ht with ht|ht
  ·exact Ro ht
  ·rw[ht];exact .inl hb
 ·exact .inr ⟨q,hq,ht⟩
theorem Sd.drop(x:Sd m G n)(ta tb:T2):Sd m (Kt G ta tb) (n+1):=by
 have ok':Ok { G with holds:=setH G.holds ta (El (getH G.holds ta) tb) } (n+1):=by
  obtain⟨g1,g2,g3⟩:=x.ok.get ta
  refine(x.ok.mono (Nat.le_succ n)).holds (g1.sublist List.filter_sublist) (by have:=List.length_filter_le (fun u=>decide (u≠tb)) (getH G.holds ta);unfold El;lia) fun t ht e=>g3 t (mem_delT'.mp ht).1 e
 refine(x.of ok' rfl rfl (fun t ht=>.inl (.inl ht)) (fun q hq t ht=>?_) x.nn (fun t h=>.inl h) fun t _ h=>h).tk
 rcases Ja hq with⟨_,e⟩|hq
 ·rw[e] at ht
  exact Ro (mem_delT'.mp ht).1
 ·exact .inr ⟨q,hq,ht⟩
theorem Sd.take(x:Sd m G n){ta tb:T2}(hb:tb∈getH G.holds ta):Sd m (Nd G tb) (n+1):=by
 refine(x.of (x.ok.addIn fun e=>(x.ok.get ta).2.2 tb hb e) rfl rfl (fun t ht=>.inl ?_) (fun q hq t ht=>.inr ⟨q,hq,ht⟩) x.nn (fun t h=>.inl h) fun t _ h=>h).tk
 rcases mem_addT'.mp ht with ht|ht
 ·exact .inl ht
 ·rw[ht];exact Ro hb
theorem Sd.free(x:Sd m G n)(tb:T2):Sd m (Nf G tb) (n+1):=by
 refine(x.of ((x.ok.mono (Nat.le_succ n)).hand (l:=El G.hand tb) (x.ok.hn.sublist List.filter_sublist) (by have:=List.length_filter_le (fun u=>decide (u≠tb)) G.hand;have:=x.ok.hz;unfold El;lia) fun t ht e=>x.ok.hk t (mem_delT'.mp ht).1 e) rfl rfl (fun t ht=>.inl (.inl (mem_delT'.mp ht).1)) (fun q hq t ht=>.inr ⟨q,hq,ht⟩) x.nn (fun t h=>.inl h) fun t _ h=>h).tk
def Ur(G:HGh)(tb:T2)(v:Int):HGh:=tk1 { G with outs:=Ba G.outs tb v }
def K2(G:HGh)(tb:T2)(v:Int):HGh:=tk1 { G with recs:=Ba G.recs tb v }
theorem Sd.out(x:Sd m G n){tb:T2}(h:tb∈G.outs.map (·.1))(v:Int):Sd m (Ur G tb v) (n+1) :=
 (x.of ((x.ok.outs h v).mono (Nat.le_succ n)) rfl rfl (fun t ht=>.inl (.inl ht)) (fun q hq t ht=>.inr ⟨q,hq,ht⟩) x.nn (fun t h=>.inl h) fun t _ h=>h).tk
theorem Sd.recd(x:Sd m G n){tb:T2}(hf:tb.1≠G.num)(hi:InM m tb){v:Int}(hv:0≤v):Sd m (K2 G tb v) (n+1):=by
 have okc:=(x.ok.came hf v).hand (l:=G.hand) x.ok.hn (Nat.le_succ_of_le x.ok.hz) x.ok.hk
 refine(x.of okc rfl rfl (fun t ht=>.inl (.inl ht)) (fun q hq t ht=>.inr ⟨q,hq,ht⟩) (fun q hq=>?_) (fun t ht=>?_) fun t _ h=>(Fy _ _ _).2.1 t h).tk
 ·rcases Oo hq with e|hq
  ·rw[e];exact hv
  ·exact x.nn q hq
 ·rcases(Fy _ _ _).2.2 t ht with e|h
  ·rw[e];exact .inr hi
  ·exact .inl h
def F9(G:HGh)(R:List T2):HGh:=tk1 (keepB (keepR G R))
theorem Sd.clean(x:Sd m G n){R:List T2}(okR:Ok (keepR G R) n):Sd m (F9 G R) (n+1):=by
 refine(x.of (okR.keepB.mono (Nat.le_succ n)) rfl rfl (fun t ht=>.inl (.inl ht)) (fun q hq t ht=>.inr ⟨q,(List.mem_filter.mp hq).1,ht⟩) (fun q hq=>x.nn q (List.mem_filter.mp hq).1) (fun t ht=>.inl ((List.filter_sublist.map _).subset ht)) fun t ht hk=>?_).tk
 obtain⟨q,hq,e⟩:=ZN hk
 refine List.mem_map.mpr ⟨q,List.mem_filter.mpr ⟨hq,?_⟩,e⟩
 rw[e]
 unfold heldB
 rcases ht with ht|⟨r,hr,ht⟩
 ·have ht:t∈(keepR G R).hand:=ht
  rw[decide_eq_true ht];rfl
 ·have:((keepR G R).holds.any fun q=>decide (t∈q.2.2))=true:=List.any_eq_true.mpr ⟨r,hr,by simpa using ht⟩
  rw[this,Bool.or_true]
theorem Rch.ofN(ok:Ok G n)(hn:n≤60):∃k R,k≤5000∧Rch (nxT G.holds) k (startT G) [] R:=by
 have l1:(G.holds.map (·.1)).length≤60:=by rw[ok.ke,ZA];have:=ok.oz;lia
 have l2:(startT G).length≤200:=by
  unfold startT G8
  refine Nat.le_trans (List.length_filter_le _ _) ?_
  rw[ZE]
  have h1:=ok.hz
  have h2:=List.length_filter_le (fun t=>decide (0<Ai G.outs t)) (G.outs.map (·.1))
  rw[ZA] at h2
  have h3:=ok.oz
  lia
 have l3:((G.holds.map (·.1)).filter fun t=>decide (t∉([]:List T2))).length≤60:=Nat.le_trans (List.length_filter_le _ _) l1
 obtain⟨k,R,h1,h2⟩:=Rch.ex (nx:=nxT G.holds) (keys:=G.holds.map (·.1)) (B:=60) (Jfl G.holds) (fun t=>Nat.le_trans (List.length_filter_le _ _) (Nat.le_trans (ok.get t).2.1 hn)) 5000 (startT G) [] (Yg G) (by
  have:((G.holds.map (·.1)).filter fun t=>decide (t∉([]:List T2))).length*(60+1)≤60*(60+1):=Nat.mul_le_mul_right _ l3
  lia)
 exact⟨k,R,h1,h2⟩
theorem Ok.clean(ok:Ok G n){k:Nat}{R:List T2}(rc:Rch (nxT G.holds) k (startT G) [] R):Ok (FX.keepR G R) n:=ok.keepR rc.sub.2 (rc.closed (fun t ht=>by cases ht))
theorem Like.hold(x:Like M G)(ta tb:T2):Like (Ks M ta tb) (Ks G ta tb):=by
 have:=(x.setH ta (Bo (FX.getH M.holds ta) tb))
 rw[x.getH] at this
 unfold Ks
 rw[x.getH]
 exact⟨this.num,this.made,by show M.ticks+1=G.ticks+1;rw[x.ticks],this.hand,this.outs,this.recs,this.holds⟩
theorem Like.drop(x:Like M G)(ta tb:T2):Like (Kt M ta tb) (Kt G ta tb):=by
 have:=(x.setH ta (El (FX.getH M.holds ta) tb))
 rw[x.getH] at this
 unfold Kt
 rw[x.getH]
 exact⟨this.num,this.made,by show M.ticks+1=G.ticks+1;rw[x.ticks],this.hand,this.outs,this.recs,this.holds⟩
theorem Like.take(x:Like M G)(tb:T2):Like (Nd M tb) (Nd G tb):=⟨x.num,x.made,by show M.ticks+1=G.ticks+1;rw[x.ticks],by show Bo M.hand tb=Bo G.hand tb;rw[x.hand],x.outs,x.recs,x.holds⟩
theorem Like.free(x:Like M G)(tb:T2):Like (Nf M tb) (Nf G tb):=⟨x.num,x.made,by show M.ticks+1=G.ticks+1;rw[x.ticks],by show El M.hand tb=El G.hand tb;rw[x.hand],x.outs,x.recs,x.holds⟩
theorem Like.out(x:Like M G)(tb:T2)(v:Int):Like (Ur M tb v) (Ur G tb v):=⟨x.num,x.made,by show M.ticks+1=G.ticks+1;rw[x.ticks],x.hand,by show Ba M.outs tb v=Ba G.outs tb v;rw[x.outs],x.recs,x.holds⟩
theorem Like.recd(x:Like M G)(tb:T2)(v:Int):Like (K2 M tb v) (K2 G tb v):=⟨x.num,x.made,by show M.ticks+1=G.ticks+1;rw[x.ticks],x.hand,x.outs,by show Ba M.recs tb v=Ba G.recs tb v;rw[x.recs],x.holds⟩
theorem Like.w(x:Like M G):LikeW M G:=⟨x.num,x.made,rfl,x.hand,x.outs,x.recs,x.holds⟩
theorem Like.clean(x:Like M G)(R:List T2):Like (F9 M R) (F9 G R):=by
 have:=(x.w.keepR R).keepB
 exact⟨this.num,this.made,by show M.ticks+1=G.ticks+1;rw[x.ticks],this.hand,this.outs,this.recs,this.holds⟩
theorem Xw(G:HGh)(t:T2):Hd2 G t↔t∈G.hand∨∃q∈hs0 G.holds,t∈q.2:=by
 unfold Hd2 hs0
 refine or_congr_right ⟨fun⟨q,hq,h⟩=>⟨(q.1,q.2.2),List.mem_map.mpr ⟨q,hq,rfl⟩,h⟩,fun⟨q,hq,h⟩=>?_⟩
 obtain⟨r,hr,rfl⟩:=ZN hq
 exact⟨r,hr,h⟩
theorem Like.hd2(x:Like M G)(t:T2):Hd2 M t↔Hd2 G t:=by rw[Xw,Xw,x.hand,x.holds]
theorem Like.sd(x:Like M G)(s:Sd m G n):Sd m M n :=
 ⟨x.ok s.ok,by rw[x.recs];exact s.nn,fun t ht=>s.ip t ((x.hd2 t).mp ht),fun t ht e=>by rw[x.recs];exact s.rk t ((x.hd2 t).mp ht) (by rw[←x.num];exact e),by rw[x.recs];exact s.ir,by rw[x.num];exact s.n0,by rw[x.num];exact s.n1,by rw[x.made];exact s.m0,by rw[x.made];exact s.m1⟩
def Ng(G:HGh)(tb:T2)(v:Int):HGh:=tk1 { G with hand:=Bo G.hand tb,outs:=Ba G.outs tb v }
def Nh(G:HGh)(tb:T2)(v:Int):HGh:=tk1 { G with hand:=Bo G.hand tb,recs:=Ba G.recs tb v }
theorem Sd.cameN(x:Sd m G n){tb:T2}(hin:tb∈G.outs.map (·.1))(hi:InM m tb)(v:Int):Sd m (Ng G tb v) (n+1):=by
 refine(x.of (FX.Ok.outs (G:={ G with hand:=Bo G.hand tb }) (Ok.addIn x.ok fun _=>hin) hin v) rfl rfl (fun t ht=>?_) (fun q hq t ht=>.inr ⟨q,hq,ht⟩) x.nn (fun t h=>.inl h) fun t _ h=>h).tk
 rcases mem_addT'.mp ht with ht|ht
 ·exact .inl (.inl ht)
 ·rw[ht];exact .inr ⟨hi,fun e=>absurd (x.ok.new tb hin).1 e⟩
theorem Sd.cameF(x:Sd m G n){tb:T2}(hf:tb.1≠G.num)(hi:InM m tb){v:Int}(hv:0≤v):Sd m (Nh G tb v) (n+1):=by
 refine(x.of (x.ok.came hf v) rfl rfl (fun t ht=>?_) (fun q hq t ht=>.inr ⟨q,hq,ht⟩) (fun q hq=>?_) (fun t ht=>?_) fun t _ h=>(Fy _ _ _).2.1 t h).tk
 ·rcases mem_addT'.mp ht with ht|ht
  ·exact .inl (.inl ht)
  ·rw[ht];exact .inr ⟨hi,fun _=>(Fy _ _ _).1⟩
 ·rcases Oo hq with e|hq
  ·rw[e];exact hv
  ·exact x.nn q hq
 ·rcases(Fy _ _ _).2.2 t ht with e|h
  ·rw[e];exact .inr hi
  ·exact .inl h
theorem Like.cameN(x:Like M G)(tb:T2)(v:Int):Like (Ng M tb v) (Ng G tb v):=⟨x.num,x.made,by show M.ticks+1=G.ticks+1;rw[x.ticks],by show Bo M.hand tb=Bo G.hand tb;rw[x.hand],by show Ba M.outs tb v=Ba G.outs tb v;rw[x.outs],x.recs,x.holds⟩
theorem Like.cameF(x:Like M G)(tb:T2)(v:Int):Like (Nh M tb v) (Nh G tb v):=⟨x.num,x.made,by show M.ticks+1=G.ticks+1;rw[x.ticks],by show Bo M.hand tb=Bo G.hand tb;rw[x.hand],x.outs,by show Ba M.recs tb v=Ba G.recs tb v;rw[x.recs],x.holds⟩
theorem Oi(l:List (T2×Int))(t:T2)(v:Int):(Ba l t v).length≤l.length+1:=by
 unfold Ba
 split
 ·rw[ZA];lia
 ·rw[ZE];exact ZG _
end
end FX
namespace K42
open PySem L2 FX
structure LT where
 kind:Str
 s:Int
 g:Int
 th:T2
 x:Int
def ltW(t:T2)(l:LT):Int:=if l.th=t then(if l.kind="pass" then 1 else l.x) else 0
def Ce(t:T2):List LT→Int
 | []=>0
 | l::r=>ltW t l+Ce t r
theorem Fw(t:T2):∀(a b:List LT),Ce t (a++b)=Ce t a+Ce t b
 | [],b=>by simp[Ce]
 | l::a,b=>by
   show ltW t l+Ce t (a++b)=(ltW t l+Ce t a)+Ce t b
   rw[Fw t a b];lia
theorem Ed(t:T2)(a b:List LT)(l:LT):Ce t (a++l::b)=Ce t (a++b)+ltW t l:=by
 rw[Fw,Fw]
 show Ce t a+(ltW t l+Ce t b)=_
 lia
theorem E1(t:T2)(a:List LT)(l:LT):Ce t (a++[l])=Ce t a+ltW t l:=by
 rw[Fw]
 show Ce t a+(ltW t l+0)=_
 lia
def bal(t:T2)(G:HGh):Int:=Ai G.recs t-Ai G.outs t
def Eu(t:T2):List (Addr×HGh)→Int
 | []=>0
 | q::r=>bal t q.2+Eu t r
def Gy:List (Addr×HGh)→Nat
 | []=>0
 | q::r=>q.2.recs.length+Gy r
theorem R8{t:T2}:∀{l:List (Addr×HGh)} {i:Nat} {q r:Addr×HGh},l[i]?=some q→Eu t (l.set i r)=Eu t l-bal t q.2+bal t r.2
 | [],i,q,r,h=>by simp at h
 | x::l,0,q,r,h=>by
   have h:x=q:=by simpa using h
   subst h
   show bal t r.2+Eu t l=(bal t x.2+Eu t l)-bal t x.2+bal t r.2
   lia
 | x::l,i+1,q,r,h=>by
   have h:l[i]?=some q:=by simpa using h
   show bal t x.2+Eu t (l.set i r)=(bal t x.2+Eu t l)-bal t q.2+bal t r.2
   rw[R8 h];lia
theorem Te:∀{l:List (Addr×HGh)} {i:Nat} {q r:Addr×HGh},l[i]?=some q→Gy (l.set i r)+q.2.recs.length=Gy l+r.2.recs.length
 | [],i,q,r,h=>by simp at h
 | x::l,0,q,r,h=>by
   have h:x=q:=by simpa using h
   subst h
   show r.2.recs.length+Gy l+x.2.recs.length=x.2.recs.length+Gy l+r.2.recs.length
   lia
 | x::l,i+1,q,r,h=>by
   have h:l[i]?=some q:=by simpa using h
   have:=Te (r:=r) h
   show x.2.recs.length+Gy (l.set i r)+q.2.recs.length=x.2.recs.length+Gy l+r.2.recs.length
   lia
theorem Pr{t:T2}:∀{l:List (Addr×HGh)},(∀(j:Nat) r,l[j]?=some r→0≤bal t r.2)→0≤Eu t l
 | [],_=>Int.le_refl _
 | x::l,k=>by
   have h1:=k 0 x rfl
   have h2:=Pr (t:=t) fun j r h=>k (j+1) r (by simpa using h)
   show 0≤bal t x.2+Eu t l
   lia
theorem Wp{t:T2}:∀{l:List (Addr×HGh)} {i:Nat} {q:Addr×HGh},l[i]?=some q→(∀(j:Nat) r,l[j]?=some r→j≠i→0≤bal t r.2)→bal t q.2≤Eu t l
 | [],i,q,h,_=>by simp at h
 | x::l,0,q,h,k=>by
   have h:x=q:=by simpa using h
   subst h
   have h2:=Pr (t:=t) fun j r h=>k (j+1) r (by simpa using h) (by lia)
   show bal t x.2≤bal t x.2+Eu t l
   lia
 | x::l,i+1,q,h,k=>by
   have h:l[i]?=some q:=by simpa using h
   have h1:=k 0 x rfl (by lia)
   have h2:=Wp h fun j r h ne=>k (j+1) r (by simpa using h) (by lia)
   show bal t q.2≤bal t x.2+Eu t l
   lia
def LtOk(m:Nat)(l:LT):Prop:=0≤l.g∧l.g<m∧InM m l.th ∧
 ((l.kind="hold"∧1≤l.x)∨(l.kind="more"∧1≤l.x∧l.g≠l.th.1)∨(l.kind="back"∧1≤l.x∧l.g=l.th.1)∨(l.kind="pass"∧l.g=l.th.1∧0≤l.x∧l.x<m∧0≤l.s∧l.s<m∧l.s≠l.th.1))
theorem Dt:¬(("more":Str)="pass"):=by decide +kernel
theorem Cp:¬(("hold":Str)="pass"):=by decide +kernel
theorem Du:¬(("back":Str)="pass"):=by decide +kernel
theorem LtOk.w{m:Nat}{l:LT}(h:LtOk m l):1≤ltW l.th l:=by
 unfold ltW
 rw[if_pos rfl]
 obtain⟨_,_,_,h⟩:=h
 rcases h with⟨k,h⟩|⟨k,h,_⟩|⟨k,h,_⟩|⟨k,_⟩
 ·rw[k,if_neg Cp];exact h
 ·rw[k,if_neg Dt];exact h
 ·rw[k,if_neg Du];exact h
 ·rw[k,if_pos rfl];decide
theorem LtOk.nn{m:Nat}{l:LT}(h:LtOk m l)(t:T2):0≤ltW t l:=by
 by_cases e:l.th=t
 ·rw[←e];have:=h.w;lia
 ·unfold ltW;rw[if_neg e];exact Int.le_refl _
theorem Ps{m:Nat}{t:T2}:∀{ls:List LT},(∀l∈ls,LtOk m l)→0≤Ce t ls
 | [],_=>Int.le_refl _
 | l::ls,h=>by
   have h1:=(h l (ZL ..)).nn t
   have h2:=Ps (t:=t) fun z hz=>h z (ZD _ hz)
   show 0≤ltW t l+Ce t ls
   lia
theorem Zz{m:Nat}{ls:List LT}(h:∀l∈ls,LtOk m l){l:LT}(hl:l∈ls):1≤Ce l.th ls:=by
 obtain⟨a,b,e⟩:=List.append_of_mem hl
 rw[e,Ed]
 have h1:=(h l hl).w
 have h2:=Ps (t:=l.th) (ls:=a++b) fun z hz=>h z (by
  rw[e]
  rcases ZI hz with hz|hz
  ·exact ZB _ hz
  ·exact ZC _ (ZD _ hz))
 lia
structure Wl(m n:Nat)(sh:Int)(qs:List (Addr×HGh))(ls:List LT):Prop where
 len:qs.length=m
 m12:m≤12
 sd:∀(i:Nat)(q:Addr)(G:HGh),qs[i]?=some (q,G)→Sd m G n∧G.num=(i:Int)
 ok:∀l∈ls,LtOk m l
 sum:∀t,Eu t qs+Ce t ls=0
 cnt:Gy qs+ls.length≤n
 sh:2≤sh
section
variable {m n:Nat}{sh:Int}{qs:List (Addr×HGh)}{ls:List LT}
theorem Jee{P:HGh→Nat→Prop}{l:List (Addr×HGh)}{i:Nat}{q:Addr}{G':HGh}(h:∀j q G,l[j]?=some (q,G)→j≠i→P G j)(hi:P G' i):∀j q' G,(l.set i (q,G'))[j]?=some (q',G)→P G j:=by
 intro j q' G e
 rw[List.getElem?_set] at e
 by_cases z:i=j
 ·rw[if_pos z] at e
  by_cases z2:i<l.length
  ·rw[if_pos z2] at e
   have:(q,G')=(q',G):=ZO e
   rw[←(Prod.mk.inj this).2,←z];exact hi
  ·rw[if_neg z2] at e;cases e
 ·rw[if_neg z] at e
  exact h j q' G e fun z'=>z z'.symm
theorem Wl.next(x:Wl m n sh qs ls){i:Nat}{q:Addr}{G G':HGh}{ls':List LT}(hi:qs[i]?=some (q,G))(sd':Sd m G' (n+1))(nu:G'.num=G.num)(ok':∀l∈ls',LtOk m l)(sum':∀t,bal t G'+Ce t ls'=bal t G+Ce t ls)(cnt':G'.recs.length+ls'.length≤G.recs.length+ls.length+1):Wl m (n+1) sh (qs.set i (q,G')) ls':=by
 refine⟨by rw[List.length_set];exact x.len,x.m12,Jee (P:=fun G j=>Sd m G (n+1)∧G.num=(j:Int)) (fun j q G e _=>⟨(x.sd j q G e).1.up,(x.sd j q G e).2⟩) ⟨sd',by rw[nu];exact(x.sd i q G hi).2⟩,ok',fun t=>?_,?_,x.sh⟩
 ·have h1:=x.sum t
  have h2:=sum' t
  rw[R8 hi]
  show Eu t qs-bal t G+bal t G'+Ce t ls'=0
  lia
 ·have h1:=Te (r:=(q,G')) hi
  have h1:Gy (qs.set i (q,G'))+G.recs.length=Gy qs+G'.recs.length:=h1
  have h2:=x.cnt
  lia
theorem Wl.up(x:Wl m n sh qs ls):Wl m (n+1) sh qs ls:=⟨x.len,x.m12,fun i q G e=>⟨(x.sd i q G e).1.up,(x.sd i q G e).2⟩,x.ok,x.sum,Nat.le_succ_of_le x.cnt,x.sh⟩
theorem Wl.out0(x:Wl m n sh qs ls){t:T2}{j:Nat}{r:Addr×HGh}(e:qs[j]?=some r)(ne:t.1≠(j:Int)):Ai r.2.outs t=0:=by
 obtain⟨s,nu⟩:=x.sd j r.1 r.2 e
 exact D1 fun z=>ne (by rw[(s.ok.new t z).1,nu])
theorem Wl.bal0(x:Wl m n sh qs ls){t:T2}{j:Nat}{r:Addr×HGh}(e:qs[j]?=some r)(ne:t.1≠(j:Int)):0≤bal t r.2:=by
 have h1:=x.out0 e ne
 have h2:=M9 (x.sd j r.1 r.2 e).1.nn t
 unfold bal
 lia
theorem Wl.there(x:Wl m n sh qs ls){l:LT}(hl:l∈ls){i:Nat}{q:Addr}{G:HGh}(hi:qs[i]?=some (q,G))(e:l.th.1=(i:Int)):l.th∈G.outs.map (·.1):=by
 refine Classical.byContradiction fun no=>?_
 have h1:=Zz x.ok hl
 have h2:=Pr (t:=l.th) (l:=qs) fun j r ej=>by
  by_cases c:l.th.1=(j:Int)
  ·have:i=j:=by lia
   subst this
   have er:(q,G)=r:=ZO (hi.symm.trans ej)
   have h3:=M9 (x.sd i r.1 r.2 ej).1.nn l.th
   unfold bal
   rw[←er] at h3 ⊢
   have h4:Ai G.outs l.th=0:=D1 no
   show 0≤Ai G.recs l.th-Ai G.outs l.th
   have h3:0≤Ai G.recs l.th:=h3
   lia
  ·exact x.bal0 ej c
 have h3:=x.sum l.th
 lia
theorem Wl.out_nn(x:Wl m n sh qs ls){i:Nat}{q:Addr}{G:HGh}(hi:qs[i]?=some (q,G))(t:T2):0≤Ai G.outs t:=by
 by_cases c:t∈G.outs.map (·.1)
 ·obtain⟨s,nu⟩:=x.sd i q G hi
  have e1:t.1=(i:Int):=by rw[(s.ok.new t c).1,nu]
  have h1:=Wp (t:=t) hi fun j r ej ne=>x.bal0 ej (by lia)
  have h2:=Ps (t:=t) x.ok
  have h3:=x.sum t
  have h4:Ai G.recs t=0:=D1 fun z=>s.ok.rk t z (s.ok.new t c).1
  have h1:Ai G.recs t-Ai G.outs t≤Eu t qs:=h1
  lia
 ·rw[D1 c];exact Int.le_refl _
end
section
variable {m n:Nat}{sh:Int}{qs:List (Addr×HGh)}{ls:List LT}{i:Nat}{q:Addr}{G:HGh}
theorem mem_mid{a b:List LT}{l z:LT}(hz:z∈a++b):z∈a++l::b:=by
 rcases ZI hz with hz|hz
 ·exact ZB _ hz
 ·exact ZC _ (ZD _ hz)
theorem Wl.same(x:Wl m n sh qs ls)(hi:qs[i]?=some (q,G)){G':HGh}(sd':Sd m G' (n+1))(nu:G'.num=G.num)(hr:G'.recs=G.recs)(ho:G'.outs=G.outs):Wl m (n+1) sh (qs.set i (q,G')) ls :=
 x.next hi sd' nu x.ok (fun t=>by unfold bal;rw[hr,ho]) (by rw[hr];lia)
theorem Wl.make(x:Wl m n sh qs ls)(hi:qs[i]?=some (q,G))(hn:n<60)(a:Addr):Wl m (n+1) sh (qs.set i (q,tk1 (mkG G a))) ls:=by
 obtain⟨s,nu⟩:=x.sd i q G hi
 refine x.next hi (s.make x.m12 hn a) rfl x.ok (fun t=>?_) (by show G.recs.length+_≤_;lia)
 have fr:(G.num,G.made)∉G.outs.map (·.1):=fun z=>by
  obtain⟨r,hr,e⟩:=ZN z
  exact s.ok.fresh.2.1 r hr e
 have e:Ai (G.outs++[((G.num,G.made),0)]) t=Ai G.outs t:=by
  rw[←Jaf fr,Df]
  by_cases c:t=(G.num,G.made)
  ·rw[if_pos c,c,D1 fr]
  ·rw[if_neg c]
 show Ai G.recs t-Ai (G.outs++[((G.num,G.made),0)]) t+Ce t ls=Ai G.recs t-Ai G.outs t+Ce t ls
 rw[e]
theorem Gk{l:LT}(h:∀z∈ls,LtOk m z)(hl:LtOk m l):∀z∈ls++[l],LtOk m z:=fun z hz=>by
 rcases ZI hz with hz|hz
 ·exact h z hz
 ·rw[ZK hz];exact hl
theorem Wl.sendNear(x:Wl m n sh qs ls)(hi:qs[i]?=some (q,G)){b:T2}(hb:b∈G.hand)(hn:b.1=G.num){g:Int}(g0:0≤g)(g1:g<m):Wl m (n+1) sh (qs.set i (q,Ur G b (Ai G.outs b+sh))) (ls++[⟨"hold",(i:Int),g,b,sh⟩]):=by
 obtain⟨s,nu⟩:=x.sd i q G hi
 have hs:=x.sh
 refine x.next hi (s.out (s.ok.hk b hb hn) _) rfl (Gk x.ok ⟨g0,g1,s.ip b (.inl hb),.inl ⟨rfl,by show 1≤sh;lia⟩⟩) (fun t=>?_) (by rw[ZE,List.length_singleton];show G.recs.length+_≤_;lia)
 rw[E1]
 show Ai G.recs t-Ai (Ba G.outs b (Ai G.outs b+sh)) t+(Ce t ls+ltW t ⟨"hold",(i:Int),g,b,sh⟩)=Ai G.recs t-Ai G.outs t+Ce t ls
 rw[Df]
 unfold ltW
 by_cases c:t=b
 ·rw[if_pos c,if_pos (show b=t from c.symm),if_neg Cp,c];show _+(_+sh)=_;lia
 ·rw[if_neg c,if_neg (show ¬b=t from fun z=>c z.symm)];lia
theorem Uq{b:T2}(h:b∈G.recs.map (·.1))(v:Int):(K2 G b v).recs.length=G.recs.length:=Ti h v
theorem Wl.sendFar(x:Wl m n sh qs ls)(hi:qs[i]?=some (q,G)){b:T2}(hb:b∈G.hand)(hf:b.1≠G.num){g:Int}(g0:0≤g)(g1:g<m)(w2:2≤Ai G.recs b) :
 Wl m (n+1) sh (qs.set i (q,K2 G b (Ai G.recs b-Ai G.recs b / 2))) (ls++[⟨"hold",(i:Int),g,b,Ai G.recs b / 2⟩]):=by
 obtain⟨s,nu⟩:=x.sd i q G hi
 refine x.next hi (s.recd hf (s.ip b (.inl hb)) (by lia)) rfl (Gk x.ok ⟨g0,g1,s.ip b (.inl hb),.inl ⟨rfl,by show 1≤Ai G.recs b / 2;lia⟩⟩) (fun t=>?_) (by rw[ZE,List.length_singleton,Uq (s.rk b (.inl hb) hf)];lia)
 rw[E1]
 show Ai (Ba G.recs b (Ai G.recs b-Ai G.recs b / 2)) t-Ai G.outs t+(Ce t ls+ltW t ⟨"hold",(i:Int),g,b,Ai G.recs b / 2⟩)=Ai G.recs t-Ai G.outs t+Ce t ls
 rw[Df]
 unfold ltW
 by_cases c:t=b
 ·rw[if_pos c,if_pos (show b=t from c.symm),if_neg Cp,c];show _+(_+Ai G.recs b / 2)=_;lia
 ·rw[if_neg c,if_neg (show ¬b=t from fun z=>c z.symm)];lia
theorem Wl.sendPass(x:Wl m n sh qs ls)(hi:qs[i]?=some (q,G)){b:T2}(hb:b∈G.hand)(hf:b.1≠G.num){g:Int}(g0:0≤g)(g1:g<m)(w1:Ai G.recs b=1) :
 Wl m (n+1) sh (qs.set i (q,K2 G b 0)) (ls++[⟨"pass",(i:Int),b.1,b,g⟩]):=by
 obtain⟨s,nu⟩:=x.sd i q G hi
 have ib:=s.ip b (.inl hb)
 have hil:i<m:=by rw[←x.len];exact(ZJ hi).1
 refine x.next hi (s.recd hf ib (Int.le_refl _)) rfl (Gk x.ok ⟨ib.1.1,ib.2,ib,.inr (.inr (.inr ⟨rfl,rfl,g0,g1,by show 0≤(i:Int);lia,by show(i:Int)<m;lia,by rw[nu] at hf;exact fun z=>hf z.symm⟩))⟩) (fun t=>?_) (by rw[ZE,List.length_singleton,Uq (s.rk b (.inl hb) hf)];lia)
 rw[E1]
 show Ai (Ba G.recs b 0) t-Ai G.outs t+(Ce t ls+ltW t ⟨"pass",(i:Int),b.1,b,g⟩)=Ai G.recs t-Ai G.outs t+Ce t ls
 rw[Df]
 unfold ltW
 by_cases c:t=b
 ·rw[if_pos c,if_pos (show b=t from c.symm),if_pos rfl,c,w1];lia
 ·rw[if_neg c,if_neg (show ¬b=t from fun z=>c z.symm)];lia
theorem Wl.wt(x:Wl m n sh qs ls){a b:List LT}{l:LT}(es:ls=a++l::b)(np:l.kind≠"pass")(hi:qs[l.g.toNat]?=some (q,G)) :
 ∃G',Wt l.kind G l.th l.x G'∧Wl m (n+1) sh (qs.set l.g.toNat (q,G')) (a++b)∧∀M,Like M G→∃M',Wt l.kind M l.th l.x M'∧Like M' G':=by
 have hl:l∈ls:=by rw[es];exact ZC _ (ZL ..)
 obtain⟨g0,g1,ib,kk⟩:=x.ok l hl
 obtain⟨s,nu⟩:=x.sd _ q G hi
 rw[Int.toNat_of_nonneg g0] at nu
 have okr:∀z∈a++b,LtOk m z:=fun z hz=>x.ok z (by rw[es];exact mem_mid hz)
 have len:(a++b).length+1=ls.length:=by rw[es];simp only[ZE,List.length_cons];lia
 have lw:∀t,ltW t l=if l.th=t then l.x else 0:=fun t=>by unfold ltW;rw[if_neg np]
 rcases kk with⟨k,x1⟩|⟨k,x1,ne⟩|⟨k,x1,eg⟩|⟨k,_⟩
 ·
  by_cases c:l.th.1=G.num
  ·have hin:=x.there hl hi (by rw[Int.toNat_of_nonneg g0,c,nu])
   refine⟨Ng G l.th (Ai G.outs l.th-l.x),.inl ⟨k,.inl ⟨c,_,F6 hin,rfl⟩⟩,x.next hi (s.cameN hin ib _) rfl okr (fun t=>?_) (by show G.recs.length+_≤_;lia),fun M lk=>⟨Ng M l.th (Ai G.outs l.th-l.x),.inl ⟨k,.inl ⟨by rw[lk.num];exact c,_,by rw[lk.outs];exact F6 hin,rfl⟩⟩,lk.cameN _ _⟩⟩
   show Ai G.recs t-Ai (Ba G.outs l.th (Ai G.outs l.th-l.x)) t+Ce t (a++b)=Ai G.recs t-Ai G.outs t+Ce t ls
   rw[es,Ed,Df,lw]
   by_cases d:t=l.th
   ·rw[if_pos d,if_pos d.symm,d];lia
   ·rw[if_neg d,if_neg (fun z=>d z.symm)];lia
  ·have r0:=M9 s.nn l.th
   refine⟨Nh G l.th (Ai G.recs l.th+l.x),.inl ⟨k,.inr ⟨c,rfl⟩⟩,x.next hi (s.cameF c ib (by lia)) rfl okr (fun t=>?_) (by have:=Oi G.recs l.th (Ai G.recs l.th+l.x);show(Ba G.recs l.th _).length+_≤_;lia),fun M lk=>⟨Nh M l.th (Ai G.recs l.th+l.x),.inl ⟨k,.inr ⟨by rw[lk.num];exact c,by rw[←lk.recs];rfl⟩⟩,lk.cameF _ _⟩⟩
   show Ai (Ba G.recs l.th (Ai G.recs l.th+l.x)) t-Ai G.outs t+Ce t (a++b)=Ai G.recs t-Ai G.outs t+Ce t ls
   rw[es,Ed,Df,lw]
   by_cases d:t=l.th
   ·rw[if_pos d,if_pos d.symm,d];lia
   ·rw[if_neg d,if_neg (fun z=>d z.symm)];lia
 ·
  have c:l.th.1≠G.num:=by rw[nu];exact fun z=>ne z.symm
  have r0:=M9 s.nn l.th
  refine⟨K2 G l.th (Ai G.recs l.th+l.x),.inr (.inl ⟨k,rfl⟩),x.next hi (s.recd c ib (by lia)) rfl okr (fun t=>?_) (by have:=Oi G.recs l.th (Ai G.recs l.th+l.x);show(Ba G.recs l.th _).length+_≤_;lia),fun M lk=>⟨K2 M l.th (Ai G.recs l.th+l.x),.inr (.inl ⟨k,by rw[←lk.recs];rfl⟩),lk.recd _ _⟩⟩
  show Ai (Ba G.recs l.th (Ai G.recs l.th+l.x)) t-Ai G.outs t+Ce t (a++b)=Ai G.recs t-Ai G.outs t+Ce t ls
  rw[es,Ed,Df,lw]
  by_cases d:t=l.th
  ·rw[if_pos d,if_pos d.symm,d];lia
  ·rw[if_neg d,if_neg (fun z=>d z.symm)];lia
 ·
  have hin:=x.there hl hi (by rw[Int.toNat_of_nonneg g0,eg])
  have e1:∀M:HGh,M.outs=G.outs→gvO M l.th l.x=Ba G.outs l.th (Ai G.outs l.th-l.x):=fun M e=>by unfold gvO;rw[e,if_pos hin]
  refine⟨Ur G l.th (Ai G.outs l.th-l.x),.inr (.inr ⟨k,by rw[e1 G rfl];rfl⟩),x.next hi (s.out hin _) rfl okr (fun t=>?_) (by show G.recs.length+_≤_;lia),fun M lk=>⟨Ur M l.th (Ai G.outs l.th-l.x),.inr (.inr ⟨k,by rw[e1 M lk.outs,←lk.outs];rfl⟩),lk.out _ _⟩⟩
  show Ai G.recs t-Ai (Ba G.outs l.th (Ai G.outs l.th-l.x)) t+Ce t (a++b)=Ai G.recs t-Ai G.outs t+Ce t ls
  rw[es,Ed,Df,lw]
  by_cases d:t=l.th
  ·rw[if_pos d,if_pos d.symm,d];lia
  ·rw[if_neg d,if_neg (fun z=>d z.symm)];lia
 ·exact absurd k np
theorem Sd.pass{m:Nat}(s:Sd m G n){tb:T2}(hin:tb∈G.outs.map (·.1))(hi:InM m tb)(sh:Int)(mine:Bool):Sd m (Dx G tb sh mine) (n+1):=by
 have okh:Ok { G with hand:=psH G tb mine } (n+1):=by
  cases mine
  ·exact s.ok.mono (Nat.le_succ n)
  ·exact FX.Ok.addIn s.ok fun _=>hin
 refine(s.of (FX.Ok.outs (G:={ G with hand:=psH G tb mine }) okh hin _) rfl rfl (fun t ht=>?_) (fun q hq t ht=>.inr ⟨q,hq,ht⟩) s.nn (fun t h=>.inl h) fun t _ h=>h).tk
 have ht:t∈psH G tb mine:=ht
 unfold psH at ht
 cases mine
 ·exact .inl (.inl ht)
 ·rcases mem_addT'.mp ht with ht|ht
  ·exact .inl (.inl ht)
  ·rw[ht];exact .inr ⟨hi,fun e=>absurd (s.ok.new tb hin).1 e⟩
theorem Like.pass{M:HGh}(x:Like M G)(tb:T2)(sh:Int)(mine:Bool):Like (Dx M tb sh mine) (Dx G tb sh mine):=by
 refine⟨x.num,x.made,by show M.ticks+1=G.ticks+1;rw[x.ticks],?_,?_,x.recs,x.holds⟩
 ·show psH M tb mine=psH G tb mine;unfold psH;rw[x.hand]
 ·show psO M tb sh mine=psO G tb sh mine;unfold psO;rw[x.outs]
theorem Wl.pass(x:Wl m n sh qs ls){a b:List LT}{l:LT}(es:ls=a++l::b)(hp:l.kind="pass")(hi:qs[l.th.1.toNat]?=some (q,G)):l.th∈G.outs.map (·.1) ∧
 (l.x=l.th.1→Wl m (n+1) sh (qs.set l.th.1.toNat (q,Dx G l.th sh true)) (a++b++[⟨"more",l.th.1,l.s,l.th,sh⟩])) ∧
 (l.x≠l.th.1→Wl m (n+1) sh (qs.set l.th.1.toNat (q,Dx G l.th sh false)) (a++b++[⟨"hold",l.th.1,l.x,l.th,sh⟩]++[⟨"more",l.th.1,l.s,l.th,sh⟩])):=by
 have hl:l∈ls:=by rw[es];exact ZC _ (ZL ..)
 obtain⟨g0,g1,ib,kk⟩:=x.ok l hl
 obtain⟨s,nu⟩:=x.sd _ q G hi
 have hs:=x.sh
 have hin:=x.there hl hi (Int.toNat_of_nonneg ib.1.1).symm
 have okr:∀z∈a++b,LtOk m z:=fun z hz=>x.ok z (by rw[es];exact mem_mid hz)
 have len:(a++b).length+1=ls.length:=by rw[es];simp only[ZE,List.length_cons];lia
 have fin:l.g=l.th.1∧0≤l.x∧l.x<m∧0≤l.s∧l.s<m∧l.s≠l.th.1:=by
  rcases kk with⟨h,_⟩|⟨h,_⟩|⟨h,_⟩|⟨_,h⟩
  ·rw[hp] at h;exact absurd h.symm Cp
  ·rw[hp] at h;exact absurd h.symm Dt
  ·rw[hp] at h;exact absurd h.symm Du
  ·exact h
 obtain⟨eg,x0,x1,s0,s1,sne⟩:=fin
 have okM:LtOk m ⟨"more",l.th.1,l.s,l.th,sh⟩:=⟨s0,s1,ib,.inr (.inl ⟨rfl,by show 1≤sh;lia,sne⟩)⟩
 have okH:LtOk m ⟨"hold",l.th.1,l.x,l.th,sh⟩:=⟨x0,x1,ib,.inl ⟨rfl,by show 1≤sh;lia⟩⟩
 have lwP:∀t,ltW t l=if l.th=t then 1 else 0:=fun t=>by unfold ltW;rw[if_pos hp]
 have lwM:∀t,ltW t ⟨"more",l.th.1,l.s,l.th,sh⟩=if l.th=t then sh else 0:=fun t=>by unfold ltW;rw[if_neg Dt]
 have lwH:∀t,ltW t ⟨"hold",l.th.1,l.x,l.th,sh⟩=if l.th=t then sh else 0:=fun t=>by unfold ltW;rw[if_neg Cp]
 refine⟨hin,fun _=>x.next hi (Sd.pass s hin ib sh true) rfl (Gk okr okM) (fun t=>?_) ?_,fun _=>x.next hi (Sd.pass s hin ib sh false) rfl (Gk (Gk okr okH) okM) (fun t=>?_) ?_⟩
 ·show Ai G.recs t-Ai (psO G l.th sh true) t+Ce t _=Ai G.recs t-Ai G.outs t+Ce t ls
  unfold psO
  rw[E1,es,Ed,Df,lwP,lwM,if_pos rfl]
  by_cases d:t=l.th
  ·rw[if_pos d,if_pos d.symm,if_pos d.symm,d];lia
  ·rw[if_neg d,if_neg (fun z=>d z.symm),if_neg (fun z=>d z.symm)];try lia
 ·rw[ZE,List.length_singleton];show G.recs.length+_≤_;lia
 ·show Ai G.recs t-Ai (psO G l.th sh false) t+Ce t _=Ai G.recs t-Ai G.outs t+Ce t ls
  unfold psO
  rw[E1,E1,es,Ed,Df,lwP,lwM,lwH,if_neg Bool.false_ne_true]
  by_cases d:t=l.th
  ·rw[if_pos d,if_pos d.symm,if_pos d.symm,d];lia
  ·rw[if_neg d,if_neg (fun z=>d z.symm),if_neg (fun z=>d z.symm)];try lia
 ·rw[ZE,ZE,List.length_singleton,List.length_singleton];show G.recs.length+_≤_;lia
end
def Pf(i:Int)(y:T2×Int):LT:=⟨"back",i,y.1.1,y.1,y.2⟩
theorem Jbu(q:T2×Int)(l:List (T2×Int))(t:T2):Ai (q::l) t=if q.1=t then q.2 else Ai l t:=by
 unfold Ai
 rw[List.find?_cons]
 by_cases e:q.1=t
 ·rw[decide_eq_true e,if_pos e];rfl
 ·rw[decide_eq_false e,if_neg e]
theorem U1(i:Int)(t:T2):∀{l:List (T2×Int)},(l.map (·.1)).Nodup→(∀q∈l,0≤q.2)→Ce t ((l.filter fun q=>decide (0<q.2)).map (Pf i))=Ai l t
 | [],_,_=>rfl
 | q::l,nd,nn=>by
   have nd':=List.nodup_cons.mp nd
   have ih:=U1 i t nd'.2 fun r hr=>nn r (ZD _ hr)
   have q0:=nn q (ZL ..)
   rw[Jbu,List.filter_cons]
   have lw:ltW t (Pf i q)=if q.1=t then q.2 else 0:=by
    unfold ltW
    rw[if_neg (show ¬(Pf i q).kind="pass" from Du)]
    rfl
   by_cases c:0<q.2
   ·rw[if_pos (decide_eq_true c)]
    show ltW t (Pf i q)+Ce t _=_
    rw[lw,ih]
    by_cases e:q.1=t
    ·rw[if_pos e,if_pos e,D1 (by rw[←e];exact nd'.1)];lia
    ·rw[if_neg e,if_neg e];lia
   ·rw[if_neg (by simpa using c),ih]
    by_cases e:q.1=t
    ·rw[if_pos e,D1 (by rw[←e];exact nd'.1)];lia
    ·rw[if_neg e]
theorem Uj{a b:List (T2×Int)}(p:a.Perm b)(nd:(b.map (·.1)).Nodup)(t:T2):Ai a t=Ai b t:=by
 have nda:(a.map (·.1)).Nodup:=(p.map _).nodup_iff.mpr nd
 by_cases c:t∈b.map (·.1)
 ·obtain⟨q,hq,e⟩:=ZN c
  have h1:=find_self nd hq
  have h2:=find_self nda (p.mem_iff.mpr hq)
  rw[e] at h1 h2
  unfold Ai
  rw[h1,h2]
 ·rw[D1 c,D1 fun z=>c ((p.map _).mem_iff.mp z)]
theorem Um{α:Type}(P:α→Bool):∀l:List α,(l.filter P).length+(l.filter fun x=>!P x).length=l.length
 | []=>rfl
 | x::l=>by
   have:=Um P l
   rw[List.filter_cons,List.filter_cons]
   cases e:P x<;>simp<;>lia
section
variable {m n:Nat}{sh:Int}{qs:List (Addr×HGh)}{ls:List LT}{i:Nat}{q:Addr}{G M:HGh}
theorem Wl.clean(x:Wl m n sh qs ls)(hi:qs[i]?=some (q,G)){k:Nat}{R:List T2}(rc:Rch (nxT G.holds) k (startT G) [] R){rs:List (T2×Int)}(pm:rs.Perm G.recs) :
 Wl m (n+1) sh (qs.set i (q,F9 G R)) (ls++(C2 (keepR G R) rs).map (Pf (i:Int))):=by
 obtain⟨s,nu⟩:=x.sd i q G hi
 refine x.next hi (s.clean (s.ok.clean rc)) rfl (fun z hz=>?_) (fun t=>?_) ?_
 ·rcases ZI hz with hz|hz
  ·exact x.ok z hz
  ·obtain⟨y,hy,rfl⟩:=ZN hz
   obtain⟨hy1,hy2⟩:=List.mem_filter.mp hy
   have hy3:=pm.mem_iff.mp (List.mem_filter.mp hy1).1
   have im:=s.ir y.1 (List.mem_map.mpr ⟨y,hy3,rfl⟩)
   exact⟨im.1.1,im.2,im,.inr (.inr (.inl ⟨rfl,by have:=of_decide_eq_true hy2;show 1≤y.2;lia,rfl⟩))⟩
 ·rw[Fw]
  have ndr:(rs.map (·.1)).Nodup:=(pm.map _).nodup_iff.mpr s.ok.rn
  have e1:Ce t ((C2 (keepR G R) rs).map (Pf (i:Int)))=Ai (rs.filter fun q=>!heldB (keepR G R) q.1) t :=
   U1 (i:Int) t (ndr.sublist (List.filter_sublist.map _)) fun r hr=>s.nn r (pm.mem_iff.mp (List.mem_filter.mp hr).1)
  rw[e1,Hs rs (fun t=>!heldB (keepR G R) t) t,Uj pm s.ok.rn]
  show Ai (G.recs.filter fun q=>heldB (keepR G R) q.1) t-Ai (G.outs.filter fun q=>decide (q.1∈R)) t+_=Ai G.recs t-Ai G.outs t+Ce t ls
  rw[Hs G.recs (fun t=>heldB (keepR G R) t) t,Hs G.outs (fun t=>decide (t∈R)) t]
  have e2:(if decide (t∈R)=true then Ai G.outs t else 0)=Ai G.outs t:=by
   by_cases c:t∈R
   ·rw[if_pos (decide_eq_true c)]
   ·rw[if_neg (by simpa using c)]
    have h1:=x.out_nn hi t
    by_cases d:t∈G.outs.map (·.1)
    ·have h2:¬0<Ai G.outs t:=fun z=>c (rc.sub.2 t (by
      unfold startT G8
      refine List.mem_filter.mpr ⟨ZC _ (List.mem_filter.mpr ⟨d,decide_eq_true z⟩),?_⟩
      rw[s.ok.ke];exact decide_eq_true d))
     lia
    ·rw[D1 d]
  rw[e2]
  cases heldB (keepR G R) t
  ·rw[if_neg (by simp),if_pos (by rfl)];lia
  ·rw[if_pos rfl,if_neg (by simp)];lia
 ·rw[ZE,ZA]
  have h1:(C2 (keepR G R) rs).length≤(rs.filter fun q=>!heldB (keepR G R) q.1).length:=List.length_filter_le _ _
  have h2:=(pm.filter fun q=>!heldB (keepR G R) q.1).length_eq
  have h3:=Um (fun q:T2×Int=>heldB (keepR G R) q.1) G.recs
  show(G.recs.filter fun q=>heldB (keepR G R) q.1).length+_≤_
  lia
theorem Wf(x:Like M G)(R:List T2)(rs:List (T2×Int)):C2 (keepR M R) rs=C2 (keepR G R) rs:=by
 unfold C2
 congr 1
 exact List.filter_congr fun q _=>by rw[(x.w.keepR R).heldB]
theorem Wl.good(x:Wl m n sh qs ls)(hn:n≤60)(hi:qs[i]?=some (q,G)):Good G:=by
 obtain⟨s,nu⟩:=x.sd i q G hi
 have h1:=s.ok.hz
 have h2:=s.ok.oz
 have h3:=s.ok.rz
 refine⟨s.ok.hn,by lia,s.ok.on,by lia,s.ok.rn,by lia,fun r hr=>?_⟩
 obtain⟨a,fd⟩:=Rp (l:=G.holds) (t:=r.1) (by rw[s.ok.ke];exact List.mem_map.mpr ⟨r,hr,rfl⟩)
 obtain⟨g1,g2,_⟩:=s.ok.get r.1
 exact⟨a,_,fd,g1,by lia⟩
def Alike(ms qs:List (Addr×HGh)):Prop:=Paired (fun(r q:Addr×HGh)=>Like r.2 q.2) ms qs
theorem Pg:∀{ms qs:List (Addr×HGh)} {i:Nat} {r q:Addr×HGh},Alike ms qs→Like r.2 q.2→Alike (ms.set i r) (qs.set i q)
 | _,_,_,_,_,.nil,_=>.nil
 | _,_,0,_,_,.cons _ t,l=>.cons l t
 | _,_,i+1,_,_,.cons h t,l=>.cons h (Pg t l)
theorem Zj{ms qs:List (Addr×HGh)}(h:Alike ms qs)(t:T2):Eu t ms=Eu t qs:=by
 induction h with
 | nil=>rfl
 | cons l _ ih =>
   show bal t _+Eu t _=bal t _+Eu t _
   rw[ih]
   unfold bal
   rw[l.recs,l.outs]
theorem Zi{ms qs:List (Addr×HGh)}(h:Alike ms qs):Gy ms=Gy qs:=by
 induction h with
 | nil=>rfl
 | cons l _ ih =>
   show List.length _+Gy _=List.length _+Gy _
   rw[ih,l.recs]
theorem C7{ms qs:List (Addr×HGh)}(h:Alike ms qs){i:Nat}{q:Addr}{G:HGh}(e:qs[i]?=some (q,G)):∃r M,ms[i]?=some (r,M)∧Like M G:=by
 obtain⟨⟨r,M⟩,e2⟩:=A1 (xs:=ms) (j:=i) (by rw[Paired.length h];exact(ZJ e).1)
 exact⟨r,M,e2,A2 h i (r,M) (q,G) e2 e⟩
theorem Wh{ms qs:List (Addr×HGh)}(h:Alike ms qs){i:Nat}{r:Addr}{M:HGh}(e:ms[i]?=some (r,M)):∃q G,qs[i]?=some (q,G)∧Like M G:=by
 obtain⟨⟨q,G⟩,e2⟩:=A1 (xs:=qs) (j:=i) (by rw[←Paired.length h];exact(ZJ e).1)
 exact⟨q,G,e2,A2 h i (r,M) (q,G) e e2⟩
theorem Wl.like(x:Wl m n sh qs ls){ms:List (Addr×HGh)}(h:Alike ms qs):Wl m n sh ms ls:=by
 refine⟨by rw[Paired.length h];exact x.len,x.m12,fun i r M e=>?_,x.ok,fun t=>by rw[Zj h];exact x.sum t,by rw[Zi h];exact x.cnt,x.sh⟩
 obtain⟨q,G,e2,l⟩:=Wh h e
 obtain⟨s,nu⟩:=x.sd i q G e2
 exact⟨l.sd s,by rw[l.num];exact nu⟩
end
end K42
namespace FX
open PySem PySem.Spec PyProof.Rows L2
structure BGh where
 hs:Addr
 pd:Addr
 share:Int
 c:Int
 ls:List (Int×Addr)
 qs:List (Addr×HGh)
theorem X8:¬(("houses":Str)="share"):=by decide +kernel
theorem X9:¬(("houses":Str)="letters"):=by decide +kernel
theorem Rx:¬(("houses":Str)="last"):=by decide +kernel
theorem X7:¬(("share":Str)="letters"):=by decide +kernel
theorem Rv:¬(("share":Str)="last"):=by decide +kernel
theorem Rw:¬(("letters":Str)="last"):=by decide +kernel
def B9(B:BGh):List (Key×V):=[(.inr "houses",.ref B.hs),(.inr "share",.int B.share),(.inr "letters",.ref B.pd),(.inr "last",.int B.c)]
theorem Zh(B:BGh):Cw (B9 B) (.inr "houses")=some (.ref B.hs):=by
 unfold B9
 rw[D2 rfl]
theorem Jb7(B:BGh):Cw (B9 B) (.inr "share")=some (.int B.share):=by
 unfold B9
 rw[B6 (kne X8),D2 rfl]
theorem We(B:BGh):Cw (B9 B) (.inr "letters")=some (.ref B.pd):=by
 unfold B9
 rw[B6 (kne X9),B6 (kne X7),D2 rfl]
theorem X6(B:BGh):Cw (B9 B) (.inr "last")=some (.int B.c):=by
 unfold B9
 rw[B6 (kne Rx),B6 (kne Rv),B6 (kne Rw),D2 rfl]
theorem U0(B:BGh)(y:Int):putK (B9 B) (.inr "last") (.int y)=B9 { B with c:=y }:=by
 have h:((B9 B).any fun kv=>decide (kv.1=.inr "last"))=true:=by rw[Fu,X6];rfl
 unfold putK
 rw[if_pos h]
 unfold B9
 simp only[List.map_cons,List.map_nil,if_neg (kne Rx),if_neg (kne Rv),if_neg (kne Rw),if_true]
theorem Jf5(B:BGh):Hq [] (B9 B)=B9 B:=by
 have e0:putK ([]:List (Key×V)) (.inr "houses") (.ref B.hs)=[(.inr "houses",.ref B.hs)]:=Ef _ Zp
 have e1:putK ([(.inr "houses",.ref B.hs)]:List (Key×V)) (.inr "share") (.int B.share)=[(.inr "houses",.ref B.hs),(.inr "share",.int B.share)]:=Ef _ (by rw[B6 (kne X8)];rfl)
 have e2:putK ([(.inr "houses",.ref B.hs),(.inr "share",.int B.share)]:List (Key×V)) (.inr "letters") (.ref B.pd)=[(.inr "houses",.ref B.hs),(.inr "share",.int B.share),(.inr "letters",.ref B.pd)]:=Ef _ (by rw[B6 (kne X9),B6 (kne X7)];rfl)
 have e3:putK ([(.inr "houses",.ref B.hs),(.inr "share",.int B.share),(.inr "letters",.ref B.pd)]:List (Key×V)) (.inr "last") (.int B.c)=[(.inr "houses",.ref B.hs),(.inr "share",.int B.share),(.inr "letters",.ref B.pd),(.inr "last",.int B.c)]:=Ef _ (by rw[B6 (kne Rx),B6 (kne Rv),B6 (kne Rw)];rfl)
 unfold Hq B9
 simp only[List.foldl_cons,List.foldl_nil]
 rw[e0,e1,e2,e3]
theorem Jf4(B:BGh):(B9 B).length<sizeLine:=by show 4<sizeLine;decide
def Cf(d:Addr)(B:BGh):List Addr:=[d,B.hs,B.pd]
def C1(d:Addr)(B:BGh):List Addr:=Cf d B++A6 B.qs
structure BesAt(C:Addr)(H:Hp)(d:Addr)(B:BGh):Prop where
 ob:H d=some (.dK (B9 B))
 hs:H B.hs=some (.lst (B.qs.map fun q=>V.ref q.1))
 ho:∀q∈B.qs,HouseAt C H q.1 q.2
 pd:H B.pd=some (.dK (kvsOf B.ls))
 le:∀l∈B.ls,l.1≤B.c
 up:(B.ls.map (·.1)).Pairwise (· < ·)
 nd:(C1 d B).Nodup
def BFr(d:Addr)(B:BGh)(H H':Hp):Prop:=∀b o,H b=some o→b∉C1 d B→H' b=some o
def InB(B:BGh)(h:Int)(q:Addr)(G:HGh):Prop:=0≤h∧B.qs[h.toNat]?=some (q,G)
section
variable {C d:Addr}{H H':Hp}{B:BGh}
theorem BesAt.keep(x:BesAt C H d B)(k:∀b o,b∈C1 d B→H b=some o→H' b=some o):BesAt C H' d B:=by
 have t:∀{b},b∈Cf d B→b∈C1 d B:=fun h=>ZB _ h
 exact⟨k _ _ (t (by simp[Cf])) x.ob,k _ _ (t (by simp[Cf])) x.hs,fun q hq=>(x.ho q hq).keep fun b o hb e=>k _ _ (ZC _ (mem_hfoot.mpr ⟨q,hq,hb⟩)) e,k _ _ (t (by simp[Cf])) x.pd,x.le,x.up,x.nd⟩
theorem BesAt.same(x:BesAt C H d B)(s:Bp H H'):BesAt C H' d B:=x.keep fun b o _ e=>s b o e
theorem BesAt.some_at(x:BesAt C H d B){b:Addr}(hb:b∈C1 d B):∃o,H b=some o∧(∀xs,o≠.tup xs)∧∀ob u,o≠.frz ob u:=by
 rcases ZI hb with hb|hb
 ·simp only[Cf,List.mem_cons,List.not_mem_nil,or_false] at hb
  rcases hb with rfl|rfl|rfl
  ·exact⟨_,x.ob,fun _ z=>(by cases z),fun _ _ z=>(by cases z)⟩
  ·exact⟨_,x.hs,fun _ z=>(by cases z),fun _ _ z=>(by cases z)⟩
  ·exact⟨_,x.pd,fun _ z=>(by cases z),fun _ _ z=>(by cases z)⟩
 ·obtain⟨q,hq,hb⟩:=mem_hfoot.mp hb
  rcases hb with rfl|hb
  ·obtain⟨dx,e⟩:=(x.ho q hq).ob
   exact⟨_,e,fun _ z=>(by cases z),fun _ _ z=>(by cases z)⟩
  ·obtain⟨kvs,e⟩:=(x.ho q hq).foot_dT hb
   exact⟨_,e,fun _ z=>(by cases z),fun _ _ z=>(by cases z)⟩
theorem BesAt.tup_no(x:BesAt C H d B){b:Addr}{xs:List V}(e:H b=some (.tup xs)):b∉C1 d B:=fun m=>by
 obtain⟨o,e',h,_⟩:=x.some_at m
 rw[e] at e';cases e'
 exact h _ rfl
theorem BesAt.none_no(x:BesAt C H d B){b:Addr}(e:H b=none):b∉C1 d B:=fun m=>by
 obtain⟨o,e',_⟩:=x.some_at m
 rw[e] at e';cases e'
theorem BFr.keepT(x:BesAt C H d B)(f:BFr d B H H'):KeepT H H' :=
 ⟨fun a xs e=>f a _ e (x.tup_no e),fun a ob u e=>f a _ e fun m=>by
  obtain⟨o,e',_,h⟩:=x.some_at m
  rw[e] at e';cases e'
  exact h _ _ rfl⟩
theorem BesAt.lst_no(x:BesAt C H d B){b:Addr}{xs:List V}(e:H b=some (.lst xs))(h:b≠B.hs):b∉C1 d B:=fun hb=>by
 rcases ZI hb with hb|hb
 ·simp only[Cf,List.mem_cons,List.not_mem_nil,or_false] at hb
  rcases hb with rfl|rfl|rfl
  ·have:=x.ob;rw[e] at this;cases this
  ·exact h rfl
  ·have:=x.pd;rw[e] at this;cases this
 ·obtain⟨q,hq,hb⟩:=mem_hfoot.mp hb
  rcases hb with rfl|hb
  ·obtain⟨dx,e'⟩:=(x.ho q hq).ob
   rw[e] at e';cases e'
  ·obtain⟨kvs,e'⟩:=(x.ho q hq).foot_dT hb
   rw[e] at e';cases e'
theorem InB.at{h:Int}{q:Addr}{G:HGh}(i:InB B h q G)(x:BesAt C H d B):HouseAt C H q G:=x.ho (q,G) (ZP i.2)
theorem InB.atI{h:Int}{q:Addr}{G:HGh}(i:InB B h q G):L2.atI (B.qs.map fun q=>V.ref q.1) h=some (V.ref q):=Dc i.1 (by rw[ZH,i.2];rfl)
theorem BesAt.tops(x:BesAt C H d B):(d≠B.hs∧d≠B.pd)∧B.hs≠B.pd:=by
 have nd:=(List.nodup_append.mp x.nd).1
 simp only[Cf,List.nodup_cons,List.mem_cons,List.not_mem_nil,or_false,not_or,List.nodup_nil,and_true,not_false_eq_true] at nd
 exact nd
theorem BesAt.top_house(x:BesAt C H d B){b:Addr}(hb:b∈Cf d B){q:Addr×HGh}(hq:q∈B.qs):b≠q.1∧b∉foot q.2:=by
 have h:=(List.nodup_append.mp x.nd).2.2 b hb
 exact⟨fun z=>h _ (mem_hfoot.mpr ⟨q,hq,.inl rfl⟩) z,fun z=>h _ (mem_hfoot.mpr ⟨q,hq,.inr z⟩) rfl⟩
theorem BesAt.step(x:BesAt C H d B){i:Nat}{q:Addr}{G G':HGh}(hi:B.qs[i]?=some (q,G))(S:HouseAt C H' q G')(f:HFr q G H H')(nw:∀b∈foot G',b∈foot G∨H b=none) :
 BesAt C H' d { B with qs:=B.qs.set i (q,G') }∧BFr d B H H':=by
 obtain⟨hlt,_⟩:=ZJ hi
 have e1:B.qs=B.qs.take i++(q,G)::B.qs.drop (i+1):=by
  have:=List.take_append_drop i B.qs
  rw[←this]
  congr 1
  ·rw[List.take_append_drop]
  ·rw[List.take_append_drop]
   exact(List.drop_eq_getElem?_toList_append (l:=B.qs) (i:=i)).trans (by rw[hi];rfl)
 have e2:B.qs.set i (q,G')=B.qs.take i++(q,G')::B.qs.drop (i+1):=by
  rw[List.set_eq_take_append_cons_drop,if_pos hlt]
 generalize B.qs.take i=l1 at e1 e2
 generalize B.qs.drop (i+1)=l2 at e1 e2
 have hm:(q,G)∈B.qs:=ZP hi
 have nd:=x.nd
 unfold C1 at nd
 rw[e1,Cv] at nd
 have eA:Cf d B++(A6 l1++A6 ((q,G)::l2))=(Cf d B++A6 l1)++((q::foot G)++A6 l2):=by
  rw[List.append_assoc];rfl
 rw[eA] at nd
 obtain⟨a1,a2,a3⟩:=List.nodup_append.mp nd
 obtain⟨b1,b2,b3⟩:=List.nodup_append.mp a2
 have apart:∀b,(b∈Cf d B∨b∈A6 l1∨b∈A6 l2)→b≠q∧b∉foot G:=fun b hb=>by
  have no:b∉q::foot G:=fun m=>by
   rcases hb with hb|hb|hb
   ·exact a3 b (ZB _ hb) b (ZB _ m) rfl
   ·exact a3 b (ZC _ hb) b (ZB _ m) rfl
   ·exact b3 b m b hb rfl
  exact⟨fun z=>no (by rw[z];exact ZL ..),fun z=>no (ZD _ z)⟩
 have kp:∀b o,(b∈Cf d B∨b∈A6 l1∨b∈A6 l2)→H b=some o→H' b=some o:=fun b o hb e=>f b o e (apart b hb).1 (apart b hb).2
 have t:∀{b},b∈Cf d B→b∈Cf d B∨b∈A6 l1∨b∈A6 l2:=fun h=>.inl h
 have hsm:B.qs.map (fun q=>V.ref q.1)=(B.qs.set i (q,G')).map fun q=>V.ref q.1:=by
  rw[e2,e1,ZF,ZF];rfl
 refine⟨⟨kp _ _ (t (by simp[Cf])) x.ob,?_,fun r hr=>?_,kp _ _ (t (by simp[Cf])) x.pd,x.le,x.up,?_⟩,fun b o e hb=>?_⟩
 ·have:=kp _ _ (t (b:=B.hs) (by simp[Cf])) x.hs
  rw[hsm] at this
  exact this
 ·have hr:r∈B.qs.set i (q,G'):=hr
  rw[e2] at hr
  have oth:r∈l1∨r∈l2→HouseAt C H' r.1 r.2:=fun h=>by
   have hW:r∈B.qs:=by
    rw[e1]
    exact h.elim (fun z=>ZB _ z) fun z=>ZC _ (ZD _ z)
   exact(x.ho r hW).keep fun b o hb e=>kp b o (h.elim (fun z=>.inr (.inl (mem_hfoot.mpr ⟨r,z,hb⟩))) fun z=>.inr (.inr (mem_hfoot.mpr ⟨r,z,hb⟩))) e
  rcases ZI hr with hr|hr
  ·exact oth (.inl hr)
  ·rcases ZM hr with rfl|hr
   ·exact S
   ·exact oth (.inr hr)
 ·show(Cf d B++A6 (B.qs.set i (q,G'))).Nodup
  rw[e2,Cv]
  have eB:Cf d B++(A6 l1++A6 ((q,G')::l2))=(Cf d B++A6 l1)++((q::foot G')++A6 l2):=by
   rw[List.append_assoc];rfl
  rw[eB]
  refine Jbh nd (List.nodup_cons.mpr ⟨fun m=>S.p_ne m rfl,S.nd⟩) fun b hb=>?_
  rcases ZM hb with rfl|hb
  ·exact .inl (ZL ..)
  ·rcases nw b hb with h|h
   ·exact .inl (ZD _ h)
   ·have no:=x.none_no h
    unfold C1 at no
    rw[e1,Cv] at no
    refine .inr ⟨fun m=>no ?_,fun m=>no ?_⟩
    ·rcases ZI m with m|m
     ·exact ZB _ m
     ·exact ZC _ (ZB _ m)
    ·exact ZC _ (ZC _ (ZC (q::foot G) m))
 ·have hb':b∉A6 B.qs:=fun m=>hb (ZC _ m)
  exact f b o e (fun z=>hb' (mem_hfoot.mpr ⟨_,hm,.inl z⟩)) fun z=>hb' (mem_hfoot.mpr ⟨_,hm,.inr z⟩)
theorem BesAt.posted(x:BesAt C H d B){c:Int}{ls:List (Int×Addr)}(le:∀l∈ls,l.1≤c)(up:(ls.map (·.1)).Pairwise (· < ·))(e1:H' d=some (.dK (B9 { B with c:=c })))(e2:H' B.pd=some (.dK (kvsOf ls)))(f:∀b o,H b=some o→b≠d→b≠B.pd→H' b=some o) :
 BesAt C H' d { B with c:=c,ls:=ls }∧BFr d B H H':=by
 obtain⟨⟨a1,a2⟩,a3⟩:=x.tops
 refine⟨⟨e1,f _ _ x.hs (Ne.symm a1) a3,fun q hq=>(x.ho q hq).keep fun b o hb e=>f b o e ?_ ?_,e2,le,up,x.nd⟩,fun b o e hb=>f b o e ?_ ?_⟩
 ·rintro rfl
  have h:=x.top_house (b:=b) (by simp[Cf]) hq
  exact hb.elim h.1 h.2
 ·rintro rfl
  have h:=x.top_house (b:=B.pd) (by simp[Cf]) hq
  exact hb.elim h.1 h.2
 ·rintro rfl
  exact hb (ZB _ (by simp[Cf]))
 ·rintro rfl
  exact hb (ZB _ (by simp[Cf]))
theorem Jcd{ls:List (Int×Addr)}{c:Int}{t:Addr}(le:∀l∈ls,l.1≤c)(up:(ls.map (·.1)).Pairwise (· < ·)):((ls++[(c+1,t)]).map (·.1)).Pairwise (· < ·)∧∀l∈ls++[(c+1,t)],l.1≤c+1:=by
 refine⟨?_,fun l hl=>?_⟩
 ·rw[ZF]
  refine List.pairwise_append.mpr ⟨up,by simp,fun a ha b hb=>?_⟩
  obtain⟨l,hl,rfl⟩:=ZN ha
  have:=le l hl
  have:b=c+1:=by simpa using hb
  omega
 ·rcases ZI hl with hl|hl
  ·have:=le l hl;omega
  ·rw[ZK hl];exact Int.le_refl _
theorem Jev{l1 l2:List (Int×Addr)}{y:Int×Addr}(up:((l1++y::l2).map (·.1)).Pairwise (· < ·)):((l1++l2).map (·.1)).Pairwise (· < ·):=up.sublist ((List.Sublist.append_left (List.sublist_cons_self y l2) l1).map _)
theorem Jek{ls:List (Int×Addr)}(up:(ls.map (·.1)).Pairwise (· < ·)):(ls.map (·.1)).Nodup:=up.imp fun h=>Int.ne_of_lt h
end
section
variable {d:Addr}{H:Hp}{B:BGh}
theorem Bi(x:H d=some (.dK (B9 B))):DGet H d (.str "houses") (some (.ref B.hs)):=by have:=DGet.k (k:=.inr "houses") x;rw[Zh] at this;exact this
theorem Gb(x:H d=some (.dK (B9 B))):DGet H d (.str "share") (some (.int B.share)):=by have:=DGet.k (k:=.inr "share") x;rw[Jb7] at this;exact this
theorem Fm(x:H d=some (.dK (B9 B))):DGet H d (.str "letters") (some (.ref B.pd)):=by have:=DGet.k (k:=.inr "letters") x;rw[We] at this;exact this
theorem Ll(x:H d=some (.dK (B9 B))):DGet H d (.str "last") (some (.int B.c)):=by have:=DGet.k (k:=.inr "last") x;rw[X6] at this;exact this
theorem Jea(x:H d=some (.dK (B9 B)))(y:Int):DPut H d (.str "last") (.int y) (upd H d (.dK (B9 { B with c:=y }))):=by have:=DPut.k (k:=.inr "last") (v:=.int y) x (Jf4 B);rw[U0] at this;exact this
end
end FX
namespace K42
open PySem L2 FX
def LetAt(H:Hp)(y:Int×Addr)(l:LT):Prop:=WLet H y.2 y.1 l.kind l.s l.g l.th l.x
theorem LetAt.keep{H H':Hp}{y:Int×Addr}{l:LT}(x:LetAt H y l)(k:KeepT H H'):LetAt H' y l:=WLet.keep x k
theorem A5{H H':Hp}{ys:List (Int×Addr)}{ls:List LT}(x:Paired (LetAt H) ys ls)(k:KeepT H H'):Paired (LetAt H') ys ls:=Ay (fun _ _ r=>r.keep k) x
section
variable {P:Program}{w:World}{K:W.Frag}{mg:Str→Option Value}{base:Heap}{CW C CP NH NI NL NHd NNr MI NW:Addr}
def Sf(C:Addr):Sp:=fun vs H Q _=>∃(d:Addr)(B:BGh)(kind:Str)(s g:Int)(va:V),vs=[.ref d,.str kind,.int s,.int g,va]∧BesAt C H d B∧B.ls.length≤500 ∧
 ∀(t:Addr)(H':Hp),H t=none→H' t=some (.tup [.int (B.c+1),.str kind,.int s,.int g,va])→BesAt C H' d { B with c:=B.c+1,ls:=B.ls++[(B.c+1,t)] }→(∀b o,H b=some o→b≠d→b≠B.pd→H' b=some o)→Q (.int (B.c+1)) H'
theorem Jhr:Ao ["_law_beside","_law_kind","_law_sender","_law_goal","_law_about"] ["_law_beside","_law_kind","_law_sender","_law_goal","_law_about"] (Aj Yi):={}
theorem Vs{f:Addr}{fd:FuncData}(F:Fun K "_law_put" "_law_put" Yi f fd):EX0 P w K mg base 1 f fd ["_law_beside","_law_kind","_law_sender","_law_goal","_law_about"] (Sf C):=by
 refine F.ok Jhr (fun vs H Q E h=>?_) (fun cdv A outer s H vs Q E hr h=>?_)
 ·obtain⟨d,B,kind,s,g,va,rfl,_⟩:=h
  rfl
 ·obtain⟨d,B,kind,s,g,va,rfl,S,zl,k⟩:=h
  have hu:=Cm hr
  obtain⟨⟨a1,a2⟩,a3⟩:=S.tops
  refine⟨_,Ac (C5 hu (pv 0) As (Bc F2 (Be hu (pv 0) As) Ag) rfl)
   (Ac (C5 hu (Be hu (pv 0) As) (Be hu (pv 0) As) (Bn (Aa (Be hu (pv 0) As) (Aa (pv 1) (Aa (pv 2) (Aa (pv 3) (Aa (pv 4) Ae)))))) rfl)
   (Af (Ar (Be hu (pv 0) As)))),?_⟩
  refine⟨_,rfl,d,_,rfl,Ll S.ob,_,_,rfl,rfl,_,rfl,d,_,rfl,Jea S.ob _,?_⟩
  have ob1:(upd H d (.dK (B9 { B with c:=B.c+1 }))) d=some (.dK (B9 { B with c:=B.c+1 })):=Ab
  have pd1:(upd H d (.dK (B9 { B with c:=B.c+1 }))) B.pd=some (.dK (kvsOf B.ls)):=by rw[Ad a2.symm];exact S.pd
  have f1:∀b o,H b=some o→b≠d→(upd H d (.dK (B9 { B with c:=B.c+1 }))) b=some o:=fun b o e h=>by rw[Ad h];exact e
  have n1:∀b,(upd H d (.dK (B9 { B with c:=B.c+1 }))) b=none→H b=none:=fun b e=>by
   by_cases z:b=d
   ·rw[z,Ab] at e;cases e
   ·rw[Ad z] at e;exact e
  generalize upd H d (.dK (B9 { B with c:=B.c+1 }))=H1 at ob1 pd1 f1 n1
  refine⟨_,rfl,d,_,rfl,Ll ob1,_,rfl,_,rfl,_,rfl,_,rfl,(by show 5≤sizeLine;decide),fun t ht=>?_⟩
  have s2:=Ah (o:=.tup [V.int (B.c+1),V.str kind,V.int s,V.int g,va]) ht
  have et:(upd H1 t (.tup [V.int (B.c+1),V.str kind,V.int s,V.int g,va])) t=some (.tup [V.int (B.c+1),V.str kind,V.int s,V.int g,va]):=Ab
  generalize upd H1 t (.tup [V.int (B.c+1),V.str kind,V.int s,V.int g,va])=H2 at s2 et
  refine⟨_,rfl,d,_,rfl,Fm (s2 _ _ ob1),_,rfl,d,_,rfl,Ll (s2 _ _ ob1),B.pd,_,rfl,DPut.k (k:=.inl (B.c+1)) (v:=.ref t) (s2 _ _ pd1) (by rw[Xp];exact A3 (by omega)),?_⟩
  rw[Jdu fun l hl=>by have:=S.le l hl;omega]
  have npd:B.pd≠d:=a2.symm
  have tpd:t≠B.pd:=fun z=>by rw[z] at ht;rw[pd1] at ht;cases ht
  obtain⟨up,le⟩:=Jcd (t:=t) S.le S.up
  have fr:∀b o,H b=some o→b≠d→b≠B.pd→(upd H2 B.pd (.dK (kvsOf (B.ls++[(B.c+1,t)])))) b=some o:=fun b o e h1 h2=>by rw[Ad h2];exact s2 _ _ (f1 b o e h1)
  have ob3:(upd H2 B.pd (.dK (kvsOf (B.ls++[(B.c+1,t)])))) d=some (.dK (B9 { B with c:=B.c+1 })):=by rw[Ad a2];exact s2 _ _ ob1
  refine⟨_,rfl,d,_,rfl,Ll ob3,k t _ (n1 t ht) (by rw[Ad tpd];exact et) (S.posted le up ob3 Ab fr).1 fr⟩
end
theorem Jgz{a b c d e f:Str}{k1 k2:NameKind}{cl:List (Str×Addr)}{y:Str}(he:∃z,cl.lookup e=some z)(hf:∃z,cl.lookup f=some z)(h:([(a,NameKind.local),(b,NameKind.local),(c,NameKind.local),(d,NameKind.globalImplicit),(e,k1),(f,k2)]:List (Str×NameKind)).lookup y=some .cell∨([(a,NameKind.local),(b,NameKind.local),(c,NameKind.local),(d,NameKind.globalImplicit),(e,k1),(f,k2)]:List (Str×NameKind)).lookup y=some .free):∃z,cl.lookup y=some z :=
 V4 (fun p hp hk=>by
  simp only[List.mem_cons,List.not_mem_nil,or_false] at hp
  rcases hp with rfl|rfl|rfl|rfl|rfl|rfl
  ·rcases hk with hk|hk<;>cases hk
  ·rcases hk with hk|hk<;>cases hk
  ·rcases hk with hk|hk<;>cases hk
  ·rcases hk with hk|hk<;>cases hk
  ·exact he
  ·exact hf) h
section
variable {P:Program}{w:World}{K:W.Frag}{mg:Str→Option Value}{base:Heap}{CW C CP NH NI NL NHd NNr MI NW:Addr}
def K8(C:Addr):Sp:=fun vs H Q _=>∃(d l:Addr)(h:Int)(B:BGh)(as:List Addr)(bs:List (T2×Int)),vs=[.ref d,.int h,.ref l]∧BesAt C H d B∧H l=some (.lst (as.map V.ref))∧l≠B.hs∧BackAt H as bs∧bs.length≤60∧B.ls.length≤400 ∧
 ∀(x:Addr)(L:List (Int×Addr))(H':Hp),BesAt C H' d { B with c:=B.c+(bs.length:Nat),ls:=B.ls++L }→U5 H' B.c h L bs→BFr d B H H'→x≠B.hs→H x=none→H' x=some (.lst (L.map fun y=>V.int y.1))→Q (.ref x) H'
theorem Jh1:Ao ["_law_beside","_law_h","_law_given"] ["_law_beside","_law_h","_law_given"] (Aj Qn):={}
def Jge(C:Addr)(K:W.Frag):TE:=Jel (Sf C) [] E0 (Dk (Co 2) (Dk (tC (.str "back")) (Dk (Co 3) (Dk (tOp (Vo K) (Co 0) (tC (.int 0))) (Dk (Jey (Dk (Co 0) (Dk (Co 1) Jo))) Jo)))))
theorem Jbe{f f3:Addr}{fd d3:FuncData}(F:Fun K "_law_backs" "_law_backs" Qn f fd)(M3:Gdf K mg "_law_put" Yi ["_law_beside","_law_kind","_law_sender","_law_goal","_law_about"] f3 d3):EX0 P w K mg base 2 f fd ["_law_beside","_law_h","_law_given"] (K8 C):=by
 have G3:EX0 P w K mg base 1 f3 d3 ["_law_beside","_law_kind","_law_sender","_law_goal","_law_about"] (Sf C):=Vs M3.fn
 refine F.ok Jh1 (fun vs H Q E h=>?_) (fun cdv A outer s H vs Q E hr h=>?_)
 ·obtain⟨d,l,h,B,as,bs,rfl,_⟩:=h
  rfl
 ·obtain⟨d,l,h,B,as,bs,rfl,S,el,lhs,bk,zb,zl,k⟩:=h
  have lab:=Paired.length bk
  have lno:=S.lst_no el lhs
  refine⟨_,Af (Ar (Jat (te:=Jge C K) (caps:=[("_law_beside",0),("_law_h",1)]) rfl (Dq (pv 2))
   rfl (by decide +kernel) rfl (by decide +kernel) rfl rfl ⟨rfl,rfl,trivial⟩ (fun y h=>Jgz ⟨_,rfl⟩ ⟨_,rfl⟩ h) ⟨⟨rfl,rfl,rfl,rfl⟩,⟨rfl,rfl,rfl,rfl⟩,trivial⟩ (by decide +kernel) (fun _ _ _ _ _=>Gi)
   (fun _ _ _ _ _=>Bw G3 hr (by rfl) M3.mg M3.fn.kp M3.bd .nil Bj (Aa (pv 2) (Aa As (Aa (pv 3) (Aa (Av Aq (pv 0) Ag) (Aa (Bn (Aa (pv 0) (Aa (pv 1) Ae))) Ae)))))))),?_⟩
  refine⟨_,rfl,l,rfl,⟨_,SqL.of el⟩,fun r hr'=>?_⟩
  have s0:=Ah (o:=.lst []) hr'
  have nrl:l≠r:=Am el hr'
  have rno:r∉C1 d B:=S.none_no hr'
  have S0:BesAt C (upd H r (.lst [])) d { B with c:=B.c+((0:Nat):Int),ls:=B.ls++[] }:=by
   rw[show B.c+((0:Nat):Int)=B.c by simp,List.append_nil];exact S.same s0
  refine Wb (K:=K) (a:=l) (xs:=as.map V.ref) (tt:=fun _ H Q=>Q true H) (te:=Jge C K) (caps:=[("_law_beside",0),("_law_h",1)]) (σ:=[some (.ref d),some (.int h),some (.ref l)])
   (fun i ys H2=>H2 r=some (.lst ys)∧H2 l=some (.lst (as.map V.ref))∧∃L,ys=L.map (fun y=>V.int y.1)∧BesAt C H2 d { B with c:=B.c+(i:Nat),ls:=B.ls++L }∧U5 H2 B.c h L (bs.take i)∧BackAt H2 as bs∧BFr d B H H2)
   ⟨Ab,s0 _ _ el,[],rfl,S0,⟨rfl,.nil⟩,bk.keep (Ji0 s0),fun b o e _=>s0 b o e⟩ (fun i ys H2 _ h=>⟨SqL.of h.2.1,h.1⟩) ?_ ?_
  ·rintro i v ys H2 N hi ⟨er,el2,L,rfl,W2,b2,bk2,wf2⟩ hN
   rw[ZH] at hi
   cases hai:as[i]? with
   | none=>rw[hai] at hi;cases hi
   | some ai =>
     rw[hai] at hi
     cases hi
     have hib:i<bs.length:=by rw[←lab];exact(ZJ hai).1
     obtain⟨q,hq⟩:=A1 hib
     obtain⟨cc,ea,ec⟩:=A2 bk2 i ai q hai hq
     have lL:L.length=i:=by
      have:=Paired.length b2.let_
      rw[List.length_take] at this;lia
     refine⟨ai,_,_,rfl,SqT.of ea,Cd ?_⟩
     refine⟨_,rfl,_,rfl,_,rfl,cc,_,_,_,rfl,rfl,SqT.of ec,rfl,_,rfl,_,rfl,(by show 2≤sizeLine;decide),fun a2 ha2=>?_⟩
     have s3:=Ah (o:=.tup [V.ref cc,V.int q.2]) ha2
     have e3:(upd H2 a2 (.tup [V.ref cc,V.int q.2])) a2=some (.tup [V.ref cc,V.int q.2]):=Ab
     generalize upd H2 a2 (.tup [V.ref cc,V.int q.2])=H3 at s3 e3
     have W3:=W2.same s3
     refine⟨d,_,_,_,_,_,rfl,W3,(by show(B.ls++L).length≤500;rw[ZE,lL];lia),fun t H4 ht et S4 fr4=>?_⟩
     have bf4:BFr d B H3 H4:=fun b o e hb=>fr4 b o e (fun z=>hb (ZB _ (by rw[z];simp[Cf]))) fun z=>hb (ZB _ (by rw[z];simp[Cf]))
     have kt4:KeepT H2 H4:=(Ji0 s3).trans (BFr.keepT (B:={ B with c:=B.c+(i:Nat),ls:=B.ls++L }) W3 bf4)
     have er4:H4 r=some (.lst (L.map fun y=>V.int y.1)):=bf4 _ _ (s3 _ _ er) rno
     have el4:H4 l=some (.lst (as.map V.ref)):=bf4 _ _ (s3 _ _ el2) lno
     have kq:KeepT H4 (upd H4 r (.lst (L.map (fun y=>V.int y.1)++[V.int (B.c+(i:Nat)+1)]))):=Ji1 fun o' e=>by
      rw[er4] at e;cases e;exact⟨fun _ z=>(by cases z),fun _ _ z=>(by cases z)⟩
     refine⟨er4,A3 (by rw[ZA];lia),hN _ _ ⟨Ab,by rw[Ad nrl];exact el4,L++[(B.c+(i:Nat)+1,t)],by rw[ZF];rfl,?_,?_,bk2.keep (kt4.trans kq),fun b' o' e' hb'=>?_⟩⟩
     ·have e1:B.c+((i+1:Nat):Int)=B.c+(i:Nat)+1:=by lia
      rw[e1,←List.append_assoc]
      exact S4.keep fun b o hb e=>by rw[Ad (fun z=>rno (by rw[←z];exact hb))];exact e
     ·rw[List.take_add_one,hq]
      refine⟨?_,Ep ?_ (Ay (fun _ _ rr=>rr.keep (kt4.trans kq)) b2.let_)⟩
      ·have n1:=b2.num
       have n2:(bs.take i).length=i:=by rw[List.length_take];lia
       rw[n2] at n1
       rw[ZF,n1,ZE,n2]
       show _=(List.range (i+1)).map _
       rw[List.range_succ,ZF]
       congr 1
       show [B.c+(i:Nat)+1]=[B.c+1+(i:Int)]
       congr 1;lia
      ·exact⟨a2,cc,kq.tup _ _ et,kq.tup _ _ ((BFr.keepT (B:={ B with c:=B.c+(i:Nat),ls:=B.ls++L }) W3 bf4).tup _ _ e3),kq.tup _ _ (kt4.tup _ _ ec)⟩
     ·have hbr:b'≠r:=fun z=>by rw[z] at e';rw[hr'] at e';cases e'
      rw[Ad hbr]
      exact bf4 b' o' (s3 _ _ (wf2 b' o' e' hb')) hb'
  ·rintro ys H2 ⟨er,el2,L,rfl,W2,b2,bk2,wf2⟩
   rw[ZA,lab] at W2 b2
   rw[List.take_length] at b2
   exact k r L H2 W2 b2 wf2 (fun z=>rno (by rw[z];exact ZB _ (by simp[Cf]))) hr' er
end
end K42
namespace FX
open PySem PySem.Spec PyProof.Rows L2
theorem BFr.of{d:Addr}{B:BGh}{H H':L2.Hp}(f:∀b o,H b=some o→b≠d→b≠B.pd→H' b=some o):BFr d B H H':=fun b o e hb=>f b o e (fun z=>hb (ZB _ (by rw[z];simp[Cf]))) fun z=>hb (ZB _ (by rw[z];simp[Cf]))
end FX
namespace K42
open PySem L2 FX
section
variable {P:Program}{w:World}{K:W.Frag}{mg:Str→Option Value}{base:Heap}{CW C CP NH NI NL NHd NNr MI NW:Addr}
def K9(C:Addr):Sp:=fun vs H Q _=>∃(d t:Addr)(B:BGh)(n s home goal:Int)(tb:T2)(q:Addr)(G:HGh),vs=[.ref d,.ref t]∧BesAt C H d B∧WLet H t n "pass" s home tb goal∧InB B home q G∧Sz G∧tb∈G.outs.map (·.1)∧B.ls.length≤400 ∧
 ((goal=home∧∀(x t1:Addr)(H':Hp),BesAt C H' d { B with qs:=B.qs.set home.toNat (q,Dx G tb B.share true),c:=B.c+1,ls:=B.ls++[(B.c+1,t1)] }→WLet H' t1 (B.c+1) "more" home s tb B.share→BFr d B H H'→x≠B.hs→H x=none→H' x=some (.lst [.int (B.c+1)])→Q (.ref x) H') ∨
  (goal≠home∧∀(x t1 t2:Addr)(H':Hp),BesAt C H' d { B with qs:=B.qs.set home.toNat (q,Dx G tb B.share false),c:=B.c+1+1,ls:=B.ls++[(B.c+1,t1)]++[(B.c+1+1,t2)] }→WLet H' t1 (B.c+1) "hold" home goal tb B.share→WLet H' t2 (B.c+1+1) "more" home s tb B.share→BFr d B H H'→x≠B.hs→H x=none→H' x=some (.lst [.int (B.c+1),.int (B.c+1+1)])→Q (.ref x) H'))
theorem scBP:Ao ["_law_beside","_law_letter","_law_n","_law_kind","_law_sender","_law_goal","_law_about","_law_went"] ["_law_beside","_law_letter"] (Aj Il):={}
theorem Jbc{f f1 f3:Addr}{fd d1 d3:FuncData}(F:Fun K "_law_passed" "_law_passed" Il f fd)(T:Txt K mg C NHd NNr MI NW)(M1:Mth K C "passed" "House.passed" Ie ["self","b","share","mine"] f1 d1)(M3:Gdf K mg "_law_put" Yi ["_law_beside","_law_kind","_law_sender","_law_goal","_law_about"] f3 d3) :
 EX0 P w K mg base 2 f fd ["_law_beside","_law_letter"] (K9 C):=by
 have G1:EX0 P w K mg base 1 f1 d1 ["self","b","share","mine"] (Lq C):=Om M1.fn T
 have G3:EX0 P w K mg base 1 f3 d3 ["_law_beside","_law_kind","_law_sender","_law_goal","_law_about"] (Sf C):=Vs M3.fn
 refine F.ok scBP (fun vs H Q E h=>?_) (fun cdv A outer s H vs Q E hr h=>?_)
 ·obtain⟨d,t,B,n,s,home,goal,tb,q,G,rfl,_⟩:=h
  rfl
 ·obtain⟨d,t,B,n,s,home,goal,tb,q,G,rfl,S,⟨a,b,e1,e2,e3⟩,i,⟨z1,z2,z3⟩,ho,zl,k⟩:=h
  have hu:=Cm hr
  refine⟨_,Ac (Vp (pv 1) (J0 rfl (Bs (Bq (i:=2) scBP.nd rfl (Or.inl rfl)) (Bs (Bq (i:=3) scBP.nd rfl (Or.inl rfl)) (Bs (Bq (i:=4) scBP.nd rfl (Or.inl rfl)) (Bs (Bq (i:=5) scBP.nd rfl (Or.inl rfl)) (Bs (Bq (i:=6) scBP.nd rfl (Or.inl rfl)) Gj)))))))
   (Ac (A7 (Ap (pl:=_) (Av Cz (Be hu (pv 0) As) (pv 5)) T.cl M1.mt G1 hr M1.bd .nil Bj (Aa (Av Aq (pv 6) Ag) (Aa (Be hu (pv 0) As) (Aa (Lf Bx (Av Aq (pv 6) Ag) (pv 5) (A0 _)) Ae)))))
   (Ac (Az (i:=7) scBP.nd rfl (Or.inl rfl) (Fi Ae))
   (Ac (A9 (Au Xj (Av Aq (pv 6) Ag) (pv 5) (A0 _)) (Af (A7 (Kk PySem.F.plainAttrs_list PySem.F.slot_list_append PySem.F.type_list_append Dm (pv 7) (Aa (Bw G3 hr (by rfl) M3.mg M3.fn.kp M3.bd .nil Bj (Aa (pv 0) (Aa As (Aa (pv 5) (Aa (Av Aq (pv 6) Ag) (Aa (Bn (Aa (Av Aq (pv 6) Ag) (Aa (Be hu (pv 0) As) Ae))) Ae)))))) Ae)))) Ax)
   (Ac (A7 (Kk PySem.F.plainAttrs_list PySem.F.slot_list_append PySem.F.type_list_append Dm (pv 7) (Aa (Bw G3 hr (by rfl) M3.mg M3.fn.kp M3.bd .nil Bj (Aa (pv 0) (Aa As (Aa (pv 5) (Aa (pv 4) (Aa (Bn (Aa (Av Aq (pv 6) Ag) (Aa (Be hu (pv 0) As) Ae))) Ae)))))) Ae)))
   (Af (Ar (pv 7))))))),?_⟩
  refine⟨_,rfl,t,_,rfl,SqT.of e1,rfl,_,_,rfl,_,_,rfl,_,_,rfl,_,_,rfl,_,_,rfl,rfl,?_⟩
  obtain⟨dx1,hq⟩:=(i.at S).ob
  refine⟨_,rfl,d,_,rfl,Bi S.ob,_,rfl,B.hs,_,_,_,rfl,rfl,SqL.of S.hs,i.atI,q,dx1,_,rfl,hq,Bk G (by decide +kernel),_,rfl,a,_,_,_,rfl,rfl,SqT.of e2,rfl,_,rfl,d,_,rfl,Gb S.ob,_,rfl,a,_,_,_,rfl,rfl,SqT.of e2,rfl,_,rfl,rfl,q,b,G,tb,B.share,decide (V.int goal=V.int home),rfl,i.at S,e3,z2,z1,ho,fun H1 S1 fr1=>?_⟩
  obtain⟨W1,wf1⟩:=S.step i.2 S1 fr1 fun b hb=>.inl hb
  have kt1:=BFr.keepT S wf1
  refine⟨Nat.zero_le _,fun x hx=>?_⟩
  have s2:=Ah (o:=.lst []) hx
  have ex:(upd H1 x (.lst [])) x=some (.lst []):=Ab
  have W2:=W1.same s2
  have kt2:=kt1.trans (Ji0 s2)
  have xhs:x≠B.hs:=fun z=>by rw[z] at hx;rw[W1.hs] at hx;cases hx
  have ef2:=kt2.tup _ _ e2
  have ef3:=kt2.tup _ _ e3
  have xno:x∉C1 d { B with qs:=B.qs.set home.toNat (q,Dx G tb B.share (decide (V.int goal=V.int home))) }:=W2.lst_no ex xhs
  have xno0:x∉C1 d B:=fun m=>by
   obtain⟨o,e',_⟩:=S.some_at m
   have:H1 x=none:=hx
   by_cases mm:x∈C1 d { B with qs:=B.qs.set home.toNat (q,Dx G tb B.share (decide (V.int goal=V.int home))) }
   ·exact xno mm
   ·rcases ZI m with m|m
    ·exact mm (ZB _ m)
    ·obtain⟨z,hz,hm⟩:=mem_hfoot.mp m
     by_cases zz:z∈B.qs.set home.toNat (q,Dx G tb B.share (decide (V.int goal=V.int home)))
     ·exact mm (ZC _ (mem_hfoot.mpr ⟨z,zz,hm⟩))
     ·have:z=(q,G):=by
       obtain⟨j,hj⟩:=List.mem_iff_getElem?.mp hz
       by_cases jj:home.toNat=j
       ·rw[←jj] at hj;exact(ZO (i.2.symm.trans hj)).symm
       ·exact absurd (List.mem_iff_getElem?.mpr ⟨j,by rw[List.getElem?_set_ne jj];exact hj⟩) zz
      subst this
      refine mm (ZC _ (mem_hfoot.mpr ⟨(q,Dx G tb B.share (decide (V.int goal=V.int home))),List.mem_iff_getElem?.mpr ⟨home.toNat,?_⟩,hm⟩))
      rw[List.getElem?_set_self (ZJ i.2).1]
  have hx0:H x=none:=by
   cases e:H x with
   | none=>rfl
   | some o=>rw[wf1 _ _ e xno0] at hx;cases hx
  refine⟨_,rfl,a,_,_,_,rfl,rfl,SqT.of ef2,rfl,_,rfl,rfl,_,rfl,?_⟩
  rcases k with⟨rfl,k⟩|⟨ne,k⟩
  ·rw[show(!decide (V.int goal=V.int goal))=false by simp]
   refine B0 ?_
   refine⟨_,rfl,.inl ⟨rfl,_,SqL.of ex⟩,_,rfl,_,rfl,_,rfl,_,rfl,a,_,_,_,rfl,rfl,SqT.of ef2,rfl,_,rfl,d,_,rfl,Gb W2.ob,(by show 2≤sizeLine;decide),fun a2 ha2=>?_⟩
   have s3:=Ah (o:=.tup [V.ref b,V.int B.share]) ha2
   have W3:=W2.same s3
   refine⟨d,_,_,_,_,_,rfl,W3,Nat.le_trans zl (by decide),fun t1 H4 ht et S4 fr4=>?_⟩
   have wf4:=BFr.of fr4
   have kt4:=BFr.keepT W3 wf4
   have ex4:H4 x=some (.lst []):=wf4 _ _ (s3 _ _ ex) xno
   refine⟨x,_,_,rfl,rfl,ex4,A3 (by show 0≤1000;decide),?_⟩
   have kq:KeepT H4 (upd H4 x (.lst ([]++[V.int (B.c+1)]))):=Ji1 fun o' e=>by
    rw[ex4] at e;cases e;exact⟨fun _ z=>(by cases z),fun _ _ z=>(by cases z)⟩
   refine⟨_,rfl,k x t1 _ ?_ ⟨a2,b,kq.tup _ _ et,kq.tup _ _ (kt4.tup _ _ Ab),kq.tup _ _ (kt4.tup _ _ (s3 _ _ ef3))⟩ (fun b' o' e' hb'=>?_) xhs hx0 Ab⟩
   ·have:=S4.keep (H':=upd H4 x (.lst ([]++[V.int (B.c+1)]))) fun b' o' hb' e'=>by rw[Ad (fun z=>xno (by rw[←z];exact hb'))];exact e'
    rw[show decide (V.int goal=V.int goal)=true by simp] at this
    exact this
   ·have hbx:b'≠x:=fun z=>by rw[z,hx0] at e';cases e'
    rw[Ad hbx]
    exact fr4 b' o' (s3 _ _ (s2 _ _ (wf1 b' o' e' hb'))) (fun z=>hb' (ZB _ (by rw[z];simp[Cf]))) fun z=>hb' (ZB _ (by rw[z];simp[Cf]))
  ·rw[show(!decide (V.int goal=V.int home))=true by simp[ne]]
   refine Cd ?_
   refine⟨_,rfl,.inl ⟨rfl,_,SqL.of ex⟩,_,rfl,_,rfl,_,rfl,a,_,_,_,rfl,rfl,SqT.of ef2,rfl,_,rfl,a,_,_,_,rfl,rfl,SqT.of ef2,rfl,_,rfl,d,_,rfl,Gb W2.ob,(by show 2≤sizeLine;decide),fun a2 ha2=>?_⟩
   have s3:=Ah (o:=.tup [V.ref b,V.int B.share]) ha2
   have W3:=W2.same s3
   refine⟨d,_,_,_,_,_,rfl,W3,Nat.le_trans zl (by decide),fun t1 H4 ht et S4 fr4=>?_⟩
   have wf4:=BFr.of fr4
   have kt4:=BFr.keepT W3 wf4
   have ex4:H4 x=some (.lst []):=wf4 _ _ (s3 _ _ ex) xno
   refine⟨x,_,_,rfl,rfl,ex4,A3 (by show 0≤1000;decide),?_⟩
   have kq:KeepT H4 (upd H4 x (.lst ([]++[V.int (B.c+1)]))):=Ji1 fun o' e=>by
    rw[ex4] at e;cases e;exact⟨fun _ z=>(by cases z),fun _ _ z=>(by cases z)⟩
   have l1:WLet (upd H4 x (.lst ([]++[V.int (B.c+1)]))) t1 (B.c+1) "hold" home goal tb B.share:=⟨a2,b,kq.tup _ _ et,kq.tup _ _ (kt4.tup _ _ Ab),kq.tup _ _ (kt4.tup _ _ (s3 _ _ ef3))⟩
   have W5:=S4.keep (H':=upd H4 x (.lst ([]++[V.int (B.c+1)]))) fun b' o' hb' e'=>by rw[Ad (fun z=>xno (by rw[←z];exact hb'))];exact e'
   have ex5:(upd H4 x (.lst ([]++[V.int (B.c+1)]))) x=some (.lst [V.int (B.c+1)]):=Ab
   have ef2':=kq.tup _ _ (kt4.tup _ _ (s3 _ _ ef2))
   have ef3':=kq.tup _ _ (kt4.tup _ _ (s3 _ _ ef3))
   have wf5:∀b' o',H b'=some o'→b'∉C1 d B→(upd H4 x (.lst ([]++[V.int (B.c+1)]))) b'=some o':=fun b' o' e' hb'=>by
    have hbx:b'≠x:=fun z=>by rw[z,hx0] at e';cases e'
    rw[Ad hbx]
    exact fr4 b' o' (s3 _ _ (s2 _ _ (wf1 b' o' e' hb'))) (fun z=>hb' (ZB _ (by rw[z];simp[Cf]))) fun z=>hb' (ZB _ (by rw[z];simp[Cf]))
   generalize upd H4 x (.lst ([]++[V.int (B.c+1)]))=H5 at l1 W5 ex5 ef2' ef3' wf5
   refine⟨_,rfl,.inl ⟨rfl,_,SqL.of ex5⟩,_,rfl,_,rfl,_,rfl,_,rfl,a,_,_,_,rfl,rfl,SqT.of ef2',rfl,_,rfl,d,_,rfl,Gb W5.ob,(by show 2≤sizeLine;decide),fun a6 ha6=>?_⟩
   have s6:=Ah (o:=.tup [V.ref b,V.int B.share]) ha6
   have W6:=W5.same s6
   refine⟨d,_,_,_,_,_,rfl,W6,(by show(B.ls++[(B.c+1,t1)]).length≤500;rw[ZE];show _+1≤500;omega),fun t2 H7 ht7 et7 S7 fr7=>?_⟩
   have wf7:=BFr.of fr7
   have kt7:=BFr.keepT W6 wf7
   have ex7:H7 x=some (.lst [V.int (B.c+1)]):=wf7 _ _ (s6 _ _ ex5) xno
   refine⟨x,_,_,rfl,rfl,ex7,A3 (by show 1≤1000;decide),?_⟩
   have kr:KeepT H7 (upd H7 x (.lst ([V.int (B.c+1)]++[V.int (B.c+1+1)]))):=Ji1 fun o' e=>by
    rw[ex7] at e;cases e;exact⟨fun _ z=>(by cases z),fun _ _ z=>(by cases z)⟩
   refine⟨_,rfl,k x t1 t2 _ ?_ (l1.keep (((Ji0 s6).trans kt7).trans kr)) ⟨a6,b,kr.tup _ _ et7,kr.tup _ _ (kt7.tup _ _ Ab),kr.tup _ _ (kt7.tup _ _ (s6 _ _ ef3'))⟩ (fun b' o' e' hb'=>?_) xhs hx0 Ab⟩
   ·have:=S7.keep (H':=upd H7 x (.lst ([V.int (B.c+1)]++[V.int (B.c+1+1)]))) fun b' o' hb' e'=>by rw[Ad (fun z=>xno (by rw[←z];exact hb'))];exact e'
    rw[show decide (V.int goal=V.int home)=false by simp[ne]] at this
    exact this
   ·have hbx:b'≠x:=fun z=>by rw[z,hx0] at e';cases e'
    rw[Ad hbx]
    exact fr7 b' o' (s6 _ _ (wf5 b' o' e' hb')) (fun z=>hb' (ZB _ (by rw[z];simp[Cf]))) fun z=>hb' (ZB _ (by rw[z];simp[Cf]))
def P6(C:Addr):Sp:=fun vs H Q _=>∃(d t:Addr)(B:BGh)(n s g x:Int)(kind:Str)(tb:T2)(q:Addr)(G:HGh),vs=[.ref d,.ref t]∧BesAt C H d B∧InB B g q G∧Sz G∧WLet H t n kind s g tb x ∧
 ((∃G',Wt kind G tb x G'∧∀(r:Addr)(H':Hp),BesAt C H' d { B with qs:=B.qs.set g.toNat (q,G') }→BFr d B H H'→r≠B.hs→H r=none→H' r=some (.lst [])→Q (.ref r) H') ∨
  (kind="pass"∧K9 C [.ref d,.ref t] H Q E0))
theorem scCo:Ao ["_law_beside","_law_letter","_law_n","_law_kind","_law_sender","_law_goal","_law_about","_law_house"] ["_law_beside","_law_letter"] (Aj Xd):={}
theorem Jdk{f fP f1 f2 f3:Addr}{fd dP d1 d2 d3:FuncData}(F:Fun K "_law_come" "_law_come" Xd f fd)(T:Txt K mg C NHd NNr MI NW)(MP:Gdf K mg "_law_passed" Il ["_law_beside","_law_letter"] fP dP)(GP:EX0 P w K mg base 2 fP dP ["_law_beside","_law_letter"] (K9 C))(M1:Mth K C "came" "House.came" Sy ["self","b","weight"] f1 d1)(G1:EX0 P w K mg base 2 f1 d1 ["self","b","weight"] (P7 C))(M2:Mth K C "added" "House.added" L3 ["self","b","weight"] f2 d2)(G2:EX0 P w K mg base 2 f2 d2 ["self","b","weight"] (La C))(M3:Mth K C "given" "House.given" L0 ["self","b","weight"] f3 d3) :
 EX0 P w K mg base 3 f fd ["_law_beside","_law_letter"] (P6 C):=by
 have G3:EX0 P w K mg base 1 f3 d3 ["self","b","weight"] (P5 C):=Tt M3.fn T
 refine F.ok scCo (fun vs H Q E h=>?_) (fun cdv A outer s H vs Q E hr h=>?_)
 ·obtain⟨d,t,B,n,s,g,x,kind,tb,q,G,rfl,_⟩:=h
  rfl
 ·obtain⟨d,t,B,n,s,g,x,kind,tb,q,G,rfl,S,i,⟨z1,z2,z3⟩,wl,k⟩:=h
  have hu:=Cm hr
  have hr1:Room 1 _:=hr.mono (by decide)
  obtain⟨a,b,e1,e2,e3⟩:=id wl
  refine⟨_,Ac (Vp (pv 1) (J0 rfl (Bs (Bq (i:=2) scCo.nd rfl (Or.inl rfl)) (Bs (Bq (i:=3) scCo.nd rfl (Or.inl rfl)) (Bs (Bq (i:=4) scCo.nd rfl (Or.inl rfl)) (Bs (Bq (i:=5) scCo.nd rfl (Or.inl rfl)) (Bs (Bq (i:=6) scCo.nd rfl (Or.inl rfl)) Gj)))))))
   (Ac (Az (i:=7) scCo.nd rfl (Or.inl rfl) (Av Cz (Be hu (pv 0) As) (pv 5)))
   (Ac (A9 (Au Bx (pv 3) As (A0 _)) (Af (Ar (Bw GP hr (by rfl) MP.mg MP.fn.kp MP.bd .nil Bj (Aa (pv 0) (Aa (pv 1) Ae))))) Ax)
   (Ac (A9 (Au Bx (pv 3) As (A0 _)) (Af (A7 (Ap (pl:=_) (pv 7) T.cl M1.mt G1 hr M1.bd .nil Bj (Aa (Av Aq (pv 6) Ag) (Aa (Av Aq (pv 6) Ag) Ae)))))
    (Af (A9 (Au Bx (pv 3) As (A0 _)) (Af (A7 (Ap (pl:=_) (pv 7) T.cl M2.mt G2 hr M2.bd .nil Bj (Aa (Av Aq (pv 6) Ag) (Aa (Av Aq (pv 6) Ag) Ae)))))
     (Af (A9 (Au Bx (pv 3) As (A0 _)) (Af (A7 (Ap (pl:=_) (pv 7) T.cl M3.mt G3 hr1 M3.bd .nil Bj (Aa (Av Aq (pv 6) Ag) (Aa (Av Aq (pv 6) Ag) Ae))))) E5)))))
   (Af (Ar (Fi Ae)))))),?_⟩
  refine⟨_,rfl,t,_,rfl,SqT.of e1,rfl,_,_,rfl,_,_,rfl,_,_,rfl,_,_,rfl,_,_,rfl,rfl,?_⟩
  refine⟨_,rfl,d,_,rfl,Bi S.ob,_,rfl,B.hs,_,_,_,rfl,rfl,SqL.of S.hs,i.atI,?_⟩
  rcases k with⟨G',cm,k⟩|⟨rfl,k⟩
  ·obtain⟨dx1,hq⟩:=(i.at S).ob
   have fin:∀H1,HouseAt C H1 q G'→HFr q G H H1→∀r,H1 r=none→Q (.ref r) (upd H1 r (.lst [])):=fun H1 S1 fr r hr'=>by
    obtain⟨W1,wf1⟩:=S.step i.2 S1 fr fun b hb=>.inl (by rw[cm.foot] at hb;exact hb)
    have s2:=Ah (o:=.lst []) hr'
    have rhs:r≠B.hs:=fun z=>by rw[z] at hr';rw[W1.hs] at hr';cases hr'
    refine k r _ (W1.same s2) (fun b o e hb=>s2 _ _ (wf1 b o e hb)) rhs ?_ Ab
    cases e:H r with
    | none=>rfl
    | some o =>
      by_cases m:r=q∨r∈foot G
      ·rcases m with rfl|m
       ·obtain⟨dx,e'⟩:=S1.ob;rw[hr'] at e';cases e'
       ·obtain⟨kv,e'⟩:=S1.foot_dT (b:=r) (by rw[cm.foot];exact m);rw[hr'] at e';cases e'
      ·rw[fr r o e (fun z=>m (.inl z)) fun z=>m (.inr z)] at hr';cases hr'
   rcases cm with⟨rfl,cm⟩|⟨rfl,rfl⟩|⟨rfl,rfl⟩
   ·refine noI (Hu ⟨_,rfl,q,dx1,_,rfl,hq,Bk G (by decide +kernel),_,rfl,a,_,_,_,rfl,rfl,SqT.of e2,rfl,_,rfl,a,_,_,_,rfl,rfl,SqT.of e2,rfl,q,b,G,tb,x,rfl,i.at S,e3,z1,z2,z3,?_⟩)
    rcases cm with⟨h1,o,h2,rfl⟩|⟨h1,rfl⟩
    ·exact .inl ⟨h1,o,h2,fun H1 S1 fr=>⟨Nat.zero_le _,fin H1 S1 fr⟩⟩
    ·exact .inr ⟨h1,fun H1 S1 fr=>⟨Nat.zero_le _,fin H1 S1 fr⟩⟩
   ·exact noI (noI (Hu ⟨_,rfl,q,dx1,_,rfl,hq,Bk G (by decide +kernel),_,rfl,a,_,_,_,rfl,rfl,SqT.of e2,rfl,_,rfl,a,_,_,_,rfl,rfl,SqT.of e2,rfl,q,b,G,tb,x,rfl,i.at S,e3,z3,fun H1 S1 fr=>⟨Nat.zero_le _,fin H1 S1 fr⟩⟩))
   ·exact noI (noI (noI (Hu ⟨_,rfl,q,dx1,_,rfl,hq,Bk G (by decide +kernel),_,rfl,a,_,_,_,rfl,rfl,SqT.of e2,rfl,_,rfl,a,_,_,_,rfl,rfl,SqT.of e2,rfl,q,b,G,tb,x,rfl,i.at S,e3,z2,fun H1 S1 fr=>⟨Nat.zero_le _,fin H1 S1 fr⟩⟩)))
  ·exact Hu ⟨_,rfl,_,rfl,k⟩
def P0(C NW:Addr):Sp:=fun vs H Q E=>∃(d b:Addr)(h g:Int)(B:BGh)(tb:T2)(q:Addr)(G:HGh),vs=[.ref d,.int h,.int g,.ref b]∧BesAt C H d B∧H b=some (.tup (tv tb))∧InB B h q G∧Good G∧G.num=h∧tb∈G.hand∧B.ls.length≤400 ∧
 ((tb.1=G.num∧∃o,G.outs.find? (fun q=>decide (q.1=tb))=some (tb,o) ∧
  ∀(t:Addr)(H':Hp),BesAt C H' d { B with qs:=B.qs.set h.toNat (q,{ G with ticks:=G.ticks+1,outs:=Ba G.outs tb (o+B.share) }),c:=B.c+1,ls:=B.ls++[(B.c+1,t)] }→WLet H' t (B.c+1) "hold" h g tb B.share→BFr d B H H'→Q (.int (B.c+1)) H') ∨
  (tb.1≠G.num∧∃wt,G.recs.find? (fun q=>decide (q.1=tb))=some (tb,wt)∧((wt=0∧∀H',Bp H H'→E (.ref NW) none H') ∨
   (wt=1∧∀(t:Addr)(H':Hp),BesAt C H' d { B with qs:=B.qs.set h.toNat (q,{ G with ticks:=G.ticks+1,recs:=Ba G.recs tb 0 }),c:=B.c+1,ls:=B.ls++[(B.c+1,t)] }→WLet H' t (B.c+1) "pass" h tb.1 tb g→BFr d B H H'→Q (.int (B.c+1)) H') ∨
   (2≤wt∧∀(t:Addr)(H':Hp),BesAt C H' d { B with qs:=B.qs.set h.toNat (q,{ G with ticks:=G.ticks+1,recs:=Ba G.recs tb (wt-wt / 2) }),c:=B.c+1,ls:=B.ls++[(B.c+1,t)] }→WLet H' t (B.c+1) "hold" h g tb (wt / 2)→BFr d B H H'→Q (.int (B.c+1)) H'))))
theorem scSn:Ao ["_law_beside","_law_h","_law_g","_law_b","_law_house","_law_weight","_law_goes"] ["_law_beside","_law_h","_law_g","_law_b"] (Aj W9):={}
theorem Jda{f f1 f2 f3:Addr}{fd d1 d2 d3:FuncData}(F:Fun K "_law_sent" "_law_sent" W9 f fd)(T:Txt K mg C NHd NNr MI NW)(Tx:Jb9 mg)(M1:Mth K C "part" "House.part" So ["self","b","share"] f1 d1)(G1:EX1 P w K mg base 3 f1 d1 ["self","b","share"] (P1 C NHd NW))(M2:Mth K C "state" "House.state" Jv ["self"] f2 d2)(G2':EX0 P w K mg base 2 f2 d2 ["self"] (Fd C K))(M3:Gdf K mg "_law_put" Yi ["_law_beside","_law_kind","_law_sender","_law_goal","_law_about"] f3 d3) :
 EX1 P w K mg base 4 f fd ["_law_beside","_law_h","_law_g","_law_b"] (P0 C NW):=by
 have G2:EX1 P w K mg base 2 f2 d2 ["self"] (Fd C K):=FX.FnOk.to1 G2'
 have G3:EX1 P w K mg base 1 f3 d3 ["_law_beside","_law_kind","_law_sender","_law_goal","_law_about"] (Sf C):=FX.FnOk.to1 (Vs M3.fn)
 refine ok1 F scSn (fun vs H Q E h=>?_) (fun cdv A outer s H vs Q E hr h=>?_)
 ·obtain⟨d,b,h,g,B,tb,q,G,rfl,_⟩:=h
  rfl
 ·obtain⟨d,b,h,g,B,tb,q,G,rfl,S,hb,i,gd,nu,hin,zl,k⟩:=h
  have hu:=Cm hr
  have hr1:Room 1 _:=hr.mono (by decide)
  have hr2:Room 2 _:=hr.mono (by decide)
  obtain⟨hs,os,rs,tld⟩:=gd.told
  obtain⟨dx1,hq⟩:=(i.at S).ob
  refine⟨_,Ac (Az (i:=4) scSn.nd rfl (Or.inl rfl) (Av Cz (Be hu (pv 0) As) (pv 1)))
   (Ac (Az (i:=5) scSn.nd rfl (Or.inl rfl) (Tl hu (Cu (Uy (K1 hr) rfl) (by rfl) Tx.dict PyProof.Rows.boot_dict (Aa (Av Aq (Cg (pl:=_) (pv 4) T.cl M2.mt G2 hr2 M2.bd .nil Bb) Ag) Ae)) (pv 3) Ag ⟨rfl,rfl,rfl,rfl⟩))
   (Ac (Az (i:=6) scSn.nd rfl (Or.inl rfl) (Ap (pl:=_) (pv 4) T.cl M1.mt G1 hr M1.bd .nil Bb (Aa (pv 3) (Aa (Be hu (pv 0) As) Ae))))
   (Ac (A9 (Ji7 (Qq (Au Xj (Av Aq (pv 3) Ag) (pv 1) (A0 _)) (Qp (Au Bx (pv 5) Ag (A0 _))))) (Af (Ar (Bw G3 hr1 (by rfl) M3.mg M3.fn.kp M3.bd .nil Bb (Aa (pv 0) (Aa As (Aa (pv 1) (Aa (Av Aq (pv 3) Ag) (Aa (Bn (Aa (pv 3) (Aa (pv 2) Ae))) Ae)))))))) Ax)
   (Af (Ar (Bw G3 hr1 (by rfl) M3.mg M3.fn.kp M3.bd .nil Bb (Aa (pv 0) (Aa As (Aa (pv 1) (Aa (pv 2) (Aa (Bn (Aa (pv 3) (Aa (pv 6) Ae))) Ae))))))))))),?_⟩
  refine⟨_,rfl,d,_,rfl,Bi S.ob,_,rfl,B.hs,_,_,_,rfl,rfl,SqL.of S.hs,i.atI,?_⟩
  refine⟨_,rfl,q,dx1,_,rfl,hq,Bk G (by decide +kernel),q,G,hs,os,rs,rfl,i.at S,gd.h2,gd.o2,gd.r2,tld.pm,tld.pw,tld.rw_,tld.pr,tld.wr,fun x H1 s1 st=>?_⟩
  obtain⟨y1,y2,y3,as,bs,ds,ex,_,_,_,_,⟨ob,e3,pl⟩,r3⟩:=st
  have ndr:(rs.map (·.1)).Nodup:=(tld.pr.map _).nodup_iff.mpr gd.r1
  have zr:rs.length≤1000:=by have:=tld.pr.length_eq;have:=gd.r2;lia
  refine⟨x,_,_,_,rfl,rfl,SqT.of ex,rfl,y3,ob,ds,rs,rfl,e3,pl,r3,ndr,zr,fun p hp=>?_⟩
  have s2:=Ah (o:=Ct rs) hp
  have s12:=Ak s1 s2
  have ep:(upd H1 p (Ct rs)) p=some (Ct rs):=Ab
  generalize upd H1 p (Ct rs)=H2 at s2 s12 ep
  refine⟨p,rfl,.inr ⟨_,.inl ep⟩,_,rfl,_,Et ep (s12 _ _ hb),?_⟩
  have ev:((rs.find? fun q=>decide (q.1=tb)).map fun q=>V.int q.2).getD (V.int 0)=V.int (Ai G.recs tb):=by
   rw[←Uj tld.pr gd.r1]
   unfold Ai
   cases rs.find? fun q=>decide (q.1=tb)<;>rfl
  rw[ev]
  have S2:=S.same s12
  have hb2:=s12 _ _ hb
  obtain⟨dx2,hq2⟩:=(i.at S2).ob
  have z1:=gd.o2
  have z2:=gd.r2
  refine⟨_,rfl,q,dx2,_,rfl,hq2,Bk G (by decide +kernel),_,rfl,_,rfl,d,_,rfl,Gb S2.ob,q,b,G,tb,B.share,rfl,i.at S2,hb2,by lia,by lia,?_⟩
  have fr0:∀{H':Hp},BFr d B H2 H'→BFr d B H H':=fun{H'} f b o e hb=>f b o (s12 _ _ e) hb
  rcases k with⟨h2,o,h3,k⟩|⟨h2,wt,h3,k⟩
  ·refine .inr (.inl ⟨hin,h2,o,h3,fun H3 S3 fr3=>?_⟩)
   obtain⟨W3,wf3⟩:=S2.step i.2 S3 fr3 fun b hb=>.inl hb
   have kt3:=BFr.keepT S2 wf3
   refine⟨_,rfl,b,_,_,_,rfl,rfl,SqT.of (kt3.tup _ _ hb2),rfl,_,rfl,rfl,_,rfl,?_⟩
   rw[show(!decide (V.int tb.1=V.int h))=false by rw[h2,nu];simp]
   refine B0 (B0 ?_)
   refine⟨_,rfl,_,rfl,_,rfl,_,rfl,_,rfl,(by show 2≤sizeLine;decide),fun a ha=>?_⟩
   have s4:=Ah (o:=.tup [V.ref b,V.int B.share]) ha
   have W4:=W3.same s4
   refine⟨d,_,_,_,_,_,rfl,W4,Nat.le_trans zl (by decide),fun t H5 ht et S5 fr5=>?_⟩
   have wf5:=BFr.of fr5
   have kt5:=BFr.keepT W4 wf5
   exact k t H5 S5 ⟨a,b,et,kt5.tup _ _ Ab,kt5.tup _ _ (s4 _ _ (kt3.tup _ _ hb2))⟩ (fr0 fun b' o' e' hb'=>fr5 b' o' (s4 _ _ (wf3 b' o' e' hb')) (fun z=>hb' (ZB _ (by rw[z];simp[Cf]))) fun z=>hb' (ZB _ (by rw[z];simp[Cf])))
  ·have eg:Ai G.recs tb=wt:=by unfold Ai;rw[h3];rfl
   refine .inr (.inr ⟨hin,h2,wt,h3,?_⟩)
   rcases k with⟨rfl,k⟩|⟨rfl,k⟩|⟨h4,k⟩
   ·exact .inl ⟨rfl,k _ s12⟩
   ·refine .inr ⟨by decide,fun H3 S3 fr3=>?_⟩
    have eg1:(1:Int)-Ek 1=0:=by decide
    rw[eg1] at S3
    obtain⟨W3,wf3⟩:=S2.step i.2 S3 fr3 fun b hb=>.inl hb
    have kt3:=BFr.keepT S2 wf3
    refine⟨_,rfl,b,_,_,_,rfl,rfl,SqT.of (kt3.tup _ _ hb2),rfl,_,rfl,rfl,_,rfl,?_⟩
    rw[show(!decide (V.int tb.1=V.int h))=true by rw[nu] at h2;simp[h2]]
    refine Cd ⟨_,rfl,rfl,_,rfl,?_⟩
    rw[eg,show decide (V.int 1=V.int 1)=true by simp]
    refine Cd ?_
    refine⟨_,rfl,_,rfl,_,rfl,b,_,_,_,rfl,rfl,SqT.of (kt3.tup _ _ hb2),rfl,_,rfl,_,rfl,(by show 2≤sizeLine;decide),fun a ha=>?_⟩
    have s4:=Ah (o:=.tup [V.ref b,V.int g]) ha
    have W4:=W3.same s4
    refine⟨d,_,_,_,_,_,rfl,W4,Nat.le_trans zl (by decide),fun t H5 ht et S5 fr5=>?_⟩
    have wf5:=BFr.of fr5
    have kt5:=BFr.keepT W4 wf5
    exact k t H5 S5 ⟨a,b,et,kt5.tup _ _ Ab,kt5.tup _ _ (s4 _ _ (kt3.tup _ _ hb2))⟩ (fr0 fun b' o' e' hb'=>fr5 b' o' (s4 _ _ (wf3 b' o' e' hb')) (fun z=>hb' (ZB _ (by rw[z];simp[Cf]))) fun z=>hb' (ZB _ (by rw[z];simp[Cf])))
   ·refine .inr ⟨by lia,fun H3 S3 fr3=>?_⟩
    have eg1:Ek wt=wt / 2:=by unfold Ek;rw[if_neg (by lia)]
    rw[eg1] at S3
    obtain⟨W3,wf3⟩:=S2.step i.2 S3 fr3 fun b hb=>.inl hb
    have kt3:=BFr.keepT S2 wf3
    refine⟨_,rfl,b,_,_,_,rfl,rfl,SqT.of (kt3.tup _ _ hb2),rfl,_,rfl,rfl,_,rfl,?_⟩
    rw[show(!decide (V.int tb.1=V.int h))=true by rw[nu] at h2;simp[h2]]
    refine Cd ⟨_,rfl,rfl,_,rfl,?_⟩
    rw[eg,decide_eq_false (show ¬V.int wt=V.int 1 from fun z=>by have:=V.int.inj z;lia)]
    refine B0 ?_
    refine⟨_,rfl,_,rfl,_,rfl,_,rfl,_,rfl,(by show 2≤sizeLine;decide),fun a ha=>?_⟩
    rw[eg1] at *
    have s4:=Ah (o:=.tup [V.ref b,V.int (wt / 2)]) ha
    have W4:=W3.same s4
    refine⟨d,_,_,_,_,_,rfl,W4,Nat.le_trans zl (by decide),fun t H5 ht et S5 fr5=>?_⟩
    have wf5:=BFr.of fr5
    have kt5:=BFr.keepT W4 wf5
    exact k t H5 S5 ⟨a,b,et,kt5.tup _ _ Ab,kt5.tup _ _ (s4 _ _ (kt3.tup _ _ hb2))⟩ (fr0 fun b' o' e' hb'=>fr5 b' o' (s4 _ _ (wf3 b' o' e' hb')) (fun z=>hb' (ZB _ (by rw[z];simp[Cf]))) fun z=>hb' (ZB _ (by rw[z];simp[Cf])))
end
inductive Dd where
 | make (h:Int)
 | three (w:Str) (h:Int) (a b:Addr)
 | free (h:Int) (b:Addr)
 | send (h g:Int) (b:Addr)
 | clean (h:Int)
 | deliver (n:Int)
def ddV:Dd→List V
 | .make h=>[.str "make",.int h]
 | .three w h a b=>[.str w,.int h,.ref a,.ref b]
 | .free h b=>[.str "free",.int h,.ref b]
 | .send h g b=>[.str "send",.int h,.int g,.ref b]
 | .clean h=>[.str "clean",.int h]
 | .deliver n=>[.str "deliver",.int n]
theorem noX{K:W.Frag}{i:Nat}{c wd:Str}{ta tb:TS}{D:Ends}{σ:L2.St}{H:Hp}{x:Addr}{r:List V}(k:tb D σ H)(ex:H x=some (.tup (.str wd::r)))(hv:σ[i]?=some (some (.ref x)):=by rfl)(ne:¬wd=c:=by decide +kernel):Zv (Kj (tOp rEq (tOp (Vo K) (Co i) (tC (.int 0))) (tC (.str c)))) ta tb D σ H :=
 ⟨_,hv,x,_,0,_,rfl,rfl,SqT.of ex,Dc (by decide) rfl,rfl,_,rfl,by rw[decide_eq_false (show ¬V.str wd=V.str c from fun z=>ne (V.str.inj z))];exact B0 k⟩
theorem U6{K:W.Frag}{i:Nat}{c:Str}{ta tb:TS}{D:Ends}{σ:L2.St}{H:Hp}{x:Addr}{r:List V}(k:ta D σ H)(ex:H x=some (.tup (.str c::r)))(hv:σ[i]?=some (some (.ref x)):=by rfl):Zv (Kj (tOp rEq (tOp (Vo K) (Co i) (tC (.int 0))) (tC (.str c)))) ta tb D σ H :=
 ⟨_,hv,x,_,0,_,rfl,rfl,SqT.of ex,Dc (by decide) rfl,rfl,_,rfl,by rw[decide_eq_true rfl];exact Cd k⟩
section
variable {P:Program}{w:World}{K:W.Frag}{mg:Str→Option Value}{base:Heap}{CW C CP NH NI NL NHd NNr MI NW:Addr}
structure Wm(P:Program)(w:World)(K:W.Frag)(mg:Str→Option Value)(base:Heap)(CW C CP NH NL NHd NNr MI NW f1 f2 f3 f4 f5 f6 f7 f8:Addr)(d1 d2 d3 d4 d5 d6 d7 d8:FuncData):Prop where
 make:Mth K CW "make" "World.make" Qd ["self","h"] f1 d1
 hold:Mth K CW "hold" "World.hold" Qe ["self","h","a","b"] f2 d2
 drop:Mth K CW "drop" "World.drop" Qh ["self","h","a","b"] f3 d3
 take:Mth K CW "take" "World.take" Qa ["self","h","a","b"] f4 d4
 free:Mth K CW "free" "World.free" Qg ["self","h","b"] f5 d5
 send:Mth K CW "send" "World.send" Qb ["self","h","g","b"] f6 d6
 clean:Mth K CW "clean" "World.clean" Lc ["self","h"] f7 d7
 deliver:Mth K CW "deliver" "World.deliver" Gf ["self","n"] f8 d8
 gmake:EX1 P w K mg base 5 f1 d1 ["self","h"] (Pw CW C CP NH)
 ghold:EX1 P w K mg base 5 f2 d2 ["self","h","a","b"] (Px CW C CP NH NHd NNr)
 gdrop:EX1 P w K mg base 5 f3 d3 ["self","h","a","b"] (Pz CW C CP NH NHd NNr MI)
 gtake:EX1 P w K mg base 5 f4 d4 ["self","h","a","b"] (Pu CW C CP NH NHd NNr MI)
 gfree:EX1 P w K mg base 5 f5 d5 ["self","h","b"] (Py CW C CP NH NHd)
 gsend:EX1 P w K mg base 5 f6 d6 ["self","h","g","b"] (K6 CW C CP NHd NW)
 gclean:EX1 P w K mg base 5 f7 d7 ["self","h"] (Hy CW C CP)
 gdeliver:EX1 P w K mg base 5 f8 d8 ["self","n"] (Fc CW C CP NL)
def DoS(CW C CP NH NL NHd NNr MI NW:Addr)(p:Addr)(H:Hp)(Q:VK)(E:XK):Dd→Prop
 | .make h=>Pw CW C CP NH [.ref p,.int h] H Q E
 | .three x h a b=>(x="hold"∧Px CW C CP NH NHd NNr [.ref p,.int h,.ref a,.ref b] H Q E)∨(x="drop"∧Pz CW C CP NH NHd NNr MI [.ref p,.int h,.ref a,.ref b] H Q E)∨(x="take"∧Pu CW C CP NH NHd NNr MI [.ref p,.int h,.ref a,.ref b] H Q E)
 | .free h b=>Py CW C CP NH NHd [.ref p,.int h,.ref b] H Q E
 | .send h g b=>K6 CW C CP NHd NW [.ref p,.int h,.int g,.ref b] H Q E
 | .clean h=>Hy CW C CP [.ref p,.int h] H Q E
 | .deliver n=>Fc CW C CP NL [.ref p,.int n] H Q E
def Je7(CW C CP NH NL NHd NNr MI NW:Addr):Sp:=fun vs H Q E=>∃(p x dx:Addr)(fs:List (Str×V))(dd:Dd),vs=[.ref p,.ref x]∧H x=some (.tup (ddV dd))∧H p=some (.ins CW dx fs)∧(∀n:Str,(["make","hold","drop","take","free","send","clean","deliver"]:List Str).contains n=true→fs.lookup n=none)∧DoS CW C CP NH NL NHd NNr MI NW p H Q E dd
theorem scDo:Ao ["_law_world","_law_deed_here","_law_word"] ["_law_world","_law_deed_here"] (Aj sDo):={}
theorem Jgt{f f1 f2 f3 f4 f5 f6 f7 f8:Addr}{fd d1 d2 d3 d4 d5 d6 d7 d8:FuncData}(F:Fun K "_law_do" "_law_do" sDo f fd)(TW:En K mg CW NH NI)(M:Wm P w K mg base CW C CP NH NL NHd NNr MI NW f1 f2 f3 f4 f5 f6 f7 f8 d1 d2 d3 d4 d5 d6 d7 d8) :
 EX1 P w K mg base 6 f fd ["_law_world","_law_deed_here"] (Je7 CW C CP NH NL NHd NNr MI NW):=by
 refine ok1 F scDo (fun vs H Q E h=>?_) (fun cdv A outer s H vs Q E hr h=>?_)
 ·obtain⟨p,x,dx,fs,dd,rfl,_⟩:=h
  rfl
 ·obtain⟨p,x,dx,fs,dd,rfl,ex,hp,fl,k⟩:=h
  refine⟨_,Ac (Az (i:=2) scDo.nd rfl (Or.inl rfl) (Av Aq (pv 1) Ag))
   (Ac (A9 (Au Bx (pv 2) As (A0 _)) (Af (Ar (Ap (pl:=_) (pv 0) TW.cl M.make.mt M.gmake hr M.make.bd .nil Bb (Aa (Av Aq (pv 1) Ag) Ae)))) Ax)
   (Ac (A9 (Au Bx (pv 2) As (A0 _)) (Af (Ar (Ap (pl:=_) (pv 0) TW.cl M.hold.mt M.ghold hr M.hold.bd .nil Bb (Aa (Av Aq (pv 1) Ag) (Aa (Av Aq (pv 1) Ag) (Aa (Av Aq (pv 1) Ag) Ae)))))) Ax)
   (Ac (A9 (Au Bx (pv 2) As (A0 _)) (Af (Ar (Ap (pl:=_) (pv 0) TW.cl M.drop.mt M.gdrop hr M.drop.bd .nil Bb (Aa (Av Aq (pv 1) Ag) (Aa (Av Aq (pv 1) Ag) (Aa (Av Aq (pv 1) Ag) Ae)))))) Ax)
   (Ac (A9 (Au Bx (pv 2) As (A0 _)) (Af (Ar (Ap (pl:=_) (pv 0) TW.cl M.take.mt M.gtake hr M.take.bd .nil Bb (Aa (Av Aq (pv 1) Ag) (Aa (Av Aq (pv 1) Ag) (Aa (Av Aq (pv 1) Ag) Ae)))))) Ax)
   (Ac (A9 (Au Bx (pv 2) As (A0 _)) (Af (Ar (Ap (pl:=_) (pv 0) TW.cl M.free.mt M.gfree hr M.free.bd .nil Bb (Aa (Av Aq (pv 1) Ag) (Aa (Av Aq (pv 1) Ag) Ae))))) Ax)
   (Ac (A9 (Au Bx (pv 2) As (A0 _)) (Af (Ar (Ap (pl:=_) (pv 0) TW.cl M.send.mt M.gsend hr M.send.bd .nil Bb (Aa (Av Aq (pv 1) Ag) (Aa (Av Aq (pv 1) Ag) (Aa (Av Aq (pv 1) Ag) Ae)))))) Ax)
   (Ac (A9 (Au Bx (pv 2) As (A0 _)) (Af (Ar (Ap (pl:=_) (pv 0) TW.cl M.clean.mt M.gclean hr M.clean.bd .nil Bb (Aa (Av Aq (pv 1) Ag) Ae)))) Ax)
   (Ac (A9 (Au Bx (pv 2) As (A0 _)) E5 Ax)
   (Af (Ar (Ap (pl:=_) (pv 0) TW.cl M.deliver.mt M.gdeliver hr M.deliver.bd .nil Bb (Aa (Av Aq (pv 1) Ag) Ae)))))))))))),?_⟩
  cases dd with
  | make h =>
    refine⟨_,rfl,x,_,_,_,rfl,rfl,SqT.of ex,rfl,Hu ?_⟩
    exact⟨_,rfl,p,dx,_,rfl,hp,fl _ (by decide +kernel),_,rfl,x,_,_,_,rfl,rfl,SqT.of ex,rfl,k⟩
  | three wd h a b =>
    rcases k with⟨rfl,k⟩|⟨rfl,k⟩|⟨rfl,k⟩
    ·refine⟨_,rfl,x,_,_,_,rfl,rfl,SqT.of ex,rfl,noI (Hu ?_)⟩
     exact⟨_,rfl,p,dx,_,rfl,hp,fl _ (by decide +kernel),_,rfl,x,_,_,_,rfl,rfl,SqT.of ex,rfl,_,rfl,x,_,_,_,rfl,rfl,SqT.of ex,rfl,_,rfl,x,_,_,_,rfl,rfl,SqT.of ex,rfl,k⟩
    ·refine⟨_,rfl,x,_,_,_,rfl,rfl,SqT.of ex,rfl,noI (noI (Hu ?_))⟩
     exact⟨_,rfl,p,dx,_,rfl,hp,fl _ (by decide +kernel),_,rfl,x,_,_,_,rfl,rfl,SqT.of ex,rfl,_,rfl,x,_,_,_,rfl,rfl,SqT.of ex,rfl,_,rfl,x,_,_,_,rfl,rfl,SqT.of ex,rfl,k⟩
    ·refine⟨_,rfl,x,_,_,_,rfl,rfl,SqT.of ex,rfl,noI (noI (noI (Hu ?_)))⟩
     exact⟨_,rfl,p,dx,_,rfl,hp,fl _ (by decide +kernel),_,rfl,x,_,_,_,rfl,rfl,SqT.of ex,rfl,_,rfl,x,_,_,_,rfl,rfl,SqT.of ex,rfl,_,rfl,x,_,_,_,rfl,rfl,SqT.of ex,rfl,k⟩
  | free h b =>
    refine⟨_,rfl,x,_,_,_,rfl,rfl,SqT.of ex,rfl,noI (noI (noI (noI (Hu ?_))))⟩
    exact⟨_,rfl,p,dx,_,rfl,hp,fl _ (by decide +kernel),_,rfl,x,_,_,_,rfl,rfl,SqT.of ex,rfl,_,rfl,x,_,_,_,rfl,rfl,SqT.of ex,rfl,k⟩
  | send h g b =>
    refine⟨_,rfl,x,_,_,_,rfl,rfl,SqT.of ex,rfl,noI (noI (noI (noI (noI (Hu ?_)))))⟩
    exact⟨_,rfl,p,dx,_,rfl,hp,fl _ (by decide +kernel),_,rfl,x,_,_,_,rfl,rfl,SqT.of ex,rfl,_,rfl,x,_,_,_,rfl,rfl,SqT.of ex,rfl,_,rfl,x,_,_,_,rfl,rfl,SqT.of ex,rfl,k⟩
  | clean h =>
    refine⟨_,rfl,x,_,_,_,rfl,rfl,SqT.of ex,rfl,noI (noI (noI (noI (noI (noI (Hu ?_))))))⟩
    exact⟨_,rfl,p,dx,_,rfl,hp,fl _ (by decide +kernel),_,rfl,x,_,_,_,rfl,rfl,SqT.of ex,rfl,k⟩
  | deliver n =>
    refine⟨_,rfl,x,_,_,_,rfl,rfl,SqT.of ex,rfl,noI (noI (noI (noI (noI (noI (noI (noI ?_)))))))⟩
    exact⟨_,rfl,p,dx,_,rfl,hp,fl _ (by decide +kernel),_,rfl,x,_,_,_,rfl,rfl,SqT.of ex,rfl,k⟩
structure Bm(P:Program)(w:World)(K:W.Frag)(mg:Str→Option Value)(base:Heap)(C NHd NNr MI NW f1 f2 f3 f4 f5 f7 fS fB fC:Addr)(d1 d2 d3 d4 d5 d7 dS dB dC:FuncData):Prop where
 make:Mth K C "make" "House.make" Sq ["self"] f1 d1
 hold:Mth K C "hold" "House.hold" Ss ["self","a","b"] f2 d2
 drop:Mth K C "drop" "House.drop" Sv ["self","a","b"] f3 d3
 take:Mth K C "take" "House.take" Sn ["self","a","b"] f4 d4
 free:Mth K C "free" "House.free" Su ["self","b"] f5 d5
 clean:Mth K C "clean" "House.clean" L1 ["self"] f7 d7
 sent:Gdf K mg "_law_sent" W9 ["_law_beside","_law_h","_law_g","_law_b"] fS dS
 backs:Gdf K mg "_law_backs" Qn ["_law_beside","_law_h","_law_given"] fB dB
 come:Gdf K mg "_law_come" Xd ["_law_beside","_law_letter"] fC dC
 gmake:EX1 P w K mg base 4 f1 d1 ["self"] (Jr C)
 ghold:EX1 P w K mg base 4 f2 d2 ["self","a","b"] (Js C NHd NNr)
 gdrop:EX1 P w K mg base 4 f3 d3 ["self","a","b"] (Ju C NHd NNr MI)
 gtake:EX1 P w K mg base 4 f4 d4 ["self","a","b"] (Jq C NHd NNr MI)
 gfree:EX1 P w K mg base 4 f5 d5 ["self","b"] (Jt C NHd)
 gclean:EX1 P w K mg base 4 f7 d7 ["self"] (Ia C)
 gsent:EX1 P w K mg base 4 fS dS ["_law_beside","_law_h","_law_g","_law_b"] (P0 C NW)
 gbacks:EX1 P w K mg base 4 fB dB ["_law_beside","_law_h","_law_given"] (K8 C)
 gcome:EX1 P w K mg base 4 fC dC ["_law_beside","_law_letter"] (P6 C)
def ByS(C NHd NNr MI NW:Addr)(d:Addr)(B:BGh)(H:Hp)(Q:VK)(E:XK):Dd→Prop
 | .make h=>∃q G,InB B h q G∧Jr C [.ref q] H Q E
 | .three x h a b=>∃q G,InB B h q G∧((x="hold"∧Js C NHd NNr [.ref q,.ref a,.ref b] H Q E)∨(x="drop"∧Ju C NHd NNr MI [.ref q,.ref a,.ref b] H Q E)∨(x="take"∧Jq C NHd NNr MI [.ref q,.ref a,.ref b] H Q E))
 | .free h b=>∃q G,InB B h q G∧Jt C NHd [.ref q,.ref b] H Q E
 | .send h g b=>P0 C NW [.ref d,.int h,.int g,.ref b] H Q E
 | .clean h=>∃q G,InB B h q G∧Ia C [.ref q] H (fun v H1=>K8 C [.ref d,.int h,v] H1 Q E) E
 | .deliver n=>∃(l1 l2:List (Int×Addr))(t:Addr),B.ls=l1++(n,t)::l2∧∀H',BesAt C H' d { B with ls:=l1++l2 }→(∀b o,H b=some o→b≠B.pd→H' b=some o)→P6 C [.ref d,.ref t] H' Q E
def Je8(C NHd NNr MI NW:Addr):Sp:=fun vs H Q E=>∃(d x:Addr)(B:BGh)(dd:Dd),vs=[.ref d,.ref x]∧H x=some (.tup (ddV dd))∧BesAt C H d B∧0<B.qs.length∧ByS C NHd NNr MI NW d B H Q E dd
theorem scBy:Ao ["_law_beside","_law_deed_here","_law_house"] ["_law_beside","_law_deed_here"] (Aj Io):={}
theorem InB.mod{B:BGh}{h:Int}{q:Addr}{G:HGh}(i:InB B h q G):h % (((B.qs.map fun q=>V.ref q.1).length:Nat):Int)=h:=by
 have:=(ZJ i.2).1
 have h0:=i.1
 rw[ZA]
 exact Int.emod_eq_of_lt h0 (by omega)
theorem Jgu{f f1 f2 f3 f4 f5 f7 fS fB fC:Addr}{fd d1 d2 d3 d4 d5 d7 dS dB dC:FuncData}(F:Fun K "_law_by_parts" "_law_by_parts" Io f fd)(T:Txt K mg C NHd NNr MI NW)(M:Bm P w K mg base C NHd NNr MI NW f1 f2 f3 f4 f5 f7 fS fB fC d1 d2 d3 d4 d5 d7 dS dB dC) :
 EX1 P w K mg base 5 f fd ["_law_beside","_law_deed_here"] (Je8 C NHd NNr MI NW):=by
 refine ok1 F scBy (fun vs H Q E h=>?_) (fun cdv A outer s H vs Q E hr h=>?_)
 ·obtain⟨d,x,B,dd,rfl,_⟩:=h
  rfl
 ·obtain⟨d,x,B,dd,rfl,ex,S,pos,k⟩:=h
  have hu:=Cm hr
  have lpos:(0:Int)<(((B.qs.map fun q=>V.ref q.1).length:Nat):Int):=by rw[ZA];omega
  have any:∀v:Int,∃q0,atI (B.qs.map fun q=>V.ref q.1) (v % (((B.qs.map fun q=>V.ref q.1).length:Nat):Int))=some (V.ref q0):=fun v=>by
   have j0:=Int.emod_nonneg v (show(((B.qs.map fun q=>V.ref q.1).length:Nat):Int)≠0 by omega)
   have j1:=Int.emod_lt_of_pos v lpos
   obtain⟨r,hr⟩:=A1 (xs:=B.qs) (j:=(v % (((B.qs.map fun q=>V.ref q.1).length:Nat):Int)).toNat) (by rw[ZA] at j1 ⊢;omega)
   exact⟨r.1,Dc j0 (by rw[ZH,hr];rfl)⟩
  refine⟨_,Ac (Az (i:=2) scBy.nd rfl (Or.inl rfl) (Av Cz (Be hu (pv 0) As) (Bc Cc (Av Aq (pv 1) Ag) (Bv Br (by rfl) T.len PySem.boot_len (Aa (Be hu (pv 0) As) Ae)))))
   (Ac (A9 (Au Bx (Av Aq (pv 1) Ag) As (A0 _)) (Af (Ar (Cg (pl:=_) (pv 2) T.cl M.make.mt M.gmake hr M.make.bd .nil Bb))) Ax)
   (Ac (A9 (Au Bx (Av Aq (pv 1) Ag) As (A0 _)) (Af (Ar (Ap (pl:=_) (pv 2) T.cl M.hold.mt M.ghold hr M.hold.bd .nil Bb (Aa (Av Aq (pv 1) Ag) (Aa (Av Aq (pv 1) Ag) Ae))))) Ax)
   (Ac (A9 (Au Bx (Av Aq (pv 1) Ag) As (A0 _)) (Af (Ar (Ap (pl:=_) (pv 2) T.cl M.drop.mt M.gdrop hr M.drop.bd .nil Bb (Aa (Av Aq (pv 1) Ag) (Aa (Av Aq (pv 1) Ag) Ae))))) Ax)
   (Ac (A9 (Au Bx (Av Aq (pv 1) Ag) As (A0 _)) (Af (Ar (Ap (pl:=_) (pv 2) T.cl M.take.mt M.gtake hr M.take.bd .nil Bb (Aa (Av Aq (pv 1) Ag) (Aa (Av Aq (pv 1) Ag) Ae))))) Ax)
   (Ac (A9 (Au Bx (Av Aq (pv 1) Ag) As (A0 _)) (Af (Ar (Ap (pl:=_) (pv 2) T.cl M.free.mt M.gfree hr M.free.bd .nil Bb (Aa (Av Aq (pv 1) Ag) Ae)))) Ax)
   (Ac (A9 (Au Bx (Av Aq (pv 1) Ag) As (A0 _)) (Af (Ar (Bw M.gsent hr (by rfl) M.sent.mg M.sent.fn.kp M.sent.bd .nil Bb (Aa (pv 0) (Aa (Av Aq (pv 1) Ag) (Aa (Av Aq (pv 1) Ag) (Aa (Av Aq (pv 1) Ag) Ae))))))) Ax)
   (Ac (A9 (Au Bx (Av Aq (pv 1) Ag) As (A0 _)) (Af (Ar (Bw M.gbacks hr (by rfl) M.backs.mg M.backs.fn.kp M.backs.bd .nil Bb (Aa (pv 0) (Aa (Av Aq (pv 1) Ag) (Aa (Cg (pl:=_) (pv 2) T.cl M.clean.mt M.gclean hr M.clean.bd .nil Bb) Ae)))))) Ax)
   (Af (Ar (Bw M.gcome hr (by rfl) M.come.mg M.come.fn.kp M.come.bd .nil Bb (Aa (pv 0) (Aa (Tj (Be hu (pv 0) As) (Av Aq (pv 1) Ag) ⟨rfl,rfl,rfl,rfl⟩) Ae)))))))))))),?_⟩
  cases dd with
  | make h =>
    obtain⟨q,G,i,k⟩:=k
    have hi:=i.atI
    rw[←InB.mod i] at hi
    obtain⟨dx1,hq⟩:=(i.at S).ob
    refine⟨_,rfl,d,_,rfl,Bi S.ob,_,rfl,x,_,_,_,rfl,rfl,SqT.of ex,rfl,_,rfl,d,_,rfl,Bi S.ob,B.hs,_,rfl,.inl (SqL.of S.hs),_,_,rfl,rfl,lpos,B.hs,_,_,_,rfl,rfl,SqL.of S.hs,hi,U6 ?_ ex⟩
    exact⟨_,rfl,q,dx1,_,rfl,hq,Bk G (by decide +kernel),k⟩
  | three wd h a b =>
    obtain⟨q,G,i,k⟩:=k
    have hi:=i.atI
    rw[←InB.mod i] at hi
    obtain⟨dx1,hq⟩:=(i.at S).ob
    rcases k with⟨rfl,k⟩|⟨rfl,k⟩|⟨rfl,k⟩
    ·refine⟨_,rfl,d,_,rfl,Bi S.ob,_,rfl,x,_,_,_,rfl,rfl,SqT.of ex,rfl,_,rfl,d,_,rfl,Bi S.ob,B.hs,_,rfl,.inl (SqL.of S.hs),_,_,rfl,rfl,lpos,B.hs,_,_,_,rfl,rfl,SqL.of S.hs,hi,noX (U6 ?_ ex) ex⟩
     exact⟨_,rfl,q,dx1,_,rfl,hq,Bk G (by decide +kernel),_,rfl,x,_,_,_,rfl,rfl,SqT.of ex,rfl,_,rfl,x,_,_,_,rfl,rfl,SqT.of ex,rfl,k⟩
    ·refine⟨_,rfl,d,_,rfl,Bi S.ob,_,rfl,x,_,_,_,rfl,rfl,SqT.of ex,rfl,_,rfl,d,_,rfl,Bi S.ob,B.hs,_,rfl,.inl (SqL.of S.hs),_,_,rfl,rfl,lpos,B.hs,_,_,_,rfl,rfl,SqL.of S.hs,hi,noX (noX (U6 ?_ ex) ex) ex⟩
     exact⟨_,rfl,q,dx1,_,rfl,hq,Bk G (by decide +kernel),_,rfl,x,_,_,_,rfl,rfl,SqT.of ex,rfl,_,rfl,x,_,_,_,rfl,rfl,SqT.of ex,rfl,k⟩
    ·refine⟨_,rfl,d,_,rfl,Bi S.ob,_,rfl,x,_,_,_,rfl,rfl,SqT.of ex,rfl,_,rfl,d,_,rfl,Bi S.ob,B.hs,_,rfl,.inl (SqL.of S.hs),_,_,rfl,rfl,lpos,B.hs,_,_,_,rfl,rfl,SqL.of S.hs,hi,noX (noX (noX (U6 ?_ ex) ex) ex) ex⟩
     exact⟨_,rfl,q,dx1,_,rfl,hq,Bk G (by decide +kernel),_,rfl,x,_,_,_,rfl,rfl,SqT.of ex,rfl,_,rfl,x,_,_,_,rfl,rfl,SqT.of ex,rfl,k⟩
  | free h b =>
    obtain⟨q,G,i,k⟩:=k
    have hi:=i.atI
    rw[←InB.mod i] at hi
    obtain⟨dx1,hq⟩:=(i.at S).ob
    refine⟨_,rfl,d,_,rfl,Bi S.ob,_,rfl,x,_,_,_,rfl,rfl,SqT.of ex,rfl,_,rfl,d,_,rfl,Bi S.ob,B.hs,_,rfl,.inl (SqL.of S.hs),_,_,rfl,rfl,lpos,B.hs,_,_,_,rfl,rfl,SqL.of S.hs,hi,noX (noX (noX (noX (U6 ?_ ex) ex) ex) ex) ex⟩
    exact⟨_,rfl,q,dx1,_,rfl,hq,Bk G (by decide +kernel),_,rfl,x,_,_,_,rfl,rfl,SqT.of ex,rfl,k⟩
  | send h g b =>
    obtain⟨q0,hi⟩:=any h
    refine⟨_,rfl,d,_,rfl,Bi S.ob,_,rfl,x,_,_,_,rfl,rfl,SqT.of ex,rfl,_,rfl,d,_,rfl,Bi S.ob,B.hs,_,rfl,.inl (SqL.of S.hs),_,_,rfl,rfl,lpos,B.hs,_,_,_,rfl,rfl,SqL.of S.hs,hi,noX (noX (noX (noX (noX (U6 ?_ ex) ex) ex) ex) ex) ex⟩
    exact⟨_,rfl,_,rfl,x,_,_,_,rfl,rfl,SqT.of ex,rfl,_,rfl,x,_,_,_,rfl,rfl,SqT.of ex,rfl,_,rfl,x,_,_,_,rfl,rfl,SqT.of ex,rfl,k⟩
  | clean h =>
    obtain⟨q,G,i,k⟩:=k
    have hi:=i.atI
    rw[←InB.mod i] at hi
    obtain⟨dx1,hq⟩:=(i.at S).ob
    refine⟨_,rfl,d,_,rfl,Bi S.ob,_,rfl,x,_,_,_,rfl,rfl,SqT.of ex,rfl,_,rfl,d,_,rfl,Bi S.ob,B.hs,_,rfl,.inl (SqL.of S.hs),_,_,rfl,rfl,lpos,B.hs,_,_,_,rfl,rfl,SqL.of S.hs,hi,noX (noX (noX (noX (noX (noX (U6 ?_ ex) ex) ex) ex) ex) ex) ex⟩
    exact⟨_,rfl,_,rfl,x,_,_,_,rfl,rfl,SqT.of ex,rfl,_,rfl,q,dx1,_,rfl,hq,Bk G (by decide +kernel),k⟩
  | deliver n =>
    obtain⟨l1,l2,t,el,k⟩:=k
    obtain⟨q0,hi⟩:=any n
    refine⟨_,rfl,d,_,rfl,Bi S.ob,_,rfl,x,_,_,_,rfl,rfl,SqT.of ex,rfl,_,rfl,d,_,rfl,Bi S.ob,B.hs,_,rfl,.inl (SqL.of S.hs),_,_,rfl,rfl,lpos,B.hs,_,_,_,rfl,rfl,SqL.of S.hs,hi,noX (noX (noX (noX (noX (noX (noX ?_ ex) ex) ex) ex) ex) ex) ex⟩
    have hd:=S.pd
    have up:=S.up
    have nd:=Jek up
    rw[el] at hd nd up
    have ev:Cw (kvsOf (l1++(n,t)::l2)) (Sum.inl n:Key)=some (.ref t):=by rw[Gq,Na nd];rfl
    refine⟨_,rfl,_,rfl,d,_,rfl,Fm S.ob,B.pd,rfl,.inl ⟨_,.inl hd⟩,_,rfl,x,_,_,_,rfl,rfl,SqT.of ex,rfl,_,Sum.inl n,_,hd,rfl,ev,?_⟩
    rw[Us nd]
    obtain⟨⟨a1,a2⟩,a3⟩:=S.tops
    refine k _ (S.posted (c:=B.c) (ls:=l1++l2) (fun l hl=>S.le l ?_) (Jev up) (by rw[Ad a2];exact S.ob) Ab fun b o e h1 h2=>by rw[Ad h2];exact e).1 fun b o e hb=>by rw[Ad hb];exact e
    rw[el]
    rcases ZI hl with hl|hl
    ·exact ZB _ hl
    ·exact ZC _ (ZD _ hl)
end
end K42
namespace FX
open PySem PySem.Spec PyProof.Rows L2
section
variable {X:Cx}{pins:List (Addr×Obj)}{σ:L2.St}{H:Hp}{s:Shared}
def Jh8(K:W.Frag):R2:=fun x y H Q=>∃d e,RepS K H x d∧RepS K H y e∧Okd d∧Okd e∧Q (.bl (!PyData.eqv d e)) H
theorem Jfh(hu:X.A.units+64<cLine):OpR X (compareOp .NotEq) (Jh8 X.K):=by
 intro pins s σ H x y v u Q I rx ry h
 obtain⟨d,e,r1,r2,o1,o2,q⟩:=h
 obtain⟨as,g1⟩:=r1.reads I rx
 obtain⟨bs,g2⟩:=r2.reads I ry
 exact PySem.SeqAt.compareNe_reads g1 g2 o1.1 o2.1 (by have:=o1.2;omega) ⟨.bl _,H,I,rfl,q⟩
end
end FX
namespace K42
open PySem L2 FX
inductive An where
 | th (t:T2)
 | no
 | num (i:Int)
 | nums (l:List Int)
def AnV(H:Hp)(v:V):An→Prop
 | .th t=>∃a,v=.ref a∧H a=some (.tup (tv t))
 | .no=>v=.non
 | .num i=>v=.int i
 | .nums l=>∃a,v=.ref a∧H a=some (.lst (l.map V.int))
def anD:An→PyData
 | .th t=>thD t
 | .no=>.none
 | .num i=>.int i
 | .nums l=>.list (l.map PyData.int)
theorem ints_rep{K:W.Frag}{H:Hp}:∀l:List Int,Paired (RepT K H) (l.map V.int) (l.map PyData.int)
 | []=>.nil
 | i::l=>.cons (.int i) (ints_rep l)
theorem AnV.rep{K:W.Frag}{H:Hp}{v:V}{a:An}(h:AnV H v a):Rep K H v (anD a):=by
 cases a with
 | th t=>obtain⟨b,rfl,e⟩:=h;exact .one (Fv e)
 | no=>cases (show v=.non from h);exact .one .non
 | num i=>cases (show v=.int i from h);exact .one (.int i)
 | nums l=>obtain⟨b,rfl,e⟩:=h;exact .lst (SqL.of e) (ints_rep l)
theorem Rk(l:List Int):∀d∈l.map PyData.int,d.canLay0=true∧d.depth≤10:=fun d hd=>by
 obtain⟨i,_,rfl⟩:=ZN hd
 exact⟨by simp[PyData.canLay0],by simp[PyData.depth]⟩
theorem Jf6(a:An):(anD a).canLay0=true∧(anD a).depth≤20:=by
 cases a with
 | th t=>exact⟨(D3 t).1,Nat.le_trans (D3 t).2 (by decide)⟩
 | no=>exact⟨by simp[anD,PyData.canLay0],by simp[anD,PyData.depth]⟩
 | num i=>exact⟨by simp[anD,PyData.canLay0],by simp[anD,PyData.depth]⟩
 | nums l =>
   have h:=Rk l
   have hA:∀ds:List PyData,(∀d∈ds,d.canLay0=true∧d.depth≤10)→PyData.canLayAll0 ds=true∧PyData.depthAll ds≤10:=fun ds=>by
    induction ds with
    | nil=>intro _;exact⟨by simp[PyData.canLayAll0],by simp[PyData.depthAll]⟩
    | cons d ds ih =>
      intro h
      obtain⟨h1,h2⟩:=ih fun z hz=>h z (ZD _ hz)
      obtain⟨h3,h4⟩:=h d (ZL ..)
      exact⟨by simp[PyData.canLayAll0,h1,h3],by simp only[PyData.depthAll];omega⟩
   obtain⟨h1,h2⟩:=hA _ h
   exact⟨by simp only[anD,PyData.canLay0];exact h1,by simp only[anD,PyData.depth];omega⟩
def N9(r:Str)(a:An):PyData:=.tuple [.str r,anD a]
theorem Wk{r:Str}(hr:r="told"∨r="thin")(a:An):Okd (N9 r a):=E8 fun d hd=>by
 simp only[List.mem_cons,List.not_mem_nil,or_false] at hd
 rcases hd with rfl|rfl
 ·rcases hr with rfl|rfl
  ·exact⟨by simp only[PyData.canLay0];decide +kernel,by simp[PyData.depth]⟩
  ·exact⟨by simp only[PyData.canLay0];decide +kernel,by simp[PyData.depth]⟩
 ·exact Jf6 a
theorem Hw{K:W.Frag}{H:Hp}{x:Addr}{r:Str}{v:V}{a:An}(e:H x=some (.tup [.str r,v]))(h:AnV H v a):RepS K H (.ref x) (N9 r a):=.tup (SqT.of e) (.cons (.one (.str r)) (.cons h.rep .nil))
structure St(CW C CP:Addr)(H:Hp)(p:Addr)(W:WGh)(d:Addr)(B:BGh)(m n:Nat)(ls:List LT):Prop where
 wa:WorldAt CW C CP H p W
 ba:BesAt C H d B
 dj:∀b,b∈Cs p W→b∉C1 d B
 wl:Wl m n W.share W.qs ls
 al:Alike B.qs W.qs
 lw:Paired (LetAt H) W.ls ls
 lb:Paired (LetAt H) B.ls ls
 nm:W.ls.map (·.1)=B.ls.map (·.1)
 c:W.c=B.c
 sh:B.share=W.share
 m1:0<m
section
variable {CW C CP p d:Addr}{H H1 H2:Hp}{W W':WGh}{B B':BGh}{m n:Nat}{ls ls':List LT}
theorem St.same(x:St CW C CP H p W d B m n ls)(s:Bp H H1):St CW C CP H1 p W d B m n ls:=⟨x.wa.same s,x.ba.same s,x.dj,x.wl,x.al,A5 x.lw (Ji0 s),A5 x.lb (Ji0 s),x.nm,x.c,x.sh,x.m1⟩
theorem St.mid(x:St CW C CP H p W d B m n ls)(f:WFr p W H H1):BesAt C H1 d B:=x.ba.keep fun b o hb e=>f b o e fun m=>x.dj b m hb
theorem St.fin(x:St CW C CP H p W d B m n ls)(w1:WorldAt CW C CP H1 p W')(f1:WFr p W H H1)(s1:∀b∈Cs p W',b∈Cs p W∨H b=none)(b2:BesAt C H2 d B')(f2:BFr d B H1 H2)(s2:∀b∈C1 d B',b∈C1 d B∨H1 b=none)(wl:Wl m (n+1) W'.share W'.qs ls')(al:Alike B'.qs W'.qs)(lw:Paired (LetAt H1) W'.ls ls')(lb:Paired (LetAt H2) B'.ls ls')(nm:W'.ls.map (·.1)=B'.ls.map (·.1))(c:W'.c=B'.c)(sh:B'.share=W'.share):St CW C CP H2 p W' d B' m (n+1) ls':=by
 have dj1:∀b,b∈Cs p W'→b∉C1 d B:=fun b hb hd=>by
  rcases s1 b hb with h|h
  ·exact x.dj b h hd
  ·exact x.ba.none_no h hd
 refine⟨w1.keep fun b o hb e=>f2 b o e (dj1 b hb),b2,fun b hb hd=>?_,wl,al,A5 lw (BFr.keepT (x.mid f1) f2),lb,nm,c,sh,x.m1⟩
 rcases s2 b hd with h|h
 ·exact dj1 b hb h
 ·exact w1.none_no h hb
theorem Zm{i:Nat}{q:Addr}{G G':HGh}{c:Int}{Ls:List (Int×Addr)}(hi:W.qs[i]?=some (q,G))(nw:∀b∈foot G',b∈foot G∨H b=none):∀b∈Cs p { W with qs:=W.qs.set i (q,G'),c:=c,ls:=Ls },b∈Cs p W∨H b=none:=fun b hb=>by
 rcases ZI hb with hb|hb
 ·exact .inl (ZB _ hb)
 ·obtain⟨z,hz,hm⟩:=mem_hfoot.mp hb
  have hz:z∈W.qs.set i (q,G'):=hz
  rcases List.mem_or_eq_of_mem_set hz with hz|rfl
  ·exact .inl (ZC _ (mem_hfoot.mpr ⟨z,hz,hm⟩))
  ·have mq:=ZP hi
   rcases hm with hm|hm
   ·exact .inl (ZC _ (mem_hfoot.mpr ⟨(q,G),mq,.inl hm⟩))
   ·rcases nw b hm with h|h
    ·exact .inl (ZC _ (mem_hfoot.mpr ⟨(q,G),mq,.inr h⟩))
    ·exact .inr h
theorem Uz{i:Nat}{q:Addr}{G G':HGh}{c:Int}{Ls:List (Int×Addr)}(hi:B.qs[i]?=some (q,G))(nw:∀b∈foot G',b∈foot G∨H b=none):∀b∈C1 d { B with qs:=B.qs.set i (q,G'),c:=c,ls:=Ls },b∈C1 d B∨H b=none:=fun b hb=>by
 rcases ZI hb with hb|hb
 ·exact .inl (ZB _ hb)
 ·obtain⟨z,hz,hm⟩:=mem_hfoot.mp hb
  have hz:z∈B.qs.set i (q,G'):=hz
  rcases List.mem_or_eq_of_mem_set hz with hz|rfl
  ·exact .inl (ZC _ (mem_hfoot.mpr ⟨z,hz,hm⟩))
  ·have mq:=ZP hi
   rcases hm with hm|hm
   ·exact .inl (ZC _ (mem_hfoot.mpr ⟨(q,G),mq,.inl hm⟩))
   ·rcases nw b hm with h|h
    ·exact .inl (ZC _ (mem_hfoot.mpr ⟨(q,G),mq,.inr h⟩))
    ·exact .inr h
theorem Ji4(x:BesAt C H d B)(pos:0<B.qs.length){a:Addr}{l:List Int}(e:H a=some (.lst (l.map V.int))):a≠B.hs:=fun z=>by
 rw[z,x.hs] at e
 have e:B.qs.map (fun q=>V.ref q.1)=l.map V.int:=HO.lst.inj (ZO e)
 cases hq:B.qs with
 | nil=>rw[hq] at pos;simp at pos
 | cons q r =>
   rw[hq] at e
   cases l with
   | nil=>simp at e
   | cons i l=>simp at e
end
def Jcc(p:Addr)(W:WGh)(H:Hp)(v:V):An→Prop
 | .nums _=>∃b,v=.ref b∧b≠W.hs∧N7 p W H b
 | _=>True
def After(CW C CP p d:Addr)(W:WGh)(B:BGh)(m n:Nat)(H2:Hp)(a:An)(Q2:VK):Prop:=∀(v2:V)(W':WGh)(B':BGh)(ls':List LT)(H3:Hp),AnV H3 v2 a→BFr d B H2 H3→W'.hs=W.hs→B'.hs=B.hs→St CW C CP H3 p W' d B' m (n+1) ls'→Q2 v2 H3
def KT(CW C CP NHd NNr MI NW p d:Addr)(W:WGh)(B:BGh)(m n:Nat)(H:Hp)(dd:Dd)(Q:VK):Prop:=∀(v1:V)(a1:An)(H1:Hp),AnV H1 v1 a1→Jcc p W H v1 a1→WFr p W H H1→BesAt C H1 d B →
 (∀(H2:Hp)(Q2:VK)(E2:XK),Bp H1 H2→After CW C CP p d W B m n H2 a1 Q2→ByS C NHd NNr MI NW d B H2 Q2 E2 dd)→Q v1 H1
def KE(C NHd NNr MI NW d:Addr)(B:BGh)(H:Hp)(dd:Dd)(E:XK):Prop:=(∀(H2:Hp)(Q2:VK)(E2:XK),Bp H H2→(∀H3,Bp H2 H3→E2 (.ref NW) none H3)→ByS C NHd NNr MI NW d B H2 Q2 E2 dd)→E (.ref NW) none H
section
variable {CW C CP NH NL NHd NNr MI NW p d:Addr}{H H1 H2 H3:Hp}{W W':WGh}{B B':BGh}{m n:Nat}{ls ls':List LT}{Q:VK}{E:XK}{h:Int}{q r:Addr}{G G' M M':HGh}
theorem St.next(x:St CW C CP H p W d B m n ls){j:Nat}{cw cb:Int}{Ls Lb:List (Int×Addr)}(i:W.qs[j]?=some (q,G))(iB:B.qs[j]?=some (r,M))(W1:WorldAt CW C CP H1 p { W with qs:=W.qs.set j (q,G'),c:=cw,ls:=Ls })(wf1:WFr p W H H1)(nw1:∀b∈foot G',b∈foot G∨H b=none)(s:Bp H1 H2)(B3:BesAt C H3 d { B with qs:=B.qs.set j (r,M'),c:=cb,ls:=Lb })(bf3:BFr d B H2 H3)(nw3:∀b∈foot M',b∈foot M∨H2 b=none)(wl:Wl m (n+1) W.share (W.qs.set j (q,G')) ls')(lk:Like M' G')(lw:Paired (LetAt H1) Ls ls')(lb:Paired (LetAt H3) Lb ls')(nm:Ls.map (·.1)=Lb.map (·.1))(c:cw=cb) :
 St CW C CP H3 p { W with qs:=W.qs.set j (q,G'),c:=cw,ls:=Ls } d { B with qs:=B.qs.set j (r,M'),c:=cb,ls:=Lb } m (n+1) ls' :=
 x.fin (W1.same s) (fun b o e hb=>s _ _ (wf1 b o e hb)) (Zm i nw1) B3 bf3 (Uz iB nw3) wl (Pg x.al lk) (A5 lw (Ji0 s)) lb nm c x.sh
theorem St.keepB(x:St CW C CP H p W d B m n ls)(wf1:WFr p W H H1)(s:Bp H1 H2)(bf3:BFr d B H2 H3):KeepT H H3:=((WFr.keepT x.wa wf1).trans (Ji0 s)).trans (BFr.keepT ((x.mid wf1).same s) bf3)
theorem St.house(x:St CW C CP H p W d B m n ls){j:Nat}(i:W.qs[j]?=some (q,G))(iB:B.qs[j]?=some (r,M))(W1:WorldAt CW C CP H1 p { W with qs:=W.qs.set j (q,G') })(wf1:WFr p W H H1)(nw1:∀b∈foot G',b∈foot G∨H b=none)(s:Bp H1 H2)(B3:BesAt C H3 d { B with qs:=B.qs.set j (r,M') })(bf3:BFr d B H2 H3)(nw3:∀b∈foot M',b∈foot M∨H2 b=none)(wl:Wl m (n+1) W.share (W.qs.set j (q,G')) ls)(lk:Like M' G') :
 St CW C CP H3 p { W with qs:=W.qs.set j (q,G') } d { B with qs:=B.qs.set j (r,M') } m (n+1) ls :=
 x.next i iB W1 wf1 nw1 s B3 bf3 nw3 wl lk (A5 x.lw (WFr.keepT x.wa wf1)) (A5 x.lb (x.keepB wf1 s bf3)) x.nm x.c
theorem Xz{a:Addr}(ha:H a=none):∀b∈foot (tk1 (mkG G a)),b∈foot G∨H b=none:=fun b hb=>by
 rw[Jbw] at hb
 rcases ZI hb with hb|hb
 ·exact .inl hb
 ·rw[ZK hb];exact .inr ha
theorem Jd5(x:St CW C CP H p W d B m n ls)(hn:n<60)(i:InW W h q G)(k:KT CW C CP NHd NNr MI NW p d W B m n H (.make h) Q):DoS CW C CP NH NL NHd NNr MI NW p H Q E (.make h):=by
 obtain⟨s,nu⟩:=x.wl.sd _ q G i.2
 obtain⟨r,M,eB,lk⟩:=C7 x.al i.2
 have iB:InB B h r M:=⟨i.1,eB⟩
 have okM:=lk.ok s.ok
 have z1:=s.ok.hz
 have z2:=s.ok.oz
 have z3:=s.ok.lens
 have y1:=okM.hz
 have y2:=okM.oz
 have y3:=okM.lens
 refine⟨p,h,W,rfl,x.wa,.inr ⟨q,G,i,q,G,rfl,i.at x.wa,by lia,by lia,by lia,s.ok.fresh.1,s.ok.fresh.2.1,s.ok.fresh.2.2,fun t a H1 ht ha et S1 fr1=>?_⟩⟩
 have nw1:=Xz (G:=G) ha
 obtain⟨W1,wf1⟩:=x.wa.step i.2 (G':=tk1 (mkG G a)) S1 fr1 nw1
 refine k (.ref t) (.th (G.num,G.made)) H1 ⟨t,rfl,et⟩ trivial wf1 (x.mid wf1) fun H2 Q2 E2 s2 k2=>?_
 have B2:=(x.mid wf1).same s2
 refine⟨r,M,iB,r,M,rfl,iB.at B2,by lia,by lia,by lia,okM.fresh.1,okM.fresh.2.1,okM.fresh.2.2,fun t2 a2 H3 ht2 ha2 et2 S3 fr3=>?_⟩
 have nw3:=Xz (G:=M) ha2
 obtain⟨B3,bf3⟩:=B2.step iB.2 (G':=tk1 (mkG M a2)) S3 fr3 nw3
 exact k2 (.ref t2) _ _ ls H3 ⟨t2,rfl,by rw[←lk.num,←lk.made];exact et2⟩ bf3 (by rfl) (by rfl) (x.house i.2 iB.2 W1 wf1 nw1 s2 B3 bf3 nw3 (x.wl.make i.2 hn a) (lk.mk2 a2 a))
theorem Gr(ta:T2)(l:List T2):foot { G with ticks:=G.ticks+1,holds:=setH G.holds ta l }=foot G:=by
 unfold foot
 show G.h::G.o::G.l::G.r::(setH G.holds ta l).map (·.2.1)=_
 rw[Z7]
theorem Jdw(ok:Ok G n):(G.holds.map (·.1)).Nodup:=by rw[ok.ke];exact ok.on
theorem Jd6(x:St CW C CP H p W d B m n ls)(hn:n<60)(i:InW W h q G){a b:Addr}{ta tb:T2}(ea:H a=some (.tup (tv ta)))(eb:H b=some (.tup (tv tb)))(ha:ta∈G.hand)(hb:tb∈G.hand)(hh:ta.1=G.num)(k:KT CW C CP NHd NNr MI NW p d W B m n H (.three "hold" h a b) Q):DoS CW C CP NH NL NHd NNr MI NW p H Q E (.three "hold" h a b):=by
 obtain⟨s,nu⟩:=x.wl.sd _ q G i.2
 obtain⟨r,M,eB,lk⟩:=C7 x.al i.2
 have iB:InB B h r M:=⟨i.1,eB⟩
 have okM:=lk.ok s.ok
 obtain⟨ad,fd⟩:=s.ok.find ha hh
 have z1:=(s.ok.get ta).2.1
 have haM:ta∈M.hand:=by rw[lk.hand];exact ha
 have hbM:tb∈M.hand:=by rw[lk.hand];exact hb
 have hhM:ta.1=M.num:=by rw[lk.num];exact hh
 obtain⟨aM,fM⟩:=okM.find haM hhM
 have y1:=(okM.get ta).2.1
 refine .inl ⟨rfl,p,h,_,_,W,rfl,x.wa,.inr ⟨q,G,i,q,a,b,G,ta,tb,rfl,i.at x.wa,ea,eb,.inr (.inr ⟨ha,hb,hh,ad,_,fd,by lia,fun H1 S1 fr1=>?_⟩)⟩⟩
 rw[Ge (Lm (i.at x.wa).nd) (Jdw s.ok) fd] at S1
 have nw1:∀b∈foot (Ks G ta tb),b∈foot G∨H b=none:=fun b hb=>.inl (by rw[←Gr (G:=G) ta (Bo (getH G.holds ta) tb)];exact hb)
 obtain⟨W1,wf1⟩:=x.wa.step i.2 (G':=Ks G ta tb) S1 fr1 nw1
 refine k .non .no H1 rfl trivial wf1 (x.mid wf1) fun H2 Q2 E2 s2 k2=>?_
 have B2:=(x.mid wf1).same s2
 have kt2:=(WFr.keepT x.wa wf1).trans (Ji0 s2)
 refine⟨r,M,iB,.inl ⟨rfl,r,a,b,M,ta,tb,rfl,iB.at B2,kt2.tup _ _ ea,kt2.tup _ _ eb,.inr (.inr ⟨haM,hbM,hhM,aM,_,fM,by lia,fun H3 S3 fr3=>?_⟩)⟩⟩
 rw[Ge (Lm (iB.at B2).nd) (Jdw okM) fM] at S3
 have nw3:∀b∈foot (Ks M ta tb),b∈foot M∨H2 b=none:=fun b hb=>.inl (by rw[←Gr (G:=M) ta (Bo (getH M.holds ta) tb)];exact hb)
 obtain⟨B3,bf3⟩:=B2.step iB.2 (G':=Ks M ta tb) S3 fr3 nw3
 exact k2 .non _ _ ls H3 rfl bf3 (by rfl) (by rfl) (x.house i.2 iB.2 W1 wf1 nw1 s2 B3 bf3 nw3 (x.wl.same i.2 (s.hold hb) rfl rfl rfl) (lk.hold ta tb))
theorem Jd8(x:St CW C CP H p W d B m n ls)(hn:n<60)(i:InW W h q G){a b:Addr}{ta tb:T2}(ea:H a=some (.tup (tv ta)))(eb:H b=some (.tup (tv tb)))(ha:ta∈G.hand)(hb:tb∈getH G.holds ta)(hh:ta.1=G.num)(k:KT CW C CP NHd NNr MI NW p d W B m n H (.three "drop" h a b) Q):DoS CW C CP NH NL NHd NNr MI NW p H Q E (.three "drop" h a b):=by
 obtain⟨s,nu⟩:=x.wl.sd _ q G i.2
 obtain⟨r,M,eB,lk⟩:=C7 x.al i.2
 have iB:InB B h r M:=⟨i.1,eB⟩
 have okM:=lk.ok s.ok
 obtain⟨ad,fd⟩:=s.ok.find ha hh
 have haM:ta∈M.hand:=by rw[lk.hand];exact ha
 have hbM:tb∈getH M.holds ta:=by rw[lk.getH];exact hb
 have hhM:ta.1=M.num:=by rw[lk.num];exact hh
 obtain⟨aM,fM⟩:=okM.find haM hhM
 refine .inr (.inl ⟨rfl,p,h,_,_,W,rfl,x.wa,.inr ⟨q,G,i,q,a,b,G,ta,tb,rfl,i.at x.wa,ea,eb,.inr (.inr ⟨ha,hh,ad,_,fd,.inr ⟨hb,fun H1 S1 fr1=>?_⟩⟩)⟩⟩)
 rw[Ge (Lm (i.at x.wa).nd) (Jdw s.ok) fd] at S1
 have nw1:∀b∈foot (Kt G ta tb),b∈foot G∨H b=none:=fun b hb=>.inl (by rw[←Gr (G:=G) ta (El (getH G.holds ta) tb)];exact hb)
 obtain⟨W1,wf1⟩:=x.wa.step i.2 (G':=Kt G ta tb) S1 fr1 nw1
 refine k .non .no H1 rfl trivial wf1 (x.mid wf1) fun H2 Q2 E2 s2 k2=>?_
 have B2:=(x.mid wf1).same s2
 have kt2:=(WFr.keepT x.wa wf1).trans (Ji0 s2)
 refine⟨r,M,iB,.inr (.inl ⟨rfl,r,a,b,M,ta,tb,rfl,iB.at B2,kt2.tup _ _ ea,kt2.tup _ _ eb,.inr (.inr ⟨haM,hhM,aM,_,fM,.inr ⟨hbM,fun H3 S3 fr3=>?_⟩⟩)⟩)⟩
 rw[Ge (Lm (iB.at B2).nd) (Jdw okM) fM] at S3
 have nw3:∀b∈foot (Kt M ta tb),b∈foot M∨H2 b=none:=fun b hb=>.inl (by rw[←Gr (G:=M) ta (El (getH M.holds ta) tb)];exact hb)
 obtain⟨B3,bf3⟩:=B2.step iB.2 (G':=Kt M ta tb) S3 fr3 nw3
 exact k2 .non _ _ ls H3 rfl bf3 (by rfl) (by rfl) (x.house i.2 iB.2 W1 wf1 nw1 s2 B3 bf3 nw3 (x.wl.same i.2 (s.drop ta tb) rfl rfl rfl) (lk.drop ta tb))
theorem Jd3(x:St CW C CP H p W d B m n ls)(hn:n<60)(i:InW W h q G){a b:Addr}{ta tb:T2}(ea:H a=some (.tup (tv ta)))(eb:H b=some (.tup (tv tb)))(ha:ta∈G.hand)(hb:tb∈getH G.holds ta)(hh:ta.1=G.num)(k:KT CW C CP NHd NNr MI NW p d W B m n H (.three "take" h a b) Q):DoS CW C CP NH NL NHd NNr MI NW p H Q E (.three "take" h a b):=by
 obtain⟨s,nu⟩:=x.wl.sd _ q G i.2
 obtain⟨r,M,eB,lk⟩:=C7 x.al i.2
 have iB:InB B h r M:=⟨i.1,eB⟩
 have okM:=lk.ok s.ok
 obtain⟨ad,fd⟩:=s.ok.find ha hh
 have z1:=s.ok.hz
 have y1:=okM.hz
 have haM:ta∈M.hand:=by rw[lk.hand];exact ha
 have hbM:tb∈getH M.holds ta:=by rw[lk.getH];exact hb
 have hhM:ta.1=M.num:=by rw[lk.num];exact hh
 obtain⟨aM,fM⟩:=okM.find haM hhM
 refine .inr (.inr ⟨rfl,p,h,_,_,W,rfl,x.wa,.inr ⟨q,G,i,q,a,b,G,ta,tb,rfl,i.at x.wa,ea,eb,by lia,.inr (.inr ⟨ha,hh,ad,_,fd,.inr ⟨hb,fun H1 S1 fr1=>?_⟩⟩)⟩⟩)
 have nw1:∀b∈foot (Nd G tb),b∈foot G∨H b=none:=fun b hb=>.inl hb
 obtain⟨W1,wf1⟩:=x.wa.step i.2 (G':=Nd G tb) S1 fr1 nw1
 refine k .non .no H1 rfl trivial wf1 (x.mid wf1) fun H2 Q2 E2 s2 k2=>?_
 have B2:=(x.mid wf1).same s2
 have kt2:=(WFr.keepT x.wa wf1).trans (Ji0 s2)
 refine⟨r,M,iB,.inr (.inr ⟨rfl,r,a,b,M,ta,tb,rfl,iB.at B2,kt2.tup _ _ ea,kt2.tup _ _ eb,by lia,.inr (.inr ⟨haM,hhM,aM,_,fM,.inr ⟨hbM,fun H3 S3 fr3=>?_⟩⟩)⟩)⟩
 have nw3:∀b∈foot (Nd M tb),b∈foot M∨H2 b=none:=fun b hb=>.inl hb
 obtain⟨B3,bf3⟩:=B2.step iB.2 (G':=Nd M tb) S3 fr3 nw3
 exact k2 .non _ _ ls H3 rfl bf3 (by rfl) (by rfl) (x.house i.2 iB.2 W1 wf1 nw1 s2 B3 bf3 nw3 (x.wl.same i.2 (s.take hb) rfl rfl rfl) (lk.take tb))
theorem Jd7(x:St CW C CP H p W d B m n ls)(hn:n<60)(i:InW W h q G){b:Addr}{tb:T2}(eb:H b=some (.tup (tv tb)))(hb:tb∈G.hand)(k:KT CW C CP NHd NNr MI NW p d W B m n H (.free h b) Q):DoS CW C CP NH NL NHd NNr MI NW p H Q E (.free h b):=by
 obtain⟨s,nu⟩:=x.wl.sd _ q G i.2
 obtain⟨r,M,eB,lk⟩:=C7 x.al i.2
 have iB:InB B h r M:=⟨i.1,eB⟩
 have hbM:tb∈M.hand:=by rw[lk.hand];exact hb
 refine⟨p,h,_,W,rfl,x.wa,.inr ⟨q,G,i,q,b,G,tb,rfl,i.at x.wa,eb,.inr ⟨hb,fun H1 S1 fr1=>?_⟩⟩⟩
 have nw1:∀b∈foot (Nf G tb),b∈foot G∨H b=none:=fun b hb=>.inl hb
 obtain⟨W1,wf1⟩:=x.wa.step i.2 (G':=Nf G tb) S1 fr1 nw1
 refine k .non .no H1 rfl trivial wf1 (x.mid wf1) fun H2 Q2 E2 s2 k2=>?_
 have B2:=(x.mid wf1).same s2
 have kt2:=(WFr.keepT x.wa wf1).trans (Ji0 s2)
 refine⟨r,M,iB,r,b,M,tb,rfl,iB.at B2,kt2.tup _ _ eb,.inr ⟨hbM,fun H3 S3 fr3=>?_⟩⟩
 have nw3:∀b∈foot (Nf M tb),b∈foot M∨H2 b=none:=fun b hb=>.inl hb
 obtain⟨B3,bf3⟩:=B2.step iB.2 (G':=Nf M tb) S3 fr3 nw3
 exact k2 .non _ _ ls H3 rfl bf3 (by rfl) (by rfl) (x.house i.2 iB.2 W1 wf1 nw1 s2 B3 bf3 nw3 (x.wl.same i.2 (s.free tb) rfl rfl rfl) (lk.free tb))
end
theorem Cq{α β:Type}{R:α→β→Prop}:∀{as:List α} {bs:List β} {cs:List α} {ds:List β},Paired R as bs→Paired R cs ds→Paired R (as++cs) (bs++ds)
 | _,_,_,_,.nil,k=>k
 | _,_,_,_,.cons h t,k=>.cons h (Cq t k)
theorem F1{α β γ:Type}{f:β→γ}{R:α→γ→Prop}:∀{l:List α} {m:List β},Paired (fun a b=>R a (f b)) l m→Paired R l (m.map f)
 | _,_,.nil=>.nil
 | _,_,.cons h t=>.cons h (F1 t)
theorem Gu{l:List (T2×Int)}{t:T2}(h:t∈l.map (·.1)):l.find? (fun q=>decide (q.1=t))=some (t,Ai l t):=by
 unfold Ai
 cases e:l.find? fun q=>decide (q.1=t) with
 | none =>
   obtain⟨q,hq,e2⟩:=ZN h
   have:=List.find?_eq_none.mp e q hq
   simp[e2] at this
 | some q =>
   have:=List.find?_some e
   have:q.1=t:=of_decide_eq_true this
   rw[←this];rfl
section
variable {CW C CP NH NL NHd NNr MI NW p d:Addr}{H H1 H2 H3:Hp}{W W':WGh}{B B':BGh}{m n:Nat}{ls ls':List LT}{Q:VK}{E:XK}{h:Int}{q r:Addr}{G G' M M':HGh}
theorem St.lenW(x:St CW C CP H p W d B m n ls):W.ls.length≤n:=by have:=Paired.length x.lw;have:=x.wl.cnt;lia
theorem St.lenB(x:St CW C CP H p W d B m n ls):B.ls.length≤n:=by have:=Paired.length x.lb;have:=x.wl.cnt;lia
theorem St.snoc(x:St CW C CP H p W d B m n ls)(t t3:Addr):(W.ls++[(W.c+1,t)]).map (·.1)=(B.ls++[(B.c+1,t3)]).map (·.1):=by rw[ZF,ZF,x.nm,x.c];rfl
theorem Jd4(x:St CW C CP H p W d B m n ls)(hn:n<60)(i:InW W h q G){g:Int}(g0:0≤g)(g1:g<m){b:Addr}{tb:T2}(eb:H b=some (.tup (tv tb)))(hb:tb∈G.hand)(k:KT CW C CP NHd NNr MI NW p d W B m n H (.send h g b) Q)(kE:KE C NHd NNr MI NW d B H (.send h g b) E):DoS CW C CP NH NL NHd NNr MI NW p H Q E (.send h g b):=by
 obtain⟨s,nu⟩:=x.wl.sd _ q G i.2
 obtain⟨r,M,eB,lk⟩:=C7 x.al i.2
 have iB:InB B h r M:=⟨i.1,eB⟩
 have okM:=lk.ok s.ok
 have z1:=s.ok.oz
 have z2:=s.ok.rz
 have z3:=x.lenW
 have z4:=x.lenB
 have hN:((h.toNat:Nat):Int)=h:=Int.toNat_of_nonneg i.1
 have hbM:tb∈M.hand:=by rw[lk.hand];exact hb
 have numM:M.num=h:=by rw[lk.num,nu];exact hN
 obtain⟨gd⟩:Nonempty (PLift (Good M)):=⟨⟨(x.wl.like x.al).good (by lia) eB⟩⟩
 have gd:=gd.down
 have ig:∃q2 G2,InW W g q2 G2:=by
  obtain⟨y,hy⟩:=A1 (xs:=W.qs) (j:=g.toNat) (by rw[x.wl.len];lia)
  exact⟨y.1,y.2,g0,hy⟩
 refine⟨p,b,h,g,W,tb,q,G,rfl,x.wa,eb,i,ig,by lia,by lia,by lia,?_⟩
 have nw1:∀b∈foot G,b∈foot G∨H b=none:=fun b hb=>.inl hb
 by_cases near:tb.1=G.num
 ·have ho:=s.ok.hk tb hb near
  refine .inr (.inl ⟨hb,near,_,Gu ho,List.find?_eq_none.mpr fun z hz=>?_,fun t H1 W1 l1 wf1=>?_⟩)
  ·have:=s.ok.rk z.1 (List.mem_map.mpr ⟨z,hz,rfl⟩)
   have:¬z.1=tb:=fun e=>this (by rw[e];exact near)
   simpa using this
  refine k (.int (W.c+1)) (.num (W.c+1)) H1 rfl trivial wf1 (x.mid wf1) fun H2 Q2 E2 s2 k2=>?_
  have B2:=(x.mid wf1).same s2
  have kt2:=(WFr.keepT x.wa wf1).trans (Ji0 s2)
  refine⟨d,b,h,g,B,tb,r,M,rfl,B2,kt2.tup _ _ eb,iB,gd,numM,hbM,by lia,.inl ⟨by rw[lk.num];exact near,Ai G.outs tb,by rw[lk.outs];exact Gu ho,fun t3 H3 B3 l3 bf3=>?_⟩⟩
  rw[x.sh] at l3
  have wl:=x.wl.sendNear i.2 hb near g0 g1
  rw[hN] at wl
  exact k2 (.int (B.c+1)) _ _ _ H3 (by rw[x.c];rfl) bf3 (by rfl) (by rfl) (x.next (G':=Ur G tb (Ai G.outs tb+W.share)) (M':=Ur M tb (Ai G.outs tb+B.share)) i.2 iB.2 W1 wf1 (fun b hb=>.inl hb) s2 B3 bf3 (fun b hb=>.inl hb) wl (by rw[x.sh];exact lk.out tb _) (Bf (A5 x.lw (WFr.keepT x.wa wf1)) l1) (Bf (A5 x.lb (x.keepB wf1 s2 bf3)) l3) (x.snoc t t3) (by rw[x.c]))
 ·have hr:=s.rk tb (.inl hb) near
  have nn:=M9 s.nn tb
  have nearM:tb.1≠M.num:=by rw[lk.num];exact near
  refine .inr (.inr ⟨hb,near,_,Gu hr,?_⟩)
  have fM:M.recs.find? (fun q=>decide (q.1=tb))=some (tb,Ai G.recs tb):=by rw[lk.recs];exact Gu hr
  by_cases w0:Ai G.recs tb=0
  ·refine .inl ⟨w0,kE fun H2 Q2 E2 s2 k2=>?_⟩
   exact⟨d,b,h,g,B,tb,r,M,rfl,x.ba.same s2,s2 _ _ eb,iB,gd,numM,hbM,by lia,.inr ⟨nearM,_,fM,.inl ⟨w0,k2⟩⟩⟩
  ·by_cases w1:Ai G.recs tb=1
   ·refine .inr (.inl ⟨w1,fun t H1 W1 l1 wf1=>?_⟩)
    refine k (.int (W.c+1)) (.num (W.c+1)) H1 rfl trivial wf1 (x.mid wf1) fun H2 Q2 E2 s2 k2=>?_
    have B2:=(x.mid wf1).same s2
    have kt2:=(WFr.keepT x.wa wf1).trans (Ji0 s2)
    refine⟨d,b,h,g,B,tb,r,M,rfl,B2,kt2.tup _ _ eb,iB,gd,numM,hbM,by lia,.inr ⟨nearM,_,fM,.inr (.inl ⟨w1,fun t3 H3 B3 l3 bf3=>?_⟩)⟩⟩
    have wl:=x.wl.sendPass i.2 hb near g0 g1 w1
    rw[hN] at wl
    exact k2 (.int (B.c+1)) _ _ _ H3 (by rw[x.c];rfl) bf3 (by rfl) (by rfl) (x.next (G':=K2 G tb 0) (M':=K2 M tb 0) i.2 iB.2 W1 wf1 (fun b hb=>.inl hb) s2 B3 bf3 (fun b hb=>.inl hb) wl (lk.recd tb _) (Bf (A5 x.lw (WFr.keepT x.wa wf1)) l1) (Bf (A5 x.lb (x.keepB wf1 s2 bf3)) l3) (x.snoc t t3) (by rw[x.c]))
   ·have w2:2≤Ai G.recs tb:=by lia
    refine .inr (.inr ⟨w2,fun t H1 W1 l1 wf1=>?_⟩)
    refine k (.int (W.c+1)) (.num (W.c+1)) H1 rfl trivial wf1 (x.mid wf1) fun H2 Q2 E2 s2 k2=>?_
    have B2:=(x.mid wf1).same s2
    have kt2:=(WFr.keepT x.wa wf1).trans (Ji0 s2)
    refine⟨d,b,h,g,B,tb,r,M,rfl,B2,kt2.tup _ _ eb,iB,gd,numM,hbM,by lia,.inr ⟨nearM,_,fM,.inr (.inr ⟨w2,fun t3 H3 B3 l3 bf3=>?_⟩)⟩⟩
    have wl:=x.wl.sendFar i.2 hb near g0 g1 w2
    rw[hN] at wl
    exact k2 (.int (B.c+1)) _ _ _ H3 (by rw[x.c];rfl) bf3 (by rfl) (by rfl) (x.next (G':=K2 G tb (Ai G.recs tb-Ai G.recs tb / 2)) (M':=K2 M tb (Ai G.recs tb-Ai G.recs tb / 2)) i.2 iB.2 W1 wf1 (fun b hb=>.inl hb) s2 B3 bf3 (fun b hb=>.inl hb) wl (lk.recd tb _) (Bf (A5 x.lw (WFr.keepT x.wa wf1)) l1) (Bf (A5 x.lb (x.keepB wf1 s2 bf3)) l3) (x.snoc t t3) (by rw[x.c]))
theorem Jb0(x:St CW C CP H p W d B m n ls)(hn:n<60)(i:InW W h q G)(k:KT CW C CP NHd NNr MI NW p d W B m n H (.clean h) Q):DoS CW C CP NH NL NHd NNr MI NW p H Q E (.clean h):=by
 obtain⟨s,nu⟩:=x.wl.sd _ q G i.2
 obtain⟨r,M,eB,lk⟩:=C7 x.al i.2
 have iB:InB B h r M:=⟨i.1,eB⟩
 have okM:=lk.ok s.ok
 have sM:=lk.sd s
 have z3:=x.lenW
 have z4:=x.lenB
 have hN:((h.toNat:Nat):Int)=h:=Int.toNat_of_nonneg i.1
 obtain⟨hs,os,rs,tld⟩:=(x.wl.good (by lia) i.2).told
 obtain⟨kk,R,hk,rc⟩:=FX.Rch.ofN s.ok (by lia)
 have rcM:Rch (nxT M.holds) kk (startT M) [] R:=by rw[lk.w.nx,lk.w.start];exact rc
 have zb:(C2 (keepR G R) rs).length≤60:=by
  have h1:(C2 (keepR G R) rs).length≤(rs.filter fun q=>!heldB (keepR G R) q.1).length:=List.length_filter_le _ _
  have h2:=List.length_filter_le (fun q:T2×Int=>!heldB (keepR G R) q.1) rs
  have h3:=tld.pr.length_eq
  have h4:=s.ok.rz
  lia
 refine⟨p,h,W,q,G,n,kk,rs,R,rfl,x.wa,i,s.ok,by lia,fun t ht=>(s.ip t (.inl ht)).1,fun z hz t ht=>(s.ip t (.inr ⟨z,hz,ht⟩)).1,tld.pr,tld.wr,rc,hk,FX.Ok.clean s.ok rc,zb,by lia,fun y L H1 W1 bk wf1 yhs ynw ey=>?_⟩
 refine k (.ref y) (.nums (L.map (·.1))) H1 ⟨y,rfl,by rw[List.map_map];exact ey⟩ ⟨y,rfl,yhs,ynw⟩ wf1 (x.mid wf1) fun H2 Q2 E2 s2 k2=>?_
 have B2:=(x.mid wf1).same s2
 refine⟨r,M,iB,r,M,n,kk,rs,R,rfl,iB.at B2,okM,by lia,fun t ht=>(sM.ip t (.inl ht)).1,fun z hz t ht=>(sM.ip t (.inr ⟨z,hz,ht⟩)).1,by rw[lk.recs];exact tld.pr,tld.wr,rcM,hk,FX.Ok.clean okM rcM,fun x2 as H3 nx ex bk3 S3 fr3=>?_⟩
 have nw3:∀b∈foot (F9 M R),b∈foot M∨H2 b=none:=fun b hb=>.inl (Fl b hb)
 obtain⟨B3,bf3⟩:=B2.step iB.2 (G':=F9 M R) S3 fr3 nw3
 have hsq:=B2.top_house (b:=B.hs) (by simp[Cf]) (ZP iB.2)
 have xhs:x2≠B.hs:=fun z=>nx _ _ B2.hs hsq.1 hsq.2 z.symm
 rw[Wf lk] at bk3
 refine⟨d,x2,h,_,as,_,rfl,B3,ex,xhs,bk3,zb,by show B.ls.length≤400;lia,fun y2 L2 H4 B4 bk4 bf4 yhs2 yn2 ey2=>?_⟩
 have bf:BFr d B H2 H4:=fun b o e hb=>bf4 b o (bf3 b o e hb) fun m=>by
  rcases Uz (c:=B.c) (Ls:=B.ls) iB.2 nw3 b m with h|h
  ·exact hb h
  ·rw[e] at h;cases h
 have wl:=x.wl.clean i.2 rc tld.pr
 rw[hN] at wl
 have nmL:L.map (·.1)=L2.map (·.1):=by
  rw[bk.num,bk4.num]
  show _=(List.range _).map fun(i:Nat)=>B.c+1+(i:Int)
  rw[x.c]
 refine k2 (.ref y2) _ _ _ H4 ⟨y2,rfl,by rw[nmL,List.map_map];exact ey2⟩ bf (by rfl) (by rfl) (x.next (G':=F9 G R) (M':=F9 M R) i.2 iB.2 W1 wf1 (fun b hb=>.inl (Fl b hb)) s2 B4 bf nw3 wl (lk.clean R) (Cq (A5 x.lw (WFr.keepT x.wa wf1)) (F1 bk.let_)) (Cq (A5 x.lb (x.keepB wf1 s2 bf)) (F1 bk4.let_)) ?_ ?_)
 ·rw[ZF,ZF,x.nm,nmL]
 ·show W.c+_=B.c+_
  rw[x.c]
end
theorem Lo{R S:Int×Addr→LT→Prop}{num:Int}{t:Addr}{l2:List (Int×Addr)}:∀{l1 bs:List (Int×Addr)} {ls:List LT},Paired R (l1++(num,t)::l2) ls→Paired S bs ls→(l1++(num,t)::l2).map (·.1)=bs.map (·.1) →
 ∃(a:List LT)(l:LT)(b:List LT)(k1 k2:List (Int×Addr))(t':Addr),ls=a++l::b∧bs=k1++(num,t')::k2∧Paired R l1 a∧R (num,t) l∧Paired R l2 b∧Paired S k1 a∧S (num,t') l∧Paired S k2 b∧l1.map (·.1)=k1.map (·.1)∧l2.map (·.1)=k2.map (·.1)
 | [],_,_,.cons r pr,.cons (a:=y) s ps,e=>by
   have e1:num::l2.map (·.1)=y.1::_:=e
   obtain⟨h1,h2⟩:=List.cons.inj e1
   obtain⟨y1,y2⟩:=y
   have h1:num=y1:=h1
   subst h1
   exact⟨[],_,_,[],_,y2,rfl,rfl,.nil,r,pr,.nil,s,ps,rfl,h2⟩
 | z::l1,_,_,.cons r pr,.cons (a:=y) s ps,e=>by
   have e1:z.1::(l1++(num,t)::l2).map (·.1)=y.1::_:=e
   obtain⟨h1,h2⟩:=List.cons.inj e1
   obtain⟨a,l,b,k1,k2,t',e2,e3,p1,p2,p3,p4,p5,p6,p7,p8⟩:=Lo pr ps h2
   subst e2 e3
   exact⟨_::a,l,b,y::k1,k2,t',rfl,rfl,.cons r p1,p2,p3,.cons s p4,p5,p6,by rw[List.map_cons,List.map_cons,h1,p7],p8⟩
section
variable {CW C CP NH NL NHd NNr MI NW p d:Addr}{H H1 H2 H3:Hp}{W W':WGh}{B B':BGh}{m n:Nat}{ls ls':List LT}{Q:VK}{E:XK}{h:Int}{q r:Addr}{G G' M M':HGh}
theorem Ok.sz(ok:Ok G n)(hn:n<60):Sz G:=by have h1:=ok.hz;have h2:=ok.oz;have h3:=ok.rz;exact⟨by omega,by omega,by omega⟩
theorem Wa(x:St CW C CP H p W d B m n ls)(hn:n<60){num:Int}{l1 l2:List (Int×Addr)}{t:Addr}(el:W.ls=l1++(num,t)::l2)(k:KT CW C CP NHd NNr MI NW p d W B m n H (.deliver num) Q):DoS CW C CP NH NL NHd NNr MI NW p H Q E (.deliver num):=by
 have z3:=x.lenW
 have z4:=x.lenB
 have lw:=x.lw
 have nm:=x.nm
 rw[el] at lw nm
 obtain⟨a,l,b,k1,k2,t',es,eb,p1,p2,p3,p4,p5,p6,p7,p8⟩:=Lo lw x.lb nm
 have hl:l∈ls:=by rw[es];exact ZC _ (ZL ..)
 obtain⟨kind,sn,g,th,xx⟩:=l
 obtain⟨g0,g1,ib,kk⟩:=x.wl.ok _ hl
 have g0:0≤g:=g0
 have g1:g<m:=g1
 obtain⟨⟨q,G⟩,hi⟩:=A1 (xs:=W.qs) (j:=g.toNat) (by rw[x.wl.len];omega)
 have i:InW W g q G:=⟨g0,hi⟩
 obtain⟨s,nu⟩:=x.wl.sd _ q G i.2
 obtain⟨r,M,eB,lk⟩:=C7 x.al i.2
 have iB:InB B g r M:=⟨g0,eB⟩
 have okM:=lk.ok s.ok
 have lenk:(k1++k2).length≤400:=by
  rw[eb,ZE,List.length_cons] at z4
  rw[ZE];omega
 have bfo:∀{H2 H3:Hp},(∀b o,H2 b=some o→b≠B.pd→H3 b=some o)→BFr d B H2 H3:=fun f b o e hb=>f b o e fun z=>hb (ZB _ (by rw[z];simp[Cf]))
 by_cases hp:kind="pass"
 ·subst hp
  have gt:g=th.1:=by
   rcases kk with⟨e,_⟩|⟨e,_⟩|⟨e,_⟩|⟨_,e,_⟩
   ·exact absurd e.symm Cp
   ·exact absurd e.symm Dt
   ·exact absurd e.symm Du
   ·exact e
  subst gt
  obtain⟨mem,wlS,wlO⟩:=x.wl.pass es rfl hi
  have mem:th∈G.outs.map (·.1):=mem
  have memM:th∈M.outs.map (·.1):=by rw[lk.outs];exact mem
  by_cases same:xx=th.1
  ·subst same
   refine⟨p,num,W,rfl,x.wa,.inr ⟨l1,l2,t,num,sn,th.1,th,th.1,q,G,el,i,Ok.sz s.ok hn,.inr ⟨p2,mem,by omega,.inl ⟨rfl,fun y t1 H1 W1 m1 wf1 yhs ynw ey=>?_⟩⟩⟩⟩
   refine k (.ref y) (.nums [W.c+1]) H1 ⟨y,rfl,ey⟩ ⟨y,rfl,yhs,ynw⟩ wf1 (x.mid wf1) fun H2 Q2 E2 s2 k2'=>?_
   have B2:=(x.mid wf1).same s2
   have kt2:=(WFr.keepT x.wa wf1).trans (Ji0 s2)
   refine⟨k1,k2,t',eb,fun H3 B3 f3=>?_⟩
   have bf3:=bfo f3
   have p5':=(p5.keep kt2).keep (BFr.keepT B2 bf3)
   refine⟨d,t',_,num,sn,th.1,th.1,"pass",th,r,M,rfl,B3,iB,Ok.sz okM hn,p5',.inr ⟨rfl,d,t',_,num,sn,th.1,th.1,th,r,M,rfl,B3,p5',iB,Ok.sz okM hn,memM,lenk,.inl ⟨rfl,fun y2 t3 H4 B4 m4 bf4 yhs2 yn2 ey2=>?_⟩⟩⟩
   have bf:BFr d B H2 H4:=fun b o e hb=>bf4 b o (bf3 b o e hb) hb
   have kt4:=x.keepB wf1 s2 bf
   have m4:WLet H4 t3 (B.c+1) "more" th.1 sn th B.share:=m4
   have B4:BesAt C H4 d { B with qs:=B.qs.set th.1.toNat (r,Dx M th B.share true),c:=B.c+1,ls:=k1++k2++[(B.c+1,t3)] }:=B4
   have ey2:H4 y2=some (.lst [.int (B.c+1)]):=ey2
   rw[←x.c] at ey2
   rw[x.sh] at m4
   refine k2' (.ref y2) _ _ _ H4 ⟨y2,rfl,ey2⟩ bf (by rfl) (by rfl) (x.next i.2 iB.2 W1 wf1 (fun b hb=>.inl hb) s2 B4 bf (fun b hb=>.inl hb) (wlS rfl) (by rw[x.sh];exact Like.pass lk th _ _) (Bf (Cq (A5 p1 (WFr.keepT x.wa wf1)) (A5 p3 (WFr.keepT x.wa wf1))) m1) (Bf (Cq (A5 p4 kt4) (A5 p6 kt4)) m4) ?_ (by rw[x.c]))
   rw[ZF,ZF,ZF,ZF,p7,p8,x.c];rfl
  ·refine⟨p,num,W,rfl,x.wa,.inr ⟨l1,l2,t,num,sn,th.1,th,xx,q,G,el,i,Ok.sz s.ok hn,.inr ⟨p2,mem,by omega,.inr ⟨same,fun y t1 t2 H1 W1 m1 m2 wf1 yhs ynw ey=>?_⟩⟩⟩⟩
   refine k (.ref y) (.nums [W.c+1,W.c+1+1]) H1 ⟨y,rfl,ey⟩ ⟨y,rfl,yhs,ynw⟩ wf1 (x.mid wf1) fun H2 Q2 E2 s2 k2'=>?_
   have B2:=(x.mid wf1).same s2
   have kt2:=(WFr.keepT x.wa wf1).trans (Ji0 s2)
   refine⟨k1,k2,t',eb,fun H3 B3 f3=>?_⟩
   have bf3:=bfo f3
   have p5':=(p5.keep kt2).keep (BFr.keepT B2 bf3)
   refine⟨d,t',_,num,sn,th.1,xx,"pass",th,r,M,rfl,B3,iB,Ok.sz okM hn,p5',.inr ⟨rfl,d,t',_,num,sn,th.1,xx,th,r,M,rfl,B3,p5',iB,Ok.sz okM hn,memM,lenk,.inr ⟨same,fun y2 t3 t4 H4 B4 m3 m4 bf4 yhs2 yn2 ey2=>?_⟩⟩⟩
   have bf:BFr d B H2 H4:=fun b o e hb=>bf4 b o (bf3 b o e hb) hb
   have kt4:=x.keepB wf1 s2 bf
   have m3:WLet H4 t3 (B.c+1) "hold" th.1 xx th B.share:=m3
   have m4:WLet H4 t4 (B.c+1+1) "more" th.1 sn th B.share:=m4
   have B4:BesAt C H4 d { B with qs:=B.qs.set th.1.toNat (r,Dx M th B.share false),c:=B.c+1+1,ls:=k1++k2++[(B.c+1,t3)]++[(B.c+1+1,t4)] }:=B4
   have ey2:H4 y2=some (.lst [.int (B.c+1),.int (B.c+1+1)]):=ey2
   rw[←x.c] at ey2
   rw[x.sh] at m3 m4
   refine k2' (.ref y2) _ _ _ H4 ⟨y2,rfl,ey2⟩ bf (by rfl) (by rfl) (x.next i.2 iB.2 W1 wf1 (fun b hb=>.inl hb) s2 B4 bf (fun b hb=>.inl hb) (wlO same) (by rw[x.sh];exact Like.pass lk th _ _) (Bf (Bf (a:=(W.c+1,t1)) (b:=⟨"hold",th.1,xx,th,W.share⟩) (Cq (A5 p1 (WFr.keepT x.wa wf1)) (A5 p3 (WFr.keepT x.wa wf1))) m1) m2) (Bf (Bf (a:=(B.c+1,t3)) (b:=⟨"hold",th.1,xx,th,W.share⟩) (Cq (A5 p4 kt4) (A5 p6 kt4)) m3) m4) ?_ (by rw[x.c]))
   rw[ZF,ZF,ZF,ZF,ZF,ZF,p7,p8,x.c];rfl
 ·obtain⟨G',wt,wl,lkM⟩:=x.wl.wt es hp hi
  obtain⟨M',wtM,lk'⟩:=lkM M lk
  refine⟨p,num,W,rfl,x.wa,.inr ⟨l1,l2,t,num,sn,g,th,xx,q,G,el,i,Ok.sz s.ok hn,.inl ⟨kind,G',p2,wt,fun y H1 W1 wf1 yhs ynw ey=>?_⟩⟩⟩
  refine k (.ref y) (.nums []) H1 ⟨y,rfl,ey⟩ ⟨y,rfl,yhs,ynw⟩ wf1 (x.mid wf1) fun H2 Q2 E2 s2 k2'=>?_
  have B2:=(x.mid wf1).same s2
  have kt2:=(WFr.keepT x.wa wf1).trans (Ji0 s2)
  refine⟨k1,k2,t',eb,fun H3 B3 f3=>?_⟩
  have bf3:=bfo f3
  have p5':=(p5.keep kt2).keep (BFr.keepT B2 bf3)
  refine⟨d,t',_,num,sn,g,xx,kind,th,r,M,rfl,B3,iB,Ok.sz okM hn,p5',.inl ⟨M',wtM,fun y2 H4 B4 bf4 yhs2 yn2 ey2=>?_⟩⟩
  have bf:BFr d B H2 H4:=fun b o e hb=>bf4 b o (bf3 b o e hb) hb
  have kt4:=x.keepB wf1 s2 bf
  refine k2' (.ref y2) _ _ _ H4 ⟨y2,rfl,ey2⟩ bf (by rfl) (by rfl) (x.next i.2 iB.2 W1 wf1 (fun b hb=>.inl (by rw[←wt.foot];exact hb)) s2 B4 bf (fun b hb=>.inl (by rw[←wtM.foot];exact hb)) wl lk' (Cq (A5 p1 (WFr.keepT x.wa wf1)) (A5 p3 (WFr.keepT x.wa wf1))) (Cq (A5 p4 kt4) (A5 p6 kt4)) ?_ x.c)
  rw[ZF,ZF,p7,p8]
def Val(W:WGh)(m:Nat)(H:Hp):Dd→Prop
 | .make h=>∃q G,InW W h q G
 | .three w h a b=>∃q G ta tb,InW W h q G∧H a=some (.tup (tv ta))∧H b=some (.tup (tv tb))∧ta∈G.hand∧ta.1=G.num∧((w="hold"∧tb∈G.hand)∨((w="drop"∨w="take")∧tb∈getH G.holds ta))
 | .free h b=>∃q G tb,InW W h q G∧H b=some (.tup (tv tb))∧tb∈G.hand
 | .send h g b=>∃q G tb,InW W h q G∧0≤g∧g<m∧H b=some (.tup (tv tb))∧tb∈G.hand
 | .clean h=>∃q G,InW W h q G
 | .deliver n=>∃l1 l2 t,W.ls=l1++(n,t)::l2
theorem Jfx(x:St CW C CP H p W d B m n ls)(hn:n<60){dd:Dd}(v:Val W m H dd)(k:KT CW C CP NHd NNr MI NW p d W B m n H dd Q)(kE:KE C NHd NNr MI NW d B H dd E):DoS CW C CP NH NL NHd NNr MI NW p H Q E dd:=by
 cases dd with
 | make h=>obtain⟨q,G,i⟩:=v;exact Jd5 x hn i k
 | three w h a b =>
   obtain⟨q,G,ta,tb,i,ea,eb,ha,hh,v⟩:=v
   rcases v with⟨rfl,hb⟩|⟨rfl|rfl,hb⟩
   ·exact Jd6 x hn i ea eb ha hb hh k
   ·exact Jd8 x hn i ea eb ha hb hh k
   ·exact Jd3 x hn i ea eb ha hb hh k
 | free h b=>obtain⟨q,G,tb,i,eb,hb⟩:=v;exact Jd7 x hn i eb hb k
 | send h g b=>obtain⟨q,G,tb,i,g0,g1,eb,hb⟩:=v;exact Jd4 x hn i g0 g1 eb hb k kE
 | clean h=>obtain⟨q,G,i⟩:=v;exact Jb0 x hn i k
 | deliver n=>obtain⟨l1,l2,t,el⟩:=v;exact Wa x hn el k
end
section
variable {P:Program}{w:World}{K:W.Frag}{mg:Str→Option Value}{base:Heap}{CW C CP NH NI NL NHd NNr MI NW:Addr}
def Jhb(CW C CP p d:Addr)(W:WGh)(B:BGh)(m n:Nat)(H:Hp)(Q:VK):Prop:=∀(y:Addr)(H':Hp)(W':WGh)(B':BGh)(ls':List LT)(rr:Str)(v:V)(a:An),H' y=some (.tup [.str rr,v])→AnV H' v a→Jcc p W H v a→(∀b o,H b=some o→b∉Cs p W→b∉C1 d B→H' b=some o)→W'.hs=W.hs→B'.hs=B.hs→St CW C CP H' p W' d B' m (n+1) ls'→Q (.ref y) H'
def Vj(CW C CP:Addr):Sp:=fun vs H Q _=>∃(p d x:Addr)(W:WGh)(B:BGh)(m n:Nat)(ls:List LT)(dd:Dd),vs=[.ref p,.ref d,.ref x]∧H x=some (.tup (ddV dd))∧St CW C CP H p W d B m n ls∧n<60∧Val W m H dd∧Jhb CW C CP p d W B m n H Q
theorem scBo:Ao ["_law_world","_law_beside","_law_deed_here","_law_answer","_law_due"] ["_law_world","_law_beside","_law_deed_here"] (Aj Xe):={}
theorem AnV.keep{H H':Hp}{v:V}{a:An}(h:AnV H v a)(k:KeepT H H')(l:∀b xs,v=.ref b→H b=some (.lst xs)→H' b=some (.lst xs)):AnV H' v a:=by
 cases a with
 | th t=>obtain⟨b,e,e2⟩:=h;exact⟨b,e,k.tup _ _ e2⟩
 | no=>exact h
 | num i=>exact h
 | nums xs=>obtain⟨b,e,e2⟩:=h;exact⟨b,e,l b _ e e2⟩
theorem St.pos{p d:Addr}{H:Hp}{W:WGh}{B:BGh}{m n:Nat}{ls:List LT}(x:St CW C CP H p W d B m n ls):0<B.qs.length:=by rw[Paired.length x.al,x.wl.len];exact x.m1
theorem AnV.lst_int{H:Hp}{v:V}{a:An}(h:AnV H v a){b:Addr}{xs:List V}(e:v=.ref b)(e2:H b=some (.lst xs)):∃l:List Int,xs=l.map V.int:=by
 cases a with
 | th t=>obtain⟨c,e3,e4⟩:=h;rw[e] at e3;cases e3;rw[e2] at e4;cases e4
 | no=>rw[e] at h;cases h
 | num i=>rw[e] at h;cases h
 | nums l=>obtain⟨c,e3,e4⟩:=h;rw[e] at e3;cases e3;rw[e2] at e4;cases e4;exact⟨l,rfl⟩
theorem Zn(W:WGh)(n:Str)(h:(["make","hold","drop","take","free","send","clean","deliver"]:List Str).contains n=true):(Fo W).lookup n=none:=by
 have h:n∈(["make","hold","drop","take","free","send","clean","deliver"]:List Str):=by simpa using h
 refine Dj W ?_
 have all:∀z∈(["make","hold","drop","take","free","send","clean","deliver"]:List Str),(["share","houses","post","inquiries","finds","enclosed"]:List Str).contains z=false:=by decide +kernel
 exact all n h
theorem Val.keep{W:WGh}{m:Nat}{H H':Hp}{dd:Dd}(v:Val W m H dd)(k:KeepT H H'):Val W m H' dd:=by
 cases dd with
 | make h=>exact v
 | three w h a b=>obtain⟨q,G,ta,tb,i,ea,eb,r⟩:=v;exact⟨q,G,ta,tb,i,k.tup _ _ ea,k.tup _ _ eb,r⟩
 | free h b=>obtain⟨q,G,tb,i,eb,r⟩:=v;exact⟨q,G,tb,i,k.tup _ _ eb,r⟩
 | send h g b=>obtain⟨q,G,tb,i,g0,g1,eb,r⟩:=v;exact⟨q,G,tb,i,g0,g1,k.tup _ _ eb,r⟩
 | clean h=>exact v
 | deliver n=>exact v
theorem St.up{p d:Addr}{H:Hp}{W:WGh}{B:BGh}{m n:Nat}{ls:List LT}(x:St CW C CP H p W d B m n ls):St CW C CP H p W d B m (n+1) ls:=⟨x.wa,x.ba,x.dj,x.wl.up,x.al,x.lw,x.lb,x.nm,x.c,x.sh,x.m1⟩
theorem Jdm{f fD fB:Addr}{fd dD dB:FuncData}(F:Fun K "_law_both" "_law_both" Xe f fd)(T:Txt K mg C NHd NNr MI NW)(TW:En K mg CW NH NI)(sub:W.mroIn K NW (.ref NW)=some true)(MD:Gdf K mg "_law_do" sDo ["_law_world","_law_deed_here"] fD dD)(GD:EX1 P w K mg base 6 fD dD ["_law_world","_law_deed_here"] (Je7 CW C CP NH NL NHd NNr MI NW))(MB:Gdf K mg "_law_by_parts" Io ["_law_beside","_law_deed_here"] fB dB)(GB:EX1 P w K mg base 5 fB dB ["_law_beside","_law_deed_here"] (Je8 C NHd NNr MI NW)):EX0 P w K mg base 7 f fd ["_law_world","_law_beside","_law_deed_here"] (Vj CW C CP):=by
 refine F.ok scBo (fun vs H Q E h=>?_) (fun cdv A outer s H vs Q E hr h=>?_)
 ·obtain⟨p,d,x,W,B,m,n,ls,dd,rfl,_⟩:=h
  rfl
 ·obtain⟨p,d,x,W,B,m,n,ls,dd,rfl,ex,S,hn,va,k⟩:=h
  have hr6:Room 6 _:=hr.mono (by decide)
  have hr5:Room 5 _:=hr.mono (by decide)
  refine⟨_,Ac (Az (i:=3) scBo.nd rfl (Or.inl rfl) (Bn (Aa As (Aa L7 Ae))))
   (Ac (Az (i:=4) scBo.nd rfl (Or.inl rfl) (Bn (Aa As (Aa L7 Ae))))
   (Ac (Jaj rfl rfl rfl rfl T.cNW (fun pins E ES hES=>Af (Az (i:=3) scBo.nd rfl (Or.inl rfl) (Bn (Aa As (Aa (Tn GD hr6 (by rfl) MD.mg MD.fn.kp MD.bd hES (Aa (pv 0) (Aa (pv 2) Ae))) Ae)))))
    (fun ex=>Af (Az (i:=3) scBo.nd rfl (Or.inl rfl) (Bn (Aa As (Aa L7 Ae))))))
   (Ac (Jaj rfl rfl rfl rfl T.cNW (fun pins E ES hES=>Af (Az (i:=4) scBo.nd rfl (Or.inl rfl) (Bn (Aa As (Aa (Tn GB hr5 (by rfl) MB.mg MB.fn.kp MB.bd hES (Aa (pv 1) (Aa (pv 2) Ae))) Ae)))))
    (fun ex=>Af (Az (i:=4) scBo.nd rfl (Or.inl rfl) (Bn (Aa As (Aa L7 Ae))))))
   (Ac (A9 (Au (Jfh (K1 hr)) (pv 3) (pv 4) (A0 _)) (Af (Ar L7)) Ax)
   (Af (Ar (pv 3))))))),?_⟩
  refine⟨(by show 2≤sizeLine;decide),fun y0 hy0=>?_⟩
  have s0:=Ah (o:=.tup [V.str "told",V.non]) hy0
  generalize upd H y0 (.tup [V.str "told",V.non])=H0 at s0
  refine⟨(by show 2≤sizeLine;decide),fun y1 hy1=>?_⟩
  have s1:=Ak s0 (Ah (o:=.tup [V.str "told",V.non]) hy1)
  generalize upd H0 y1 (.tup [V.str "told",V.non])=H1 at s1
  have S1:=S.same s1
  have ex1:=s1 _ _ ex
  obtain⟨dx,hp⟩:=S1.wa.ob
  refine⟨_,rfl,_,rfl,p,x,dx,_,dd,rfl,ex1,hp,Zn W,?_⟩
  refine Jfx S1 hn (va.keep (Ji0 s1)) (fun v1 a1 H2 av ln wf1 bes by_=>?_) (fun by_=>?_)
  ·refine⟨(by show 2≤sizeLine;decide),fun y2 hy2=>?_⟩
   have s3:=Ah (o:=.tup [V.str "told",v1]) hy2
   have e3:(upd H2 y2 (.tup [V.str "told",v1])) y2=some (.tup [V.str "told",v1]):=Ab
   generalize upd H2 y2 (.tup [V.str "told",v1])=H3 at s3 e3
   have bes3:=bes.same s3
   have ex3:=s3 _ _ ((WFr.keepT S1.wa wf1).tup _ _ ex1)
   have av3:AnV H3 v1 a1:=av.keep (Ji0 s3) fun b xs _ e=>s3 _ _ e
   refine⟨_,rfl,_,rfl,d,x,B,dd,rfl,ex3,bes3,S1.pos,by_ H3 _ _ s3 fun v2 W' B' ls' H4 av2 bf ehs ehb S4=>?_⟩
   have kt4:=BFr.keepT bes3 bf
   have e4:=kt4.tup _ _ e3
   have av4:AnV H4 v1 a1:=av3.keep kt4 fun b xs eb e=>by
    obtain⟨l,rfl⟩:=av3.lst_int eb e
    exact bf b _ e (bes3.lst_no e (Ji4 bes3 S1.pos e))
   refine⟨(by show 2≤sizeLine;decide),fun y3 hy3=>?_⟩
   have s5:=Ah (o:=.tup [V.str "told",v2]) hy3
   have e5:(upd H4 y3 (.tup [V.str "told",v2])) y3=some (.tup [V.str "told",v2]):=Ab
   generalize upd H4 y3 (.tup [V.str "told",v2])=H5 at s5 e5
   have av5:AnV H5 v1 a1:=av4.keep (Ji0 s5) fun b xs _ e=>s5 _ _ e
   have av6:AnV H5 v2 a1:=av2.keep (Ji0 s5) fun b xs _ e=>s5 _ _ e
   have o1:=Wk (r:="told") (.inl rfl) a1
   refine⟨_,rfl,_,rfl,N9 "told" a1,N9 "told" a1,Hw (s5 _ _ e4) av5,Hw e5 av6,o1,o1,_,rfl,?_⟩
   rw[F8 o1]
   refine B0 ⟨_,rfl,k y2 H5 W' B' ls' "told" v1 a1 (s5 _ _ e4) av5 ?_ (fun b o e h1 h2=>s5 _ _ (bf b o (s3 _ _ (wf1 b o (s1 _ _ e) h1)) h2)) ehs ehb (S4.same s5)⟩
   cases a1 with
   | th t=>trivial
   | no=>trivial
   | num i=>trivial
   | nums l =>
     obtain⟨b,e,h1,h2⟩:=ln
     exact⟨b,e,h1,fun c o ec hc=>h2 c o (s1 _ _ ec) hc⟩
  ·refine⟨NW,⟨rfl,sub⟩,(by show 2≤sizeLine;decide),fun y2 hy2=>?_⟩
   have s3:=Ah (o:=.tup [V.str "thin",V.non]) hy2
   have e3:(upd H1 y2 (.tup [V.str "thin",V.non])) y2=some (.tup [V.str "thin",V.non]):=Ab
   generalize upd H1 y2 (.tup [V.str "thin",V.non])=H3 at s3 e3
   refine⟨_,rfl,_,rfl,d,x,B,dd,rfl,s3 _ _ ex1,S1.ba.same s3,S1.pos,by_ H3 _ _ s3 fun H4 s4=>?_⟩
   refine⟨NW,⟨rfl,sub⟩,(by show 2≤sizeLine;decide),fun y3 hy3=>?_⟩
   have s5:=Ah (o:=.tup [V.str "thin",V.non]) hy3
   have e5:(upd H4 y3 (.tup [V.str "thin",V.non])) y3=some (.tup [V.str "thin",V.non]):=Ab
   generalize upd H4 y3 (.tup [V.str "thin",V.non])=H5 at s5 e5
   have o1:=Wk (r:="thin") (.inr rfl) .no
   have av:AnV H5 V.non .no:=rfl
   have s35:=Ak s4 s5
   refine⟨_,rfl,_,rfl,N9 "thin" .no,N9 "thin" .no,Hw (s35 _ _ e3) av,Hw e5 av,o1,o1,_,rfl,?_⟩
   rw[F8 o1]
   exact B0 ⟨_,rfl,k y2 H5 W B ls "thin" .non .no (s35 _ _ e3) av trivial (fun b o e h1 h2=>s35 _ _ (s3 _ _ (s1 _ _ e))) rfl rfl ((((S1.same s3).same s4).same s5).up)⟩
theorem scSpn:Ao ["_law_cell_here","_law_free","_law_number"] ["_law_cell_here","_law_free"] (Aj W8):={}
def Z2:Sp:=fun vs H Q _=>∃(c:Int)(b:Bool),vs=[.int c,.bl b]∧∀v:Int,Q (.int v) H
theorem Jc9{f:Addr}{fd:FuncData}(F:Fun K "_law_spun" "_law_spun" W8 f fd):EX0 P w K mg base 1 f fd ["_law_cell_here","_law_free"] Z2:=by
 refine F.ok scSpn (fun vs H Q E h=>?_) (fun cdv A outer s H vs Q E hr h=>?_)
 ·obtain⟨c,b,rfl,_⟩:=h
  rfl
 ·obtain⟨c,b,rfl,k⟩:=h
  refine⟨_,Ac (A9 (Fh (pv 1)) (Af (Ar (pv 0))) Ax)
   (Ac (Az (i:=2) scSpn.nd rfl (Or.inl rfl) (Bc Cc (Bc Ew (Bc Cc (pv 0) Ag) Ag) Ag))
   (Ac (Az (i:=2) scSpn.nd rfl (Or.inl rfl) (Bc Cc (Bc Ew (Bc Cc (Bc Ew (pv 2) (Bc F2 (pv 2) Ag)) Ag) Ag) Ag))
   (Af (Ar (Bc F2 (pv 2) (Bc Ew (Bc Cc (pv 0) Ag) Ag)))))),?_⟩
  refine⟨_,rfl,_,rfl,?_⟩
  cases b with
  | true=>exact Cd ⟨_,rfl,k _⟩
  | false =>
    refine B0 ?_
    refine⟨_,rfl,_,_,rfl,rfl,(show(0:Int)<2147483647 by decide),_,_,rfl,rfl,.inr ⟨by decide,by decide⟩,_,_,rfl,rfl,(show(0:Int)<2147483647 by decide),?_⟩
    have n0:=Int.emod_nonneg (c % 2147483647*48271) (show(2147483647:Int)≠0 by decide)
    have n1:=Int.emod_lt_of_pos (c % 2147483647*48271) (show(0:Int)<2147483647 by decide)
    rw[show((fun(i j:Int)=>V.int (i % j)) (c % 2147483647*48271) 2147483647)=V.int (c % 2147483647*48271 % 2147483647) from rfl]
    generalize c % 2147483647*48271 % 2147483647=z at n0 n1
    refine⟨_,rfl,_,rfl,_,_,rfl,rfl,_,_,rfl,rfl,.inl ⟨by omega,by omega⟩,_,_,rfl,rfl,(show(0:Int)<2147483629 by decide),_,_,rfl,rfl,.inr ⟨by decide,by decide⟩,_,_,rfl,rfl,(show(0:Int)<2147483587 by decide),?_⟩
    exact⟨_,rfl,_,rfl,_,_,rfl,rfl,(show(0:Int)<1000003 by decide),_,_,rfl,rfl,.inr ⟨by decide,by decide⟩,_,_,rfl,rfl,k _⟩
theorem Jce{t u:T2}:PyData.eqv (thD t) (thD u)=decide (t=u):=by
 obtain⟨a,b⟩:=t
 obtain⟨c,d⟩:=u
 unfold thD
 simp only[PyData.eqv,PyData.eqvAll,Prod.mk.injEq]
 by_cases h1:a=c<;>by_cases h2:b=d<;>simp[h1,h2,PyData.eqv]
theorem scHo:Ao ["_law_things","_law_a","_law_thing","_law_out","_law_holds"] ["_law_things","_law_a"] (Aj Im):={}
def Of:Sp:=fun vs H Q _=>∃(y2 a:Addr)(bs:List V)(os:List (T2×Int×List T2))(ta:T2),vs=[.ref y2,.ref a]∧H y2=some (.tup bs)∧Paired (RowV H) bs os∧H a=some (.tup (tv ta))∧ta∈os.map (·.1) ∧
 ∀(hd:Addr)(cs:List Addr)(o:Int)(hl:List T2),(ta,o,hl)∈os→H hd=some (.tup (cs.map V.ref))→ThsAt H cs hl→Q (.ref hd) H
theorem Vt{f:Addr}{fd:FuncData}(F:Fun K "_law_holding" "_law_holding" Im f fd):EX0 P w K mg base 1 f fd ["_law_things","_law_a"] Of:=by
 refine F.ok scHo (fun vs H Q E h=>?_) (fun cdv A outer s H vs Q E hr h=>?_)
 ·obtain⟨y2,a,bs,os,ta,rfl,_⟩:=h
  rfl
 ·obtain⟨y2,a,bs,os,ta,rfl,e2,rows,ea,mem,k⟩:=h
  refine⟨_,Ac (Ho PassesOwn.never rfl (Jap (pv 0)) (J0 rfl (Bs (Bq (i:=2) scHo.nd rfl (Or.inl rfl)) (Bs (Bq (i:=3) scHo.nd rfl (Or.inl rfl)) (Bs (Bq (i:=4) scHo.nd rfl (Or.inl rfl)) Gj))))
   (Af (A9 (Au (Qw (K1 hr)) (pv 2) (pv 1) (A0 _)) (Af (Ar (pv 4))) Ax)))
   (Af (Ar (Bn Ae))),?_⟩
  refine⟨_,rfl,y2,rfl,⟨_,SqT.of e2⟩,?_⟩
  refine Jd1 (K:=K) (a:=y2) (xs:=bs) (fun j σ H2=>H2=H∧(∃u1 u2 u3,σ=[some (.ref y2),some (.ref a),u1,u2,u3])∧ta∉(os.take j).map (·.1)) ⟨rfl,⟨_,_,_,rfl⟩,by simp⟩ (fun j σ H2 _ h=>by rw[h.1];exact SqT.of e2) ?_ (fun σ H2 h=>?_)
  ·rintro j v σ H2 hj ⟨rfl,⟨u1,u2,u3,rfl⟩,no⟩
   obtain⟨r,hr'⟩:=A1 (xs:=os) (j:=j) (by rw[←Paired.length rows];exact(ZJ hj).1)
   obtain⟨a',t,hd,cs,rfl,e3,e4,e5,e6⟩:=A2 rows j v r hj hr'
   refine⟨a',_,rfl,SqT.of e3,rfl,_,_,rfl,_,_,rfl,_,_,rfl,rfl,?_⟩
   refine⟨_,rfl,_,rfl,thD r.1,thD ta,.one (Fv e4),.one (Fv ea),Pp r.1,Pp ta,_,rfl,?_⟩
   rw[Jce]
   refine Ue (fun c=>?_) (fun c=>?_)
   ·have c:r.1=ta:=of_decide_eq_true c
    exact⟨_,rfl,k hd cs r.2.1 r.2.2 (by rw[←c];exact ZP hr') e5 e6⟩
   ·have c:¬r.1=ta:=by simpa using c
    refine⟨rfl,⟨_,_,_,rfl⟩,?_⟩
    rw[List.take_add_one,hr',ZF,List.mem_append]
    rintro(z|z)
    ·exact no z
    ·have:ta=r.1:=by simpa using z
     exact c this.symm
  ·exfalso
   obtain⟨_,_,no⟩:=h
   rw[Paired.length rows,List.take_length] at no
   exact no mem
example:Ao ["_law_world","_law_many","_law_cell_here","_law_asks","_law_free","_law_kind","_law_h","_law_hand","_law_things","_law_records","_law_letters","_law_b","_law_near","_law_a","_law_holds"] ["_law_world","_law_many","_law_cell_here","_law_asks","_law_free"] (Aj Sw):={}
end
end K42
namespace FX
open PySem PySem.Spec PyProof.Rows L2
theorem Jb3{K:W.Frag}{a p:Addr}{xs:List V}{tt:TT}{te:TE}{caps:List (Str×Nat)}{σ:L2.St}{H:Hp}{Q:Hp→Prop}(Pv:Nat→List V→Hp→Prop)(h0:Pv 0 [] (upd H p (.lst [])))(hl:∀i ys H2,i≤xs.length→Pv i ys H2→SqT K H2 a xs∧H2 p=some (.lst ys))(hs:∀i x ys H2 (N:List V→Hp→Prop),xs[i]?=some x→Pv i ys H2→(∀ys H,Pv (i+1) ys H→N ys H)→tt (some x::Ck σ caps) H2 fun b H4 =>
  if b=true then te (some x::Ck σ caps) H4 fun v H5=>H5 p=some (.lst ys)∧ys.length<sizeLine∧N (ys++[v]) (upd H5 p (.lst (ys++[v]))) else N ys H4)(hd:∀ys H2,Pv xs.length ys H2→Q H2) :
 ∃W:Nat→Nat→List V→Hp→Prop,(∃m,W 0 m [] (upd H p (.lst [])))∧∀i m ys H2,W i m ys H2→H2 p=some (.lst ys) ∧
  (((Itt K a).stop i H2∧Q H2)∨((Itt K a).go i H2∧∀x H3,(Itt K a).yld i H2 x H3→tt (some x::Ck σ caps) H3 fun b H4 =>
    if b=true then te (some x::Ck σ caps) H4 fun v H5=>H5 p=some (.lst ys)∧ys.length<sizeLine∧∃m',m'<m∧W (i+1) m' (ys++[v]) (upd H5 p (.lst (ys++[v])))
    else ∃m',m'<m∧W (i+1) m' ys H4)):=by
 refine⟨fun i m ys H=>m=xs.length-i∧i≤xs.length∧Pv i ys H,⟨xs.length,by simp,Nat.zero_le _,h0⟩,?_⟩
 rintro i m ys H2 ⟨rfl,hi,pv⟩
 obtain⟨q1,q2⟩:=hl i ys H2 hi pv
 refine⟨q2,?_⟩
 by_cases hlt:i<xs.length
 ·refine .inr ⟨⟨xs,xs[i],q1,by simp[hlt]⟩,fun x H3 y=>?_⟩
  obtain⟨e,y⟩:=y
  subst e
  exact hs i x ys _ (fun zs H'=>∃m',m'<xs.length-i∧(m'=xs.length-(i+1)∧i+1≤xs.length∧Pv (i+1) zs H')) (y xs q1) pv fun zs H' pz=>⟨_,by omega,rfl,hlt,pz⟩
 ·have e:i=xs.length:=by omega
  subst e
  exact .inl ⟨⟨xs,q1,ZG _⟩,hd ys H2 pv⟩
theorem Nc(ds:List PyData):PyData.eqv (.list ds) (.list [])=ds.isEmpty:=by cases ds<;>simp[PyData.eqv,PyData.eqvAll]
theorem Uo(ds:List PyData):PyData.eqv (.tuple ds) (.tuple [])=ds.isEmpty:=by cases ds<;>simp[PyData.eqv,PyData.eqvAll]
end FX
namespace K42
open PySem L2 FX
def Y0(n:Int)(kind:Str)(s g:Int)(th:T2)(x:Int):PyData:=.tuple [.int n,.str kind,.int s,.int g,.tuple [thD th,.int x]]
theorem Jdq{K:W.Frag}{H:Hp}{t:Addr}{n:Int}{kind:Str}{s g:Int}{tb:T2}{x:Int}(h:WLet H t n kind s g tb x):RepT K H (.ref t) (Y0 n kind s g tb x):=by
 obtain⟨a,b,e1,e2,e3⟩:=h
 exact .tupP (SqT.of e1) (.cons (.int _) (.cons (.str _) (.cons (.int _) (.cons (.int _) (.cons (.tupP (SqT.of e2) (.cons (Fv e3) (.cons (.int _) .nil))) .nil)))))
theorem Jdr{n:Int}{kind:Str}{s g:Int}{th:T2}{x:Int}(hk:kind="hold"∨kind="more"∨kind="back"∨kind="pass"):(Y0 n kind s g th x).canLay0=true∧(Y0 n kind s g th x).depth≤20:=by
 have t1:(thD th).canLay0=true:=(Pp th).1
 refine⟨?_,?_⟩
 ·rcases hk with rfl|rfl|rfl|rfl
  all_goals
   unfold Y0
   simp only[PyData.canLay0,PyData.canLayAll0,t1,Bool.and_true,Bool.true_and]
   decide +kernel
 ·unfold Y0
  simp[PyData.depth,PyData.depthAll,thD]
theorem LtOk.kd{m:Nat}{l:LT}(h:LtOk m l):l.kind="hold"∨l.kind="more"∨l.kind="back"∨l.kind="pass":=by
 rcases h.2.2.2 with⟨h,_⟩|⟨h,_⟩|⟨h,_⟩|⟨h,_⟩
 ·exact .inl h
 ·exact .inr (.inl h)
 ·exact .inr (.inr (.inl h))
 ·exact .inr (.inr (.inr h))
def T9:List Int→List LT→List PyData
 | n::ns,l::ls=>Y0 n l.kind l.s l.g l.th l.x::T9 ns ls
 | _,_=>[]
theorem E9{K:W.Frag}{H:Hp}:∀{ys:List (Int×Addr)} {ls:List LT},Paired (LetAt H) ys ls→Paired (RepT K H) (ys.map fun y=>V.ref y.2) (T9 (ys.map (·.1)) ls)
 | _,_,.nil=>.nil
 | _,_,.cons h t=>.cons (Jdq h) (E9 t)
theorem Ej{m:Nat}:∀{ns:List Int} {ls:List LT},(∀l∈ls,LtOk m l)→∀d∈T9 ns ls,d.canLay0=true∧d.depth≤20
 | [],_,_,d,h=>by cases h
 | _::_,[],_,d,h=>by cases h
 | n::ns,l::ls,k,d,h=>by
   rcases ZM h with rfl|h
   ·exact Jdr (k l (ZL ..)).kd
   ·exact Ej (fun z hz=>k z (ZD _ hz)) d h
theorem Yy{R:Int×Addr→LT→Prop}{ys:List (Int×Addr)}{ls:List LT}(p:Paired R ys ls)(ne:ys≠[]):(T9 (ys.map (·.1)) ls).isEmpty=false:=by
 cases p with
 | nil=>exact absurd rfl ne
 | cons _ _=>rfl
theorem Yz{ls:List LT}:(T9 (([]:List (Int×Addr)).map (·.1)) ls).isEmpty=true:=by cases ls<;>rfl
theorem Zt(ts:List T2):∀d∈ts.map thD,d.canLay0=true∧d.depth≤20:=fun d hd=>by
 obtain⟨t,_,rfl⟩:=ZN hd
 exact⟨(D3 t).1,Nat.le_trans (D3 t).2 (by decide)⟩
section
variable {P:Program}{w:World}{K:W.Frag}{mg:Str→Option Value}{base:Heap}{CW C CP NH NI NL NHd NNr MI NW:Addr}
theorem scDe:Ao ["_law_world","_law_many","_law_cell_here","_law_asks","_law_free","_law_kind","_law_h","_law_hand","_law_things","_law_records","_law_letters","_law_b","_law_near","_law_a","_law_holds"] ["_law_world","_law_many","_law_cell_here","_law_asks","_law_free"] (Aj Sw):={}
def Vh(CW C CP:Addr):Sp:=fun vs H Q _=>∃(p d:Addr)(W:WGh)(B:BGh)(m n:Nat)(ls:List LT)(c:Int)(fr:Bool),vs=[.ref p,.int (m:Int),.int c,.bl false,.bl fr]∧St CW C CP H p W d B m n ls∧n<60 ∧
 ∀(x:Addr)(H':Hp)(dd:Dd),Bp H H'→H' x=some (.tup (ddV dd))→Val W m H' dd→Q (.ref x) H'
def Jf9(K:W.Frag):TT:=Kj (tOp rEq (tOp (Vo K) (Co 0) (tC (.int 0))) (Co 1))
theorem Zk{H:Hp}:∀{zs:List (Addr×T2)},(∀z∈zs,H z.1=some (.tup (tv z.2)))→Paired (RepT K H) (zs.map fun z=>V.ref z.1) (zs.map fun z=>thD z.2)
 | [],_=>.nil
 | z::zs,h=>.cons (Fv (h z (ZL ..))) (Zk fun y hy=>h y (ZD _ hy))
theorem Jf8(zs:List (Addr×T2)):∀d∈zs.map (fun z=>thD z.2),d.canLay0=true∧d.depth≤20:=fun d hd=>by
 obtain⟨t,_,rfl⟩:=ZN hd
 exact⟨(D3 t.2).1,Nat.le_trans (D3 t.2).2 (by decide)⟩
theorem isE{α β:Type}{l:List α}{f:α→β}(h:l≠[]):(l.map f).isEmpty=false:=by
 cases l with
 | nil=>exact absurd rfl h
 | cons a b=>rfl
theorem Jg1(a0 a1 a2 a3 a4 v kd h c2 y1 y2 y3:V):(((((((L2.start ["_law_world","_law_many","_law_cell_here","_law_asks","_law_free","_law_kind","_law_h","_law_hand","_law_things","_law_records","_law_letters","_law_b","_law_near","_law_a","_law_holds"] [a0,a1,a2,a3,a4]).set 2 (some v)).set 5 (some kd)).set 6 (some h)).set 2 (some c2)).set 7 (some y1)).set 8 (some y2)).set 9 (some y3)=[some a0,some a1,some c2,some a3,some a4,some kd,some h,some y1,some y2,some y3,none,none,none,none,none]:=rfl
set_option maxHeartbeats 20000000 in
theorem Jdj{f fP fH fS fL:Addr}{fd dP dH dS dL:FuncData}(F:Fun K "_law_deed" "_law_deed" Sw f fd)(T:Txt K mg C NHd NNr MI NW)(TW:En K mg CW NH NI)(MP:Gdf K mg "_law_spun" W8 ["_law_cell_here","_law_free"] fP dP)(MH:Gdf K mg "_law_holding" Im ["_law_things","_law_a"] fH dH)(MS:Mth K CW "state" "World.state" Ic ["self","h"] fS dS)(GS':EX1 P w K mg base 3 fS dS ["self","h"] (E3 CW C CP NH K))(ML:Mth K CW "letters" "World.letters" Ea ["self"] fL dL)(GL:EX0 P w K mg base 2 fL dL ["self"] (Ee CW C CP)) :
 EX0 P w K mg base 4 f fd ["_law_world","_law_many","_law_cell_here","_law_asks","_law_free"] (Vh CW C CP):=by
 have GP:EX0 P w K mg base 1 fP dP ["_law_cell_here","_law_free"] Z2:=Jc9 MP.fn
 have GH:EX0 P w K mg base 1 fH dH ["_law_things","_law_a"] Of:=Vt MH.fn
 have GS:EX0 P w K mg base 3 fS dS ["self","h"] (fun vs H Q _=>E3 CW C CP NH K vs H Q E0):=FX.FnOk.no GS'
 refine F.ok scDe (fun vs H Q E h=>?_) (fun cdv A outer s H vs Q E hr h=>?_)
 ·obtain⟨p,d,W,B,m,n,ls,c,fr,rfl,_⟩:=h
  rfl
 ·obtain⟨p,d,W,B,m,n,ls,c,fr,rfl,S,hn,k⟩:=h
  have hr1:Room 1 _:=hr.mono (by decide)
  have hr2:Room 2 _:=hr.mono (by decide)
  have hr3:Room 3 _:=hr.mono (by decide)
  refine⟨_,Ac (Az (i:=2) scDe.nd rfl (Or.inl rfl) (Bw GP hr1 (by rfl) MP.mg MP.fn.kp MP.bd .nil Bj (Aa (pv 2) (Aa (pv 4) Ae))))
   (Ac (Az (i:=5) scDe.nd rfl (Or.inl rfl) (Bc Cc (pv 2) Ag))
   (Ac (Az (i:=6) scDe.nd rfl (Or.inr rfl) (Bc Cc (Bc D8 (pv 2) Ag) (pv 1)))
   (Ac (Az (i:=2) scDe.nd rfl (Or.inl rfl) (Bc D8 (Bc D8 (pv 2) Ag) (pv 1)))
   (Ac (Vp (Ap (pl:=_) (pv 0) TW.cl MS.mt GS hr3 MS.bd .nil Bj (Aa (pv 6) Ae)) (J0 rfl (Bs (Bq (i:=7) scDe.nd rfl (Or.inl rfl)) (Bs (Bq (i:=8) scDe.nd rfl (Or.inl rfl)) (Bs (Bq (i:=9) scDe.nd rfl (Or.inl rfl)) Gj)))))
   (Ac (Az (i:=10) scDe.nd rfl (Or.inl rfl) (Cg (pl:=_) (pv 0) TW.cl ML.mt GL hr2 ML.bd .nil Bj))
   (Ac (A9 (Ji7 (Qq (Au Ol (pv 5) Ag (A0 _)) (Qp (Au (Qv (K1 hr)) (pv 10) (Fi Ae) (A0 _))))) (Af (Ar (Bn (Aa As (Aa (Av Aq (Av Cz (pv 10) (Bc Cc (pv 2) (Bv Br (by rfl) T.len PySem.boot_len (Aa (pv 10) Ae)))) Ag) Ae))))) Ax)
   (Ac (A9 (Ji7 (Qq (Au Bx (pv 5) Ag (A0 _)) (Qq (Fh (pv 3)) (Qp (Au Bx (Bc Cc (pv 2) Ag) Ag (A0 _)))))) (Af (Ar (Bn (Aa As (Aa (pv 6) Ae))))) Ax)
   (Ac (A9 (Au Ol (pv 5) Ag (A0 _)) (Af (Ar (Bn (Aa As (Aa (pv 6) Ae))))) Ax)
   (Ac (A9 (Ji7 (Oh (Au To (pv 5) Ag (A0 _)) (Jx (Au (Qw (K1 hr)) (pv 7) (Bn Ae) (A0 _))))) (Af (Ar (Bn (Aa As (Aa (pv 6) Ae))))) Ax)
   (Ac (Az (i:=11) scDe.nd rfl (Or.inl rfl) (Av Aq (pv 7) (Bc Cc (pv 2) (Bv Br (by rfl) T.len PySem.boot_len (Aa (pv 7) Ae)))))
   (Ac (Az (i:=2) scDe.nd rfl (Or.inl rfl) (Bc D8 (pv 2) (Bv Br (by rfl) T.len PySem.boot_len (Aa (pv 7) Ae))))
   (Ac (Ir (i:=12) (tt:=Jf9 K) (te:=Co 0) (caps:=[("_law_h",6)]) scDe.nd rfl rfl rfl rfl (Jap (pv 7)) rfl (by decide +kernel) rfl (by decide +kernel) rfl ⟨rfl,trivial⟩ (fun y h=>Rm ⟨_,rfl⟩ h) ⟨⟨rfl,rfl,rfl,rfl⟩,trivial⟩ (by decide +kernel) (fun _ _ _ _ _=>Fg (Au Bx (Av Aq (pv 0) Ag) (pv 1) (A0 _))) (fun _ _ _ _ _=>pv 0))
   (Ac (A9 (Au To (pv 5) Ag (A0 _)) (Af (Ar (Bn (Aa As (Aa (pv 6) (Aa (Bc Cc (pv 2) (pv 1)) (Aa (pv 11) Ae))))))) Ax)
   (Ac (A9 (Ji7 (Oh (Au Ol (pv 5) Ag (A0 _)) (Jx (Au (Qw (K1 hr)) (pv 12) (Fi Ae) (A0 _))))) (Af (Ar (Bn (Aa As (Aa (pv 6) (Aa (pv 11) Ae)))))) Ax)
   (Ac (Az (i:=13) scDe.nd rfl (Or.inl rfl) (Av Cz (pv 12) (Bc Cc (pv 2) (Bv Br (by rfl) T.len PySem.boot_len (Aa (pv 12) Ae)))))
   (Ac (Az (i:=14) scDe.nd rfl (Or.inl rfl) (Bw GH hr1 (by rfl) MH.mg MH.fn.kp MH.bd .nil Bj (Aa (pv 8) (Aa (pv 13) Ae))))
   (Ac (A9 (Ji7 (Oh (Au To (pv 5) Ag (A0 _)) (Jx (Au (Qw (K1 hr)) (pv 14) (Bn Ae) (A0 _))))) (Af (Ar (Bn (Aa As (Aa (pv 6) (Aa (pv 13) (Aa (pv 11) Ae))))))) Ax)
   (Af (Ar (Bn (Aa (Av Cz (Fi (Aa As (Aa As Ae))) (Bc Qu (pv 5) Ag)) (Aa (pv 6) (Aa (pv 13) (Aa (Av Aq (pv 14) (Bc Cc (Bc D8 (pv 2) (Bv Br (by rfl) T.len PySem.boot_len (Aa (pv 12) Ae))) (Bv Br (by rfl) T.len PySem.boot_len (Aa (pv 14) Ae)))) Ae)))))))))))))))))))))))),?_⟩
  have mpos:(0:Int)<(m:Int):=by have:=S.m1;lia
  have m12:=S.wl.m12
  refine⟨_,rfl,_,rfl,c,fr,rfl,fun v=>?_⟩
  refine⟨_,rfl,_,_,rfl,rfl,(show(0:Int)<17 by decide),?_⟩
  refine⟨_,rfl,_,_,rfl,rfl,⟨by decide,by decide⟩,_,rfl,_,_,rfl,rfl,mpos,?_⟩
  refine⟨_,rfl,_,_,rfl,rfl,⟨by decide,by decide⟩,_,rfl,_,_,rfl,rfl,⟨mpos,by lia⟩,?_⟩
  rw[show((fun(i j:Int)=>V.int (i % j)) v 17)=V.int (v % 17) from rfl,show((fun(i j:Int)=>V.int (i % j)) (v / 17) (m:Int))=V.int (v / 17 % (m:Int)) from rfl,show((fun(i j:Int)=>V.int (i / j)) (v / 17) (m:Int))=V.int (v / 17 / (m:Int)) from rfl]
  have k0:=Int.emod_nonneg v (show(17:Int)≠0 by decide)
  have k1:=Int.emod_lt_of_pos v (show(0:Int)<17 by decide)
  have h0:=Int.emod_nonneg (v / 17) (show(m:Int)≠0 by lia)
  have h1:=Int.emod_lt_of_pos (v / 17) mpos
  generalize v / 17 % (m:Int)=h at h0 h1
  generalize v / 17 / (m:Int)=c2
  generalize v % 17=kd at k0 k1
  obtain⟨⟨q,G⟩,hq⟩:=A1 (xs:=W.qs) (j:=h.toNat) (by rw[S.wl.len];lia)
  have i:InW W h q G:=⟨h0,hq⟩
  obtain⟨sd,nu⟩:=S.wl.sd _ q G hq
  have hN:((h.toNat:Nat):Int)=h:=Int.toNat_of_nonneg h0
  rw[hN] at nu
  have gd:=S.wl.good (by lia) hq
  obtain⟨hs,os,rs,tld⟩:=gd.told
  obtain⟨dx,hp⟩:=S.wa.ob
  refine⟨_,rfl,p,dx,_,rfl,hp,Dj W (by decide +kernel),_,rfl,p,h,W,rfl,S.wa,.inr ⟨q,G,i,q,G,hs,os,rs,rfl,i.at S.wa,gd.h2,gd.o2,gd.r2,tld.pm,tld.pw,tld.rw_,tld.pr,tld.wr,fun x H1 s1 st=>?_⟩⟩
  obtain⟨y1,y2,y3,as,bs,ds,ex,e1,t1,e2,r2,⟨ob,e3,pl⟩,r3⟩:=st
  refine⟨x,_,rfl,SqT.of ex,rfl,_,_,rfl,_,_,rfl,_,_,rfl,rfl,?_⟩
  obtain⟨dx1,hp1⟩:=(S.wa.same s1).ob
  refine⟨_,rfl,p,dx1,_,rfl,hp1,Dj W (by decide +kernel),p,W,rfl,S.wa.same s1,fun l H2 hl el s2=>?_⟩
  have s12:=Ak s1 s2
  have S2:=S.same s12
  have e1:=s2 _ _ e1
  have t1:=ThsAt.keep (Ji0 s2) t1
  have e2:=s2 _ _ e2
  have r2:Paired (RowV H2) bs os:=Ay (fun _ _ r=>r.keep (Ji0 s2)) r2
  have las:as.length=hs.length:=Paired.length t1
  have lhs:=tld.pm.length_eq
  have zhd:=gd.h2
  clear ex e3 pl r3 s1 s2 hp hp1
  rw[Jg1]
  by_cases c10:10<kd
  ·by_cases cd:11<kd∧W.ls≠[]
   ·refine⟨_,rfl,_,_,rfl,rfl,_,rfl,?_⟩
    rw[decide_eq_true cd.1]
    refine Cd ⟨_,rfl,Nat.zero_le _,fun r hr'=>⟨_,_,.lst (SqL.of (Ah hr' _ _ el)) (E9 (A5 S2.lw (Ji0 (Ah hr')))),.lst (SqL.of Ab) .nil,Ds (Ej S.wl.ok),Qz,_,rfl,?_⟩⟩
    rw[Nc,Yy S2.lw cd.2]
    refine Cd ?_
    have s3:=Ah (o:=.lst []) hr'
    generalize upd H2 r (.lst [])=H3 at s3
    have el3:=s3 _ _ el
    have lpos:(0:Int)<(((W.ls.map fun x=>V.ref x.2).length:Nat):Int):=by
     rw[ZA]
     have:=List.length_pos_iff.mpr cd.2
     lia
    have j0:=Int.emod_nonneg c2 (show(((W.ls.map fun x=>V.ref x.2).length:Nat):Int)≠0 by lia)
    have j1:=Int.emod_lt_of_pos c2 lpos
    obtain⟨⟨num,t⟩,hy⟩:=A1 (xs:=W.ls) (j:=(c2 % (((W.ls.map fun x=>V.ref x.2).length:Nat):Int)).toNat) (by rw[ZA] at j0 j1 ⊢;lia)
    have hat:atI (W.ls.map fun x=>V.ref x.2) (c2 % (((W.ls.map fun x=>V.ref x.2).length:Nat):Int))=some (.ref t):=Dc j0 (by rw[ZH,hy];rfl)
    obtain⟨lt,hlt⟩:=A1 (xs:=ls) (j:=(c2 % (((W.ls.map fun x=>V.ref x.2).length:Nat):Int)).toNat) (by rw[←Paired.length S.lw];exact(ZJ hy).1)
    obtain⟨a1,a2,et,_⟩:=A2 S2.lw _ _ _ hy hlt
    obtain⟨l1,l2,esp⟩:=List.append_of_mem (ZP hy)
    refine⟨_,rfl,_,rfl,_,rfl,l,_,rfl,.inl (SqL.of el3),_,_,rfl,rfl,lpos,l,_,_,_,rfl,rfl,SqL.of el3,hat,t,_,_,_,rfl,rfl,SqT.of (s3 _ _ et),rfl,(by show 2≤sizeLine;decide),fun x hx=>?_⟩
    exact k x _ (.deliver num) (Ak s12 (Ak s3 (Ah hx))) Ab ⟨l1,l2,t,esp⟩
   ·have cl:∀{H3:Hp},Bp H2 H3→∀x,H3 x=none→Q (.ref x) (upd H3 x (.tup [.str "clean",.int h])):=fun{H3} s3 x hx=>k x _ (.clean h) (Ak s12 (Ak s3 (Ah hx))) Ab ⟨q,G,i⟩
    have rf:Bp H2 H2:=fun b o e=>e
    by_cases c11:11<kd
    ·have e0:W.ls=[]:=Classical.byContradiction fun z=>cd ⟨c11,z⟩
     refine⟨_,rfl,_,_,rfl,rfl,_,rfl,?_⟩
     rw[decide_eq_true c11]
     refine Cd ⟨_,rfl,Nat.zero_le _,fun r hr'=>⟨_,_,.lst (SqL.of (Ah hr' _ _ el)) (E9 (A5 S2.lw (Ji0 (Ah hr')))),.lst (SqL.of Ab) .nil,Ds (Ej S.wl.ok),Qz,_,rfl,?_⟩⟩
     rw[Nc,e0,Yz]
     refine B0 ?_
     refine⟨_,rfl,rfl,_,rfl,?_⟩
     rw[decide_eq_false (show ¬V.int kd=V.int 11 from fun z=>by have:=V.int.inj z;lia)]
     refine B0 (B0 ?_)
     refine⟨_,rfl,_,_,rfl,rfl,_,rfl,?_⟩
     rw[decide_eq_true c10]
     exact Cd ⟨_,rfl,(by show 2≤sizeLine;decide),fun x hx=>cl (Ah hr') x hx⟩
    ·have e11:kd=11:=by lia
     refine⟨_,rfl,_,_,rfl,rfl,_,rfl,?_⟩
     rw[decide_eq_false c11]
     refine B0 (B0 ?_)
     refine⟨_,rfl,rfl,_,rfl,?_⟩
     rw[decide_eq_true (show V.int kd=V.int 11 by rw[e11])]
     refine Cd ⟨_,rfl,_,rfl,B0 (B0 ?_)⟩
     refine⟨_,rfl,_,_,rfl,rfl,_,rfl,?_⟩
     rw[decide_eq_true c10]
     exact Cd ⟨_,rfl,(by show 2≤sizeLine;decide),fun x hx=>cl rf x hx⟩
  ·have n11:¬11<kd:=by lia
   refine⟨_,rfl,_,_,rfl,rfl,_,rfl,?_⟩
   rw[decide_eq_false n11]
   refine B0 (B0 ?_)
   refine⟨_,rfl,rfl,_,rfl,?_⟩
   rw[decide_eq_false (show ¬V.int kd=V.int 11 from fun z=>by have:=V.int.inj z;lia)]
   refine B0 (B0 ?_)
   refine⟨_,rfl,_,_,rfl,rfl,_,rfl,?_⟩
   rw[decide_eq_false c10]
   refine B0 ?_
   have mk:∀{H3:Hp},Bp H2 H3→∀x,H3 x=none→Q (.ref x) (upd H3 x (.tup [.str "make",.int h])):=fun{H3} s3 x hx=>k x _ (.make h) (Ak s12 (Ak s3 (Ah hx))) Ab ⟨q,G,i⟩
   have rf:Bp H2 H2:=fun b o e=>e
   by_cases c2':kd<2
   ·refine⟨_,rfl,_,_,rfl,rfl,_,rfl,?_⟩
    rw[decide_eq_true c2']
    exact Cd (Cd ⟨_,rfl,(by show 2≤sizeLine;decide),fun x hx=>mk rf x hx⟩)
   ·refine⟨_,rfl,_,_,rfl,rfl,_,rfl,?_⟩
    rw[decide_eq_false c2']
    refine B0 ⟨_,rfl,Nat.zero_le _,fun r hr'=>⟨_,_,.one (.tupP (SqT.of (Ah hr' _ _ e1)) (Hx (ThsAt.keep (Ji0 (Ah hr')) t1))),.one (.tupP (SqT.of Ab) .nil),E8 (Zt hs),E8 (fun _ h=>by cases h),_,rfl,?_⟩⟩
    have s3:=Ah (o:=.tup []) hr'
    generalize upd H2 r (.tup [])=H3 at s3
    rw[Uo]
    by_cases e0:hs=[]
    ·rw[e0]
     exact Cd ⟨_,rfl,(by show 2≤sizeLine;decide),fun x hx=>mk s3 x hx⟩
    ·have ne:(hs.map thD).isEmpty=false:=by cases hs with
      | nil=>exact absurd rfl e0
      | cons a b=>rfl
     rw[ne]
     refine B0 ?_
     have e1:=s3 _ _ e1
     have t1:=ThsAt.keep (Ji0 s3) t1
     have e2:=s3 _ _ e2
     have r2:Paired (RowV H3) bs os:=Ay (fun _ _ r=>r.keep (Ji0 s3)) r2
     have s13:=Ak s12 s3
     clear S2 hr' el hl
     have hpos:=List.length_pos_iff.mpr e0
     have lmap:(as.map V.ref).length=as.length:=ZA ..
     have lpos:(0:Int)<(((as.map V.ref).length:Nat):Int):=by rw[lmap];lia
     have j0:=Int.emod_nonneg c2 (show(((as.map V.ref).length:Nat):Int)≠0 by lia)
     have j1:=Int.emod_lt_of_pos c2 lpos
     obtain⟨b,hb⟩:=A1 (xs:=as) (j:=(c2 % (((as.map V.ref).length:Nat):Int)).toNat) (by rw[lmap] at j0 j1 ⊢;lia)
     obtain⟨tb,htb⟩:=A1 (xs:=hs) (j:=(c2 % (((as.map V.ref).length:Nat):Int)).toNat) (by rw[←las];exact(ZJ hb).1)
     have eb:H3 b=some (.tup (tv tb)):=A2 t1 _ _ _ hb htb
     have hbG:tb∈G.hand:=tld.pm.mem_iff.mp (ZP htb)
     have hat:atI (as.map V.ref) (c2 % (((as.map V.ref).length:Nat):Int))=some (.ref b):=Dc j0 (by rw[ZH,hb];rfl)
     refine⟨_,rfl,_,rfl,_,rfl,y1,_,rfl,.inr (SqT.of e1),_,_,rfl,rfl,lpos,y1,_,_,_,rfl,rfl,SqT.of e1,hat,?_⟩
     refine⟨_,rfl,_,rfl,y1,_,rfl,.inr (SqT.of e1),_,_,rfl,rfl,⟨lpos,by rw[lmap];lia⟩,?_⟩
     rw[show((fun(i j:Int)=>V.int (i / j)) c2 (((as.map V.ref).length:Nat):Int))=V.int (c2 / (((as.map V.ref).length:Nat):Int)) from rfl]
     clear j0 j1 hat hb htb
     generalize c2 / (((as.map V.ref).length:Nat):Int)=c3
     refine⟨_,rfl,y1,rfl,⟨_,SqT.of e1⟩,fun nr hnr=>?_⟩
     have s4:=Ah (o:=.lst []) hnr
     refine Jb3 (K:=K) (a:=y1) (xs:=as.map V.ref) (tt:=Jf9 K) (te:=Co 0) (caps:=[("_law_h",6)])
      (fun j ys Hc=>Bp H3 Hc∧Hc nr=some (.lst ys)∧∃zs:List (Addr×T2),ys=zs.map (fun z=>V.ref z.1)∧zs.length≤j∧∀z∈zs,H3 z.1=some (.tup (tv z.2))∧z.2∈hs∧z.2.1=h)
      ⟨s4,Ab,[],rfl,ZG _,fun z hz=>by cases hz⟩ (fun j ys Hc _ hc=>⟨SqT.of (hc.1 _ _ e1),hc.2.1⟩) ?_ ?_
     ·rintro j x' ys Hc N hj ⟨sc,en,zs,rfl,zl,al⟩ hN'
      rw[ZH] at hj
      cases haj:as[j]? with
      | none=>rw[haj] at hj;cases hj
      | some aj =>
        rw[haj] at hj
        cases hj
        have hja:=(ZJ haj).1
        obtain⟨tj,htj⟩:=A1 (xs:=hs) (j:=j) (by rw[←las];exact hja)
        have ej:H3 aj=some (.tup (tv tj)):=A2 t1 _ _ _ haj htj
        refine⟨_,rfl,aj,_,_,_,rfl,rfl,SqT.of (sc _ _ ej),rfl,_,rfl,rfl,_,rfl,?_⟩
        refine Ue (fun cc=>?_) (fun cc=>?_)
        ·have cc:V.int tj.1=V.int h:=of_decide_eq_true cc
         have cc:=V.int.inj cc
         refine⟨_,rfl,en,A3 (by rw[ZA];lia),hN' _ _ ⟨fun b o e=>?_,Ab,zs++[(aj,tj)],by rw[ZF];rfl,by rw[ZE,List.length_singleton];lia,fun z hz=>?_⟩⟩
         ·rw[Ad (Am e hnr)];exact sc b o e
         ·rcases ZI hz with hz|hz
          ·exact al z hz
          ·rw[ZK hz];exact⟨ej,ZP htj,cc⟩
        ·exact hN' _ _ ⟨sc,en,zs,rfl,by lia,al⟩
     ·rintro ys H4 ⟨s4',en,zs,rfl,zl,al⟩
      have s14:=Ak s13 s4'
      have eb:=s4' _ _ eb
      have e2:=s4' _ _ e2
      have r2:Paired (RowV H4) bs os:=Ay (fun _ _ r=>r.keep (Ji0 s4')) r2
      have al:∀z∈zs,H4 z.1=some (.tup (tv z.2))∧z.2∈hs∧z.2.1=h:=fun z hz=>⟨s4' _ _ (al z hz).1,(al z hz).2⟩
      have zl:zs.length≤64:=by rw[lmap] at zl;lia
      clear s4 s4' t1 e1 hnr
      have fr:∀{H5:Hp},Bp H4 H5→∀x,H5 x=none→Q (.ref x) (upd H5 x (.tup [.str "free",.int h,.ref b])):=fun{H5} s5 x hx=>k x _ (.free h b) (Ak s14 (Ak s5 (Ah hx))) Ab ⟨q,G,tb,i,Ah hx _ _ (s5 _ _ eb),hbG⟩
      by_cases c5:kd<5
      ·refine⟨_,rfl,_,_,rfl,rfl,_,rfl,?_⟩
       rw[decide_eq_true c5]
       refine Cd ⟨_,rfl,_,rfl,_,rfl,_,_,rfl,rfl,mpos,_,rfl,(by show 4≤sizeLine;decide),fun x hx=>?_⟩
       exact k x _ (.send h (c3 % (m:Int)) b) (Ak s14 (Ah hx)) Ab ⟨q,G,tb,i,Int.emod_nonneg c3 (show(m:Int)≠0 by lia),Int.emod_lt_of_pos c3 mpos,Ah hx _ _ eb,hbG⟩
      ·refine⟨_,rfl,_,_,rfl,rfl,_,rfl,?_⟩
       rw[decide_eq_false c5]
       refine B0 ?_
       by_cases c8:8<kd
       ·refine⟨_,rfl,_,_,rfl,rfl,_,rfl,?_⟩
        rw[decide_eq_true c8]
        exact Cd (Cd ⟨_,rfl,_,rfl,(by show 3≤sizeLine;decide),fun x hx=>fr (fun b o e=>e) x hx⟩)
       ·refine⟨_,rfl,_,_,rfl,rfl,_,rfl,?_⟩
        rw[decide_eq_false c8]
        refine B0 ⟨_,rfl,Nat.zero_le _,fun r' hr'=>⟨_,_,.lst (SqL.of (Ah hr' _ _ en)) (Zk fun z hz=>Ah hr' _ _ (al z hz).1),.lst (SqL.of Ab) .nil,Ds (Jf8 zs),Qz,_,rfl,?_⟩⟩
        have s5:=Ah (o:=.lst []) hr'
        generalize upd H4 r' (.lst [])=H5 at s5
        rw[Nc]
        by_cases z0:zs=[]
        ·rw[z0]
         exact Cd ⟨_,rfl,_,rfl,(by show 3≤sizeLine;decide),fun x hx=>fr s5 x hx⟩
        ·rw[isE z0]
         refine B0 ?_
         have s15:=Ak s14 s5
         have eb:=s5 _ _ eb
         have e2:=s5 _ _ e2
         have en:=s5 _ _ en
         have r2:Paired (RowV H5) bs os:=Ay (fun _ _ r=>r.keep (Ji0 s5)) r2
         have zpos:=List.length_pos_iff.mpr z0
         have zmap:(zs.map fun z=>V.ref z.1).length=zs.length:=ZA ..
         have lpos':(0:Int)<(((zs.map fun z=>V.ref z.1).length:Nat):Int):=by rw[zmap];lia
         have j0:=Int.emod_nonneg c3 (show(((zs.map fun z=>V.ref z.1).length:Nat):Int)≠0 by lia)
         have j1:=Int.emod_lt_of_pos c3 lpos'
         obtain⟨⟨a,ta⟩,ha⟩:=A1 (xs:=zs) (j:=(c3 % (((zs.map fun z=>V.ref z.1).length:Nat):Int)).toNat) (by rw[zmap] at j0 j1 ⊢;lia)
         have hat:atI (zs.map fun z=>V.ref z.1) (c3 % (((zs.map fun z=>V.ref z.1).length:Nat):Int))=some (.ref a):=Dc j0 (by rw[ZH,ha];rfl)
         obtain⟨ea,hta,near⟩:=al _ (ZP ha)
         have ea:H5 a=some (.tup (tv ta)):=s5 _ _ ea
         have haG:ta∈G.hand:=tld.pm.mem_iff.mp hta
         have near:ta.1=G.num:=by rw[nu];exact near
         have mem:ta∈os.map (·.1):=tld.rw_.pm.mem_iff.mpr (sd.ok.hk ta haG near)
         refine⟨_,rfl,_,rfl,_,rfl,nr,_,rfl,.inl (SqL.of en),_,_,rfl,rfl,lpos',nr,_,_,_,rfl,rfl,SqL.of en,hat,?_⟩
         refine⟨_,rfl,_,rfl,y2,a,bs,os,ta,rfl,e2,r2,ea,mem,fun hd cs o hl hm ehd ths=>?_⟩
         have hld:∀{H6:Hp},Bp H5 H6→∀x,H6 x=none→Q (.ref x) (upd H6 x (.tup [.str "hold",.int h,.ref a,.ref b])):=fun{H6} s6 x hx=>k x _ (.three "hold" h a b) (Ak s15 (Ak s6 (Ah hx))) Ab ⟨q,G,ta,tb,i,Ah hx _ _ (s6 _ _ ea),Ah hx _ _ (s6 _ _ eb),haG,near,.inl ⟨rfl,hbG⟩⟩
         by_cases c7:kd<7
         ·refine⟨_,rfl,_,_,rfl,rfl,_,rfl,?_⟩
          rw[decide_eq_true c7]
          exact Cd (Cd ⟨_,rfl,_,rfl,_,rfl,(by show 4≤sizeLine;decide),fun x hx=>hld (fun b o e=>e) x hx⟩)
         ·refine⟨_,rfl,_,_,rfl,rfl,_,rfl,?_⟩
          rw[decide_eq_false c7]
          refine B0 ⟨_,rfl,Nat.zero_le _,fun r6 hr6=>⟨_,_,.one (.tupP (SqT.of (Ah hr6 _ _ ehd)) (Hx (ThsAt.keep (Ji0 (Ah hr6)) ths))),.one (.tupP (SqT.of Ab) .nil),E8 (Zt hl),E8 (fun _ h=>by cases h),_,rfl,?_⟩⟩
          have s6:=Ah (o:=.tup []) hr6
          generalize upd H5 r6 (.tup [])=H6 at s6
          rw[Uo]
          by_cases h0':hl=[]
          ·rw[h0']
           exact Cd ⟨_,rfl,_,rfl,_,rfl,(by show 4≤sizeLine;decide),fun x hx=>hld s6 x hx⟩
          ·rw[isE h0']
           refine B0 ?_
           obtain⟨_,a0,hl0,fd0,z64,pmh,_⟩:=tld.rw_.at_ _ hm
           have lcs:cs.length=hl.length:=Paired.length ths
           have cpos:=List.length_pos_iff.mpr h0'
           have cmap:(cs.map V.ref).length=cs.length:=ZA ..
           have lposc:(0:Int)<(((cs.map V.ref).length:Nat):Int):=by rw[cmap];lia
           have i0:=Int.emod_nonneg (c3 / (((zs.map fun z=>V.ref z.1).length:Nat):Int)) (show(((cs.map V.ref).length:Nat):Int)≠0 by lia)
           have i1:=Int.emod_lt_of_pos (c3 / (((zs.map fun z=>V.ref z.1).length:Nat):Int)) lposc
           obtain⟨cb,hcb⟩:=A1 (xs:=cs) (j:=(c3 / (((zs.map fun z=>V.ref z.1).length:Nat):Int) % (((cs.map V.ref).length:Nat):Int)).toNat) (by rw[cmap] at i0 i1 ⊢;lia)
           obtain⟨tc,htc⟩:=A1 (xs:=hl) (j:=(c3 / (((zs.map fun z=>V.ref z.1).length:Nat):Int) % (((cs.map V.ref).length:Nat):Int)).toNat) (by rw[←lcs];exact(ZJ hcb).1)
           have ec:H5 cb=some (.tup (tv tc)):=A2 ths _ _ _ hcb htc
           have hatc:atI (cs.map V.ref) (c3 / (((zs.map fun z=>V.ref z.1).length:Nat):Int) % (((cs.map V.ref).length:Nat):Int))=some (.ref cb):=Dc i0 (by rw[ZH,hcb];rfl)
           have inH:tc∈getH G.holds ta:=by rw[Jd0 fd0];exact pmh.mem_iff.mp (ZP htc)
           refine⟨(by show 2≤sizeLine;decide),fun wl hwl=>?_⟩
           have s7:=Ah (o:=.lst [.str "drop",.str "take"]) hwl
           have ewl:(upd H6 wl (.lst [.str "drop",.str "take"])) wl=some (.lst [.str "drop",.str "take"]):=Ab
           generalize upd H6 wl (.lst [.str "drop",.str "take"])=H7 at s7 ewl
           have s57:=Ak s6 s7
           obtain⟨wd,hwd,hw⟩:∃wd:Str,atI [V.str "drop",V.str "take"] (kd-7)=some (.str wd)∧(wd="drop"∨wd="take"):=by
            rcases(show kd=7∨kd=8 by lia) with e|e<;>rw[e]
            ·exact⟨"drop",Dc (by decide) rfl,.inl rfl⟩
            ·exact⟨"take",Dc (by decide) rfl,.inr rfl⟩
           refine⟨_,rfl,_,_,rfl,rfl,wl,_,_,_,rfl,rfl,SqL.of ewl,hwd,?_⟩
           refine⟨_,rfl,?_⟩
           refine⟨_,rfl,?_⟩
           refine⟨_,rfl,?_⟩
           refine⟨_,rfl,?_⟩
           refine⟨_,rfl,nr,_,rfl,.inl (SqL.of (s57 _ _ en)),?_⟩
           refine⟨_,_,rfl,rfl,⟨lpos',by rw[zmap];lia⟩,?_⟩
           refine⟨_,rfl,hd,_,rfl,.inr (SqT.of (s57 _ _ ehd)),?_⟩
           refine⟨_,_,rfl,rfl,lposc,?_⟩
           refine⟨hd,_,_,_,rfl,rfl,SqT.of (s57 _ _ ehd),hatc,?_⟩
           refine⟨(by show 4≤sizeLine;decide),fun x hx=>?_⟩
           exact k x _ (.three wd h a cb) (Ak s15 (Ak s57 (Ah hx))) Ab ⟨q,G,ta,tc,i,Ah hx _ _ (s57 _ _ ea),Ah hx _ _ (s57 _ _ ec),haG,near,.inr ⟨hw,inH⟩⟩
theorem scSh:Ao ["_law_script","_law_cell_here"] ["_law_script"] (Aj Qj):={}
def Wu(K:W.Frag):Sp:=fun vs H Q _=>∃(a:Addr)(ns:List Int),vs=[.ref a]∧SqL K H a (ns.map V.int)∧ns.length≤63∧∀(v:Int)(H':Hp),Bp H H'→2≤v→Q (.int v) H'
theorem Ja7{f fC:Addr}{fd dC:FuncData}(F:Fun K "_law_share" "_law_share" Qj f fd)(hl:mg "len"=none)(MC:Gdf K mg "_law_cell" Sx ["_law_script","_law_k"] fC dC):EX0 P w K mg base 2 f fd ["_law_script"] (Wu K):=by
 have GC:EX0 P w K mg base 1 fC dC ["_law_script","_law_k"] (Vi K):=Xl MC.fn hl
 refine F.ok scSh (fun vs H Q E h=>?_) (fun cdv A outer s H vs Q E hr h=>?_)
 ·obtain⟨a,ns,rfl,_⟩:=h
  rfl
 ·obtain⟨a,ns,rfl,hS,hlen,k⟩:=h
  refine⟨_,Ac (Az (i:=1) scSh.nd rfl (Or.inl rfl) (Bw GC hr (by rfl) MC.mg MC.fn.kp MC.bd .nil Bj (Aa (pv 0) (Aa Ag Ae))))
   (Af (Ar (Av Cz (Fi (Aa Ag (Aa Ag (Aa Ag (Aa (Bc F2 Ag (Bc Cc (Bc D8 (pv 1) Ag) (Bc Jfg Ag Ag))) Ae))))) (Bc Cc (pv 1) Ag)))),?_⟩
  refine⟨_,rfl,a,ns,1,rfl,hS,hlen,by decide,by decide,fun v=>?_⟩
  refine⟨_,rfl,_,_,rfl,rfl,⟨by decide,by decide⟩,_,_,rfl,rfl,⟨by decide,by decide,by decide⟩,_,_,rfl,rfl,(show(0:Int)<10 ^ 59 by decide),_,_,rfl,rfl,(by show 4≤sizeLine;decide),fun sl hsl=>?_⟩
  obtain⟨x,hx⟩:∃x,V.int x=V.int (2+v / 4 % (10:Int) ^ (59:Int).toNat):=⟨_,rfl⟩
  have x2:2≤x:=by
   have:=V.int.inj hx
   have e:=Int.emod_nonneg (v / 4) (show(10:Int) ^ (59:Int).toNat≠0 by decide)
   lia
  have s1:=Ah (o:=.lst [V.int 2,V.int 2,V.int 3,V.int (2+v / 4 % (10:Int) ^ (59:Int).toNat)]) hsl
  have esl:(upd H sl (.lst [V.int 2,V.int 2,V.int 3,V.int (2+v / 4 % (10:Int) ^ (59:Int).toNat)])) sl=some (.lst [V.int 2,V.int 2,V.int 3,V.int (2+v / 4 % (10:Int) ^ (59:Int).toNat)]):=Ab
  obtain⟨sh,hsh,sh2⟩:∃sh:Int,atI [V.int 2,V.int 2,V.int 3,V.int (2+v / 4 % (10:Int) ^ (59:Int).toNat)] (v % 4)=some (.int sh)∧2≤sh:=by
   rw[←hx]
   rcases(show v % 4=0∨v % 4=1∨v % 4=2∨v % 4=3 by lia) with e|e|e|e<;>rw[e]
   ·exact⟨2,Dc (by decide) rfl,by decide⟩
   ·exact⟨2,Dc (by decide) rfl,by decide⟩
   ·exact⟨3,Dc (by decide) rfl,by decide⟩
   ·exact⟨x,Dc (by decide) rfl,x2⟩
  exact⟨_,rfl,_,_,rfl,rfl,(show(0:Int)<4 by decide),sl,_,_,V.int sh,rfl,rfl,SqL.of esl,hsh,k sh _ s1 sh2⟩
theorem Jh0:Ao ["_law_many","_law_share_here"] ["_law_many","_law_share_here"] (Aj Qm):={}
def Wy(C:Addr):Sp:=fun vs H Q _=>∃(m sh:Int),vs=[.int m,.int sh]∧0≤m∧m≤12 ∧
 ∀(d:Addr)(B:BGh)(H':Hp),BesAt C H' d B→B.share=sh→B.c=0→B.ls=[]→B.qs.length=m.toNat→(∀i q G,B.qs[i]?=some (q,G)→Ph G i)→(∀b∈C1 d B,H b=none)→Bp H H'→Q (.ref d) H'
theorem Jbd{f fI:Addr}{fd dI:FuncData}(F:Fun K "_law_begun" "_law_begun" Qm f fd)(T:Txt K mg C NHd NNr MI NW)(MmH:Mk K C fI)(FI:Fun K "__init__" "House.__init__" Sr fI dI)(bI:Binds K dI ["self","number"] []):EX0 P w K mg base 3 f fd ["_law_many","_law_share_here"] (Wy C):=by
 have GI:EX0 P w K mg base 1 fI dI ["self","number"] (Hj C):=Xk FI T
 refine F.ok Jh0 (fun vs H Q E h=>?_) (fun cdv A outer s H vs Q E hr h=>?_)
 ·obtain⟨m,sh,rfl,_⟩:=h
  rfl
 ·obtain⟨m,sh,rfl,m0,m1,k⟩:=h
  refine⟨_,Af (Ar (Jc3 (Iu As (Fj (te:=Oa C (Hj C) [] E0 (Dk (Co 0) Jo)) (caps:=[]) rfl (Jz rfl T.range (Aa (pv 0) Ae))
   rfl (by decide +kernel) rfl (by decide +kernel) rfl trivial (fun y h=>Jgy h) trivial (by decide +kernel) (fun _ _ _ _ _=>Gi)
   (fun _ _ _ _ _=>Qr MmH GI hr (by rfl) T.mgC bI .nil Bj (Aa (pv 0) Ae)))
   (Iu As (pv 1) (Iu As F0 (Iu As Ag Jc0)))) rfl rfl (by intro z;cases z) (by decide))),?_⟩
  intro d hd
  have s0:=Ah (o:=.dK []) hd
  have ed:(upd H d (.dK [])) d=some (.dK []):=Ab
  generalize upd H d (.dK [])=H1 at s0 ed
  have mm:(m.toNat:Int)=m:=Int.toNat_of_nonneg m0
  refine⟨_,rfl,m,rfl,by lia,by lia,fun r hr'=>?_⟩
  have li0:Lies (upd H1 r (.lst [])) [r,d]:=(Lies.mk (L:=[d]) (by simp) (fun b hb=>by rw[ZK hb];exact⟨_,ed⟩)).new hr' ⟨_,Ab⟩ fun b o e=>⟨o,Ah hr' b o e⟩
  refine Nm (lo:=0) (n:=m.toNat) (tt:=fun _ H Q=>Q true H) (te:=Oa C (Hj C) [] E0 (Dk (Co 0) Jo)) (caps:=[]) (σ:=[some (.int m),some (.int sh)])
   (fun i ys H2=>H2 r=some (.lst ys)∧Bp H1 H2∧∃qs:List (Addr×HGh),ys=qs.map (fun q=>V.ref q.1)∧qs.length=i∧(∀j q G,qs[j]?=some (q,G)→Ph G j)∧(∀q∈qs,HouseAt C H2 q.1 q.2)∧Lies H2 (A6 qs++[r,d])∧∀b∈A6 qs,H1 b=none)
   ⟨Ab,Ah hr',[],rfl,rfl,fun j q G e=>by simp at e,fun q hq=>by simp at hq,li0,fun b hb=>by cases hb⟩ (fun i ys H2 _ h=>h.1) ?_ ?_
  ·rintro i ys H2 N hi ⟨er,s2,qs,rfl,ql,em,ho,li,fre⟩ hN
   refine Cd ?_
   refine⟨_,rfl,fun x dxx nx ndx nex=>⟨x,dxx,_,rfl,Ab,fun h o l r' H3 fh fo fl fr S3 kp3=>⟨rfl,?_⟩⟩⟩
   have s02:Bp H2 (upd (upd H2 dxx (.own x)) x (.ins C dxx [])):=fun b o e=>by
    rw[Ad (Am e nx),Ad (Am e ndx)]
    exact e
   have s3:Bp H2 H3:=fun b o e=>kp3 b o (s02 b o e) (Am e nx)
   have er3:=s3 _ _ er
   have e0:(0:Int)+(i:Int)=(i:Int):=by lia
   rw[e0] at S3
   have nwb:∀b∈x::foot ⟨(i:Int),0,0,h,o,l,r',[],[],[],[]⟩,H2 b=none:=fun b hb=>by
    rcases ZM hb with rfl|hb
    ·exact nx
    ·simp only[foot,List.map_nil,List.mem_cons,List.not_mem_nil,or_false] at hb
     rcases hb with rfl|rfl|rfl|rfl
     ·exact B5 s02 fh
     ·exact B5 s02 fo
     ·exact B5 s02 fl
     ·exact B5 s02 fr
   refine⟨er3,A3 (by rw[ZA];lia),hN _ _ ⟨Ab,fun b o e=>?_,qs++[(x,⟨(i:Int),0,0,h,o,l,r',[],[],[],[]⟩)],by rw[ZF];rfl,by rw[ZE,ql];rfl,fun j q G e=>?_,fun q hq=>?_,?_,fun b hb=>?_⟩⟩
   ·rw[Ad (fun z=>by rw[z,hr'] at e;cases e)]
    exact s3 _ _ (s2 _ _ e)
   ·by_cases z:j<qs.length
    ·rw[List.getElem?_append_left z] at e
     exact em j q G e
    ·rw[List.getElem?_append_right (by lia)] at e
     have zj:j-qs.length=0:=by
      rcases Nat.eq_zero_or_pos (j-qs.length) with h|h
      ·exact h
      ·rw[List.getElem?_eq_none (by simp;lia)] at e;cases e
     rw[zj] at e
     have e:(x,(⟨(i:Int),0,0,h,o,l,r',[],[],[],[]⟩:HGh))=(q,G):=by simpa using e
     have ej:j=i:=by lia
     rw[ej,←(Prod.mk.inj e).2]
     exact⟨_,_,_,_,rfl⟩
   ·have all:∀q∈qs++[(x,(⟨(i:Int),0,0,h,o,l,r',[],[],[],[]⟩:HGh))],HouseAt C H3 q.1 q.2:=fun q hq=>by
     rcases ZI hq with hq|hq
     ·exact(ho q hq).same s3
     ·rw[ZK hq];exact S3
    have hq3:=all q hq
    have ne:=hq3.lst_ne er3
    exact hq3.keep fun b o hb e=>by
     rw[Ad (fun z=>by rw[z] at hb;exact hb.elim ne.1 ne.2)];exact e
   ·have a1:Lies H3 ((x::foot ⟨(i:Int),0,0,h,o,l,r',[],[],[],[]⟩)++(A6 qs++[r,d])):=by
     refine li.add (List.nodup_cons.mpr ⟨fun m=>S3.p_ne m rfl,S3.nd⟩) nwb (fun b hb=>?_) fun b o e=>⟨o,s3 b o e⟩
     ·rcases ZM hb with rfl|hb
      ·obtain⟨d,e⟩:=S3.ob;exact⟨_,e⟩
      ·obtain⟨kv,e⟩:=S3.foot_dT hb;exact⟨_,e⟩
    have a2:A6 (qs++[(x,(⟨(i:Int),0,0,h,o,l,r',[],[],[],[]⟩:HGh))])++[r,d]=(A6 qs++(x::foot ⟨(i:Int),0,0,h,o,l,r',[],[],[],[]⟩))++[r,d]:=by
     rw[Cv]
     show(A6 qs++((x::foot ⟨(i:Int),0,0,h,o,l,r',[],[],[],[]⟩)++[]))++[r,d]=_
     rw[List.append_nil]
    rw[a2]
    refine((a1.perm ?_).keep fun b o e=>?_)
    ·rw[←List.append_assoc]
     exact List.Perm.append_right _ List.perm_append_comm
    ·by_cases z:b=r
     ·rw[z];exact⟨_,Ab⟩
     ·exact⟨o,by rw[Ad z];exact e⟩
   ·rw[Cv] at hb
    rcases ZI hb with hb|hb
    ·exact fre b hb
    ·have hb:b∈(x::foot ⟨(i:Int),0,0,h,o,l,r',[],[],[],[]⟩)++[]:=hb
     rw[List.append_nil] at hb
     exact B5 s2 (nwb b hb)
  ·rintro ys H2 ⟨er,s2,qs,rfl,ql,em,ho,li,fre⟩
   refine⟨_,rfl,fun pd hpd=>?_⟩
   have li3:=li.new (H':=upd H2 pd (.dK [])) hpd ⟨_,Ab⟩ fun b o e=>⟨o,Ah hpd b o e⟩
   have epd:(upd H2 pd (.dK [])) pd=some (.dK []):=Ab
   have s3:=Ah (o:=.dK []) hpd
   generalize upd H2 pd (.dK [])=H3 at li3 epd s3
   refine⟨s3 _ _ (s2 _ _ ed),B9 ⟨r,pd,sh,0,[],qs⟩,rfl,(by show 4≤15;decide),?_⟩
   rw[Jf5]
   have pm:(pd::(A6 qs++[r,d])).Perm ([d,r,pd]++A6 qs):=by
    have a:(A6 qs++[r,d]).Perm ([r,d]++A6 qs):=List.perm_append_comm
    exact(a.cons pd).trans (List.Perm.append_right _ (List.reverse_perm [d,r,pd]))
   have nd':=pm.nodup_iff.mp li3.nd
   have tn:=(List.nodup_append.mp nd').1
   simp only[List.nodup_cons,List.mem_cons,List.not_mem_nil,or_false,not_or,List.nodup_nil,and_true,not_false_eq_true] at tn
   obtain⟨⟨a1,a2⟩,a3⟩:=tn
   have hno:∀b∈A6 qs,b≠d:=fun b hb z=>(List.nodup_append.mp nd').2.2 d (by simp) b hb z.symm
   refine k d ⟨r,pd,sh,0,[],qs⟩ _ ⟨Ab,by rw[Ad (fun z=>a1 z.symm)];exact s3 _ _ er,fun q hq=>((ho q hq).same s3).keep fun b o hb e=>?_,by rw[Ad (fun z=>a2 z.symm)];exact epd,(fun l hl=>by cases hl),List.Pairwise.nil,nd'⟩ rfl rfl rfl ql em (fun b hb=>?_) fun b o e=>?_
   ·rw[Ad (hno b (mem_hfoot.mpr ⟨q,hq,hb⟩))];exact e
   ·rcases ZI hb with hb|hb
    ·simp only[Cf,List.mem_cons,List.not_mem_nil,or_false] at hb
     rcases hb with rfl|rfl|rfl
     ·exact hd
     ·exact B5 s0 hr'
     ·exact B5 s0 (B5 s2 hpd)
    ·exact B5 s0 (fre b hb)
   ·rw[Ad (Am e hd)]
    exact s3 _ _ (s2 _ _ (s0 _ _ e))
end
theorem Ji9{M G:HGh}{os:List (T2×Int×List T2)}(x:Like M G)(R:Rows G os):Rows M os:=by
 refine⟨by rw[x.outs];exact R.pm,R.pw,fun q hq=>?_⟩
 obtain⟨h1,a,hl,h2,h3⟩:=R.at_ q hq
 refine⟨by rw[x.outs];exact h1,?_⟩
 have e:=My M.holds q.1
 rw[x.holds,My,h2] at e
 cases f:M.holds.find? fun z=>decide (z.1=q.1) with
 | none=>rw[f] at e;cases e
 | some r =>
   rw[f] at e
   have e:(q.1,hl)=(r.1,r.2.2):=ZO e
   obtain⟨e1,e2⟩:=Prod.mk.inj e
   exact⟨r.2.1,hl,by rw[e1,e2],h3⟩
theorem Sk{ms ns:List Int}(pm:ms.Perm ns)(pw:ms.Pairwise (·≤·))(up:ns.Pairwise (· < ·)):ms=ns:=pm.eq_of_pairwise (fun a b _ _ h1 h2=>Int.le_antisymm h1 h2) pw (up.imp fun h=>Int.le_of_lt h)
section
variable {P:Program}{w:World}{K:W.Frag}{mg:Str→Option Value}{base:Heap}{CW C CP NH NI NL NHd NNr MI NW:Addr}
theorem scSa:Ao ["_law_world","_law_beside","_law_h","_law_house"] ["_law_world","_law_beside"] (Aj Xa):={}
def Vg(CW C CP:Addr):Sp:=fun vs H Q _=>∃(p d:Addr)(W:WGh)(B:BGh)(m n:Nat)(ls:List LT),vs=[.ref p,.ref d]∧St CW C CP H p W d B m n ls∧n≤60∧∀H',Bp H H'→Q (.bl true) H'
def Jgb:TE:=Ob (Ob (Co 1) (tC (.str "letters"))) (Co 0)
theorem Jdb{f fL fS fT fs ft:Addr}{fd dL dS dT ds dt:FuncData}(F:Fun K "_law_same" "_law_same" Xa f fd)(T:Txt K mg C NHd NNr MI NW)(TW:En K mg CW NH NI)(ML:Mth K CW "letters" "World.letters" Ea ["self"] fL dL)(GL:EX0 P w K mg base 2 fL dL ["self"] (Ee CW C CP))(MS:Mth K CW "state" "World.state" Ic ["self","h"] fS dS)(GS':EX1 P w K mg base 3 fS dS ["self","h"] (E3 CW C CP NH K))(MT:Mth K CW "tick" "World.tick" P9 ["self","h"] fT dT)(GT':EX1 P w K mg base 2 fT dT ["self","h"] (K5 CW C CP NH))(Ms:Mth K C "state" "House.state" Jv ["self"] fs ds)(Gs:EX0 P w K mg base 2 fs ds ["self"] (Fd C K))(Mt:Mth K C "tick" "House.tick" Sm ["self"] ft dt)(Gt:EX0 P w K mg base 1 ft dt ["self"] (Lp C)) :
 EX0 P w K mg base 4 f fd ["_law_world","_law_beside"] (Vg CW C CP):=by
 have GS:EX0 P w K mg base 3 fS dS ["self","h"] (fun vs H Q _=>E3 CW C CP NH K vs H Q E0):=FX.FnOk.no GS'
 have GT:EX0 P w K mg base 2 fT dT ["self","h"] (fun vs H Q _=>K5 CW C CP NH vs H Q E0):=FX.FnOk.no GT'
 refine F.ok scSa (fun vs H Q E h=>?_) (fun cdv A outer s H vs Q E hr h=>?_)
 ·obtain⟨p,d,W,B,m,n,ls,rfl,_⟩:=h
  rfl
 ·obtain⟨p,d,W,B,m,n,ls,rfl,S,hn,k⟩:=h
  have hu:=Cm hr
  have hr1:Room 1 _:=hr.mono (by decide)
  have hr2:Room 2 _:=hr.mono (by decide)
  have hr3:Room 3 _:=hr.mono (by decide)
  refine⟨_,Ac (A9 (Au (Qv (K1 hr)) (Cg (pl:=_) (pv 0) TW.cl ML.mt GL hr2 ML.bd .nil Bj) (Fj (te:=Jgb) (caps:=[("_law_beside",1)]) rfl (Dq (Bv (Jk rfl) (by rfl) T.sorted PyProof.Rows.boot_sorted (Aa (Be hu (pv 1) As) Ae)))
   rfl (by decide +kernel) rfl (by decide +kernel) rfl ⟨rfl,trivial⟩ (fun y h=>Rm ⟨_,rfl⟩ h) ⟨⟨rfl,rfl,rfl,rfl⟩,trivial⟩ (by decide +kernel) (fun _ _ _ _ _=>Gi) (fun _ _ _ _ _=>Be hu (Be hu (pv 1) As) (pv 0))) (A0 _)) (Af (Ar Fp)) Ax)
   (Ac (Ho PassesOwn.never rfl (Jz rfl T.range (Aa (Bv Br (by rfl) T.len PySem.boot_len (Aa (Be hu (pv 1) As) Ae)) Ae)) (Bq (i:=2) scSa.nd rfl (Or.inl rfl))
    (Ac (Az (i:=3) scSa.nd rfl (Or.inl rfl) (Av Cz (Be hu (pv 1) As) (pv 2)))
    (Af (A9 (Ji7 (Oh (Au (Qv (K1 hr)) (Ap (pl:=_) (pv 0) TW.cl MS.mt GS hr3 MS.bd .nil Bj (Aa (pv 2) Ae)) (Cg (pl:=_) (pv 3) T.cl Ms.mt Gs hr2 Ms.bd .nil Bj) (A0 _))
     (Jx (Au Xj (Ap (pl:=_) (pv 0) TW.cl MT.mt GT hr2 MT.bd .nil Bj (Aa (pv 2) Ae)) (Cg (pl:=_) (pv 3) T.cl Mt.mt Gt hr1 Mt.bd .nil Bj) (A0 _))))) (Af (Ar Fp)) Ax))))
   (Af (Ar Fp))),?_⟩
  obtain⟨dx,hp⟩:=S.wa.ob
  have m12:=S.wl.m12
  have lenB:=S.lenB
  have qlen:B.qs.length=m:=by rw[Paired.length S.al,S.wl.len]
  refine⟨_,rfl,p,dx,_,rfl,hp,Dj W (by decide +kernel),p,W,rfl,S.wa,fun l H1 hl el s1=>?_⟩
  have S1:=S.same s1
  have ek:(kvsOf B.ls).map (·.1)=(B.ls.map (·.1)).map Sum.inl:=by unfold kvsOf;rw[List.map_map,List.map_map];rfl
  refine⟨_,rfl,d,_,rfl,Fm S1.ba.ob,B.pd,_,_,rfl,S1.ba.pd,ek,by rw[ZA];lia,fun r ms hr' pm pw=>?_⟩
  have eq:=Sk pm pw S1.ba.up
  subst eq
  refine⟨r,rfl,⟨_,SqL.of Ab⟩,fun t ht=>?_⟩
  have s2:=Ah (o:=.lst ((B.ls.map (·.1)).map V.int)) hr'
  have er:(upd H1 r (.lst ((B.ls.map (·.1)).map V.int))) r=some (.lst ((B.ls.map (·.1)).map V.int)):=Ab
  generalize upd H1 r (.lst ((B.ls.map (·.1)).map V.int))=H2 at s2 er ht
  have S2:=S1.same s2
  have s3:=Ah (o:=.lst []) ht
  refine Fb (K:=K) (a:=r) (xs:=(B.ls.map (·.1)).map V.int) (tt:=fun _ H Q=>Q true H) (te:=Jgb) (caps:=[("_law_beside",1)])
   (fun i ys Hc=>Hc t=some (.lst ys)∧Bp H2 Hc∧ys=(B.ls.take i).map (fun y=>V.ref y.2))
   ⟨Ab,s3,rfl⟩ (fun i ys Hc _ hc=>⟨SqL.of (hc.2.1 _ _ er),hc.1⟩) ?_ ?_
  ·rintro i x ys Hc N hi ⟨et,sc,rfl⟩ hN
   refine Cd ?_
   rw[List.map_map,ZH] at hi
   cases hb:B.ls[i]? with
   | none=>rw[hb] at hi;cases hi
   | some y =>
     rw[hb] at hi
     obtain⟨num,ta⟩:=y
     have hi:V.int num=x:=ZO hi
     subst hi
     have hib:=(ZJ hb).1
     have Sc:=S2.same sc
     have gv:DGet Hc B.pd (.int num) (some (.ref ta)):=by
      have:=DGet.k (k:=.inl num) Sc.ba.pd
      obtain⟨l1,l2,esp⟩:=List.append_of_mem (ZP hb)
      have nd:=Jek Sc.ba.up
      rw[Gq] at this
      rw[esp] at nd this
      rw[Na nd] at this
      exact this
     refine⟨_,rfl,d,_,rfl,Fm Sc.ba.ob,_,rfl,B.pd,_,rfl,gv,et,A3 (by rw[ZA,List.length_take];lia),hN _ _ ⟨?_,fun b o e=>?_,?_⟩⟩
     ·exact Ab
     ·rw[Ad (Am e ht)];exact sc b o e
     ·rw[List.take_add_one,hb,ZF];rfl
  ·rintro ys H3 ⟨et,sc,rfl⟩
   have S3:=S2.same sc
   have s13:=Ak s2 sc
   rw[ZA,ZA,List.take_length] at et
   refine⟨_,_,.lst (SqL.of (s13 _ _ el)) (E9 S3.lw),.lst (SqL.of et) (E9 S3.lb),Ds (Ej S.wl.ok),Ds (Ej S.wl.ok),_,rfl,?_⟩
   rw[S.nm,F8 (Ds (Ej S.wl.ok))]
   refine B0 ?_
   have s03:=Ak s1 s13
   clear el s1 s2 sc s13 S1 S2 s3 et er
   refine⟨_,rfl,d,_,rfl,Bi S3.ba.ob,B.hs,_,rfl,.inl (SqL.of S3.ba.hs),_,rfl,by rw[ZA];lia,by rw[ZA];lia,?_⟩
   refine Ze (lo:=0) (n:=(((B.qs.map fun q=>V.ref q.1).length:Nat):Int).toNat) (fun i σ Hc=>Bp H Hc∧∃u v,σ=[some (.ref p),some (.ref d),u,v]) ⟨s03,_,_,rfl⟩ ?_ ?_
   ·rintro i σ Hc hi ⟨sc,u,v,rfl⟩
    have Sc:=S.same sc
    rw[ZA,Int.toNat_natCast,qlen] at hi
    have e0:(0:Int)+(i:Int)=(i:Int):=by lia
    rw[e0]
    obtain⟨⟨q,G⟩,hq⟩:=A1 (xs:=W.qs) (j:=i) (by rw[S.wl.len];exact hi)
    obtain⟨r,M,hB,lk⟩:=C7 S.al hq
    have iw:InW W (i:Int) q G:=⟨by lia,by rw[Int.toNat_natCast];exact hq⟩
    have iB:InB B (i:Int) r M:=⟨by lia,by rw[Int.toNat_natCast];exact hB⟩
    have gd:=S.wl.good hn hq
    have gM:=(S.wl.like S.al).good hn hB
    obtain⟨hs,os,rs,tld⟩:=gd.told
    obtain⟨dxc,hpc⟩:=Sc.wa.ob
    refine⟨_,rfl,d,_,rfl,Bi Sc.ba.ob,_,rfl,B.hs,_,_,_,rfl,rfl,SqL.of Sc.ba.hs,iB.atI,?_⟩
    refine⟨_,rfl,p,dxc,_,rfl,hpc,Dj W (by decide +kernel),_,rfl,p,(i:Int),W,rfl,Sc.wa,.inr ⟨q,G,iw,q,G,hs,os,rs,rfl,iw.at Sc.wa,gd.h2,gd.o2,gd.r2,tld.pm,tld.pw,tld.rw_,tld.pr,tld.wr,fun x1 Ha sa st1=>?_⟩⟩
    have Sa:=Sc.same sa
    obtain⟨dxa,hqa⟩:=(iB.at Sa.ba).ob
    refine⟨_,rfl,r,dxa,_,rfl,hqa,Bk M (by decide +kernel),r,M,hs,os,rs,rfl,iB.at Sa.ba,gM.h2,gM.o2,gM.r2,by rw[lk.hand];exact tld.pm,tld.pw,Ji9 lk tld.rw_,by rw[lk.recs];exact tld.pr,tld.wr,fun x2 Hb sb st2=>?_⟩
    refine⟨_,_,.one (RepT.keep (Ji0 sb) st1.rep),.one st2.rep,Pt hs os rs,Pt hs os rs,_,rfl,?_⟩
    rw[F8 (Pt hs os rs)]
    refine B0 ?_
    have Sb:=Sa.same sb
    obtain⟨dxb,hpb⟩:=Sb.wa.ob
    obtain⟨dxr,hqb⟩:=(iB.at Sb.ba).ob
    refine⟨_,rfl,p,dxb,_,rfl,hpb,Dj W (by decide +kernel),_,rfl,p,(i:Int),W,rfl,Sb.wa,.inr ⟨q,G,iw,q,G,rfl,iw.at Sb.wa,_,rfl,r,dxr,_,rfl,hqb,Bk M (by decide +kernel),r,M,rfl,iB.at Sb.ba,rfl,_,rfl,?_⟩⟩
    rw[show(!decide (V.int G.ticks=V.int M.ticks))=false by rw[lk.ticks];simp]
    exact B0 ⟨Ak sc (Ak sa sb),_,_,rfl⟩
   ·rintro σ Hc ⟨sc,u,v,rfl⟩
    exact k _ sc
end
theorem F5{K:W.Frag}{n:String}(h:n="tuple"∨n="int"∨n="NoneType"):W.kitOne K (.type n) (.type "list")=some false:=by
 rcases h with rfl|rfl|rfl<;>(unfold W.kitOne;rfl)
theorem Jb1(ns:List Int)(lo hi:Option Int):∃cs:List Int,Ht (ns.map V.int) lo hi=cs.map V.int:=by
 unfold Ht
 exact⟨(ns.drop (HT.sIx (ns.map V.int).length 0 lo)).take (HT.sIx (ns.map V.int).length (ns.map V.int).length hi-HT.sIx (ns.map V.int).length 0 lo),by rw[List.map_take,List.map_drop]⟩
theorem Jg3(xs:List V):(Ht xs (some 2) (some 52)).length≤50:=by
 unfold Ht
 rw[List.length_take,show HT.sIx xs.length xs.length (some 52)=min 52 xs.length from HT.sIx_nat _ _ 52,show HT.sIx xs.length 0 (some 2)=min 2 xs.length from HT.sIx_nat _ _ 2]
 omega
structure Hl(K:W.Frag)(H:Hp)(whs bhs hd:Addr)(ps:List Addr):Prop where
 at_:H hd=some (.lst (ps.map V.ref))
 n1:hd≠whs
 n2:hd≠bhs
 all:∀t∈ps,∃(a b:Addr)(vs:List V)(ds:List PyData),H t=some (.tup [.ref a,.ref b])∧H a=some (.lst vs)∧H b=some (.lst vs)∧Paired (RepT K H) vs ds∧Okd (.list ds)∧(a≠whs∧a≠bhs∧a≠hd)∧b≠whs∧b≠bhs∧b≠hd
theorem Gh{K:W.Frag}{H H':Hp}(k:KeepT H H'){vs:List V}{ds:List PyData}(p:Paired (RepT K H) vs ds):Paired (RepT K H') vs ds:=Ay (fun _ _ r=>r.keep k) p
section
variable {K:W.Frag}{H H':Hp}{whs bhs hd:Addr}{ps:List Addr}
theorem Hl.keep(x:Hl K H whs bhs hd ps)(k:KeepT H H')(kl:∀b xs,H b=some (.lst xs)→b≠whs→b≠bhs→H' b=some (.lst xs)):Hl K H' whs bhs hd ps:=by
 refine⟨kl _ _ x.at_ x.n1 x.n2,x.n1,x.n2,fun t ht=>?_⟩
 obtain⟨a,b,vs,ds,e1,e2,e3,r,o,⟨h1,h2,h3⟩,h4,h5,h6⟩:=x.all t ht
 exact⟨a,b,vs,ds,k.tup _ _ e1,kl _ _ e2 h1 h2,kl _ _ e3 h4 h5,Gh k r,o,⟨h1,h2,h3⟩,h4,h5,h6⟩
theorem Hl.same(x:Hl K H whs bhs hd ps)(s:Bp H H'):Hl K H' whs bhs hd ps:=x.keep (Ji0 s) fun b xs e _ _=>s _ _ e
theorem Hl.kt(x:Hl K H whs bhs hd ps)(o:HO):KeepT H (upd H hd o):=Ji1 fun o' e=>by
 rw[x.at_] at e;cases e;exact⟨fun _ z=>(by cases z),fun _ _ z=>(by cases z)⟩
theorem Hl.add(x:Hl K H whs bhs hd ps){t a b:Addr}{vs:List V}{ds:List PyData}(e1:H t=some (.tup [.ref a,.ref b]))(e2:H a=some (.lst vs))(e3:H b=some (.lst vs))(r:Paired (RepT K H) vs ds)(o:Okd (.list ds))(na:a≠whs∧a≠bhs∧a≠hd)(nb:b≠whs∧b≠bhs∧b≠hd) :
 Hl K (upd H hd (.lst (ps.map V.ref++[.ref t]))) whs bhs hd (ps++[t]):=by
 have kt:=x.kt (.lst (ps.map V.ref++[.ref t]))
 refine⟨by rw[ZF];exact Ab,x.n1,x.n2,fun u hu=>?_⟩
 have hu':∃(a b:Addr)(vs:List V)(ds:List PyData),H u=some (.tup [.ref a,.ref b])∧H a=some (.lst vs)∧H b=some (.lst vs)∧Paired (RepT K H) vs ds∧Okd (.list ds)∧(a≠whs∧a≠bhs∧a≠hd)∧b≠whs∧b≠bhs∧b≠hd:=by
  rcases ZI hu with hu|hu
  ·exact x.all u hu
  ·rw[ZK hu];exact⟨a,b,vs,ds,e1,e2,e3,r,o,na,nb⟩
 obtain⟨a,b,vs,ds,e1,e2,e3,r,o,na,nb⟩:=hu'
 exact⟨a,b,vs,ds,kt.tup _ _ e1,by rw[Ad na.2.2];exact e2,by rw[Ad nb.2.2];exact e3,Gh kt r,o,na,nb⟩
end
section
variable {CW C CP p d:Addr}{H H1:Hp}{W:WGh}{B:BGh}{m:Nat}
theorem Jp{t:T2}:∀{l:List (Addr×HGh)},(∀z∈l,z.2.recs=[]∧z.2.outs=[])→Eu t l=0∧Gy l=0
 | [],_=>⟨rfl,rfl⟩
 | z::l,h=>by
   obtain⟨h1,h2⟩:=Jp (t:=t) fun y hy=>h y (ZD _ hy)
   obtain⟨h3,h4⟩:=h z (ZL ..)
   refine⟨?_,?_⟩
   ·show bal t z.2+Eu t l=0
    unfold bal
    rw[h1,h3,h4];rfl
   ·show z.2.recs.length+Gy l=0
    rw[h2,h3];rfl
theorem Jep{n mm tk:Int}{h o l r:Addr}{t:T2}(ht:Hd2 ⟨n,mm,tk,h,o,l,r,[],[],[],[]⟩ t):False:=by
 rcases ht with ht|⟨q,hq,_⟩
 ·cases ht
 ·cases hq
theorem Z8{i:Nat}{h o l r:Addr}(hi:i<m):Sd m ⟨(i:Int),0,0,h,o,l,r,[],[],[],[]⟩ 0 :=
 ⟨⟨List.nodup_nil,ZG _,List.nodup_nil,ZG _,rfl,List.nodup_nil,ZG _,fun q hq=>(by cases hq),fun q hq=>(by cases hq),fun q hq=>(by cases hq),fun q hq=>(by cases hq),fun q hq=>(by cases hq)⟩,fun q hq=>(by cases hq),fun t ht=>(Jep ht).elim,fun t ht=>(Jep ht).elim,fun t ht=>(by cases ht),by show(0:Int)≤(i:Int);omega,by show(i:Int)<(m:Int);omega,Int.le_refl _,Int.le_refl _⟩
theorem St.start(S:WorldAt CW C CP H1 p W)(e2:W.c=0)(e3:W.ls=[])(e7:W.qs.length=m)(e8:∀i q G,W.qs[i]?=some (q,G)→Ph G i)(B1:BesAt C H1 d B)(f1:B.share=W.share)(f2:B.c=0)(f3:B.ls=[])(f4:B.qs.length=m)(f5:∀i q G,B.qs[i]?=some (q,G)→Ph G i)(dj:∀b,b∈Cs p W→b∉C1 d B)(m1:0<m)(m2:m≤12)(sh:2≤W.share):St CW C CP H1 p W d B m 0 []:=by
 have em:∀z∈W.qs,z.2.recs=[]∧z.2.outs=[]:=fun z hz=>by
  obtain⟨i,hi⟩:=List.mem_iff_getElem?.mp hz
  obtain⟨_,_,_,_,e⟩:=e8 i z.1 z.2 hi
  rw[e];exact⟨rfl,rfl⟩
 refine⟨S,B1,dj,⟨e7,m2,fun i q G hi=>?_,fun l hl=>(by cases hl),fun t=>?_,?_,sh⟩,?_,by rw[e3];exact .nil,by rw[f3];exact .nil,by rw[e3,f3],by rw[e2,f2],f1,m1⟩
 ·have hl:i<m:=by rw[←e7];exact(ZJ hi).1
  obtain⟨_,_,_,_,e⟩:=e8 i q G hi
  rw[e]
  exact⟨Z8 hl,rfl⟩
 ·rw[(Jp (t:=t) em).1];rfl
 ·rw[(Jp (t:=(0,0)) em).2];exact ZG _
 ·refine Dl (by rw[f4,e7]) fun j x y h1 h2=>?_
  obtain⟨_,_,_,_,a⟩:=f5 j x.1 x.2 h1
  obtain⟨_,_,_,_,b⟩:=e8 j y.1 y.2 h2
  rw[a,b]
  exact⟨rfl,rfl,rfl,rfl,rfl,rfl,rfl⟩
end
section
variable {P:Program}{w:World}{K:W.Frag}{mg:Str→Option Value}{base:Heap}{CW C CP NH NI NL NHd NNr MI NW:Addr}
structure Tg where
 p:Addr
 d:Addr
 hd:Addr
 cl:Addr
 y:Addr
 m:Nat
 j:Nat
 W:WGh
 B:BGh
 ls:List LT
 ps:List Addr
 c:Int
 sh:Int
 fr:Bool
 xs:List V
def TgS(a:Addr)(g:Tg)(u9:Option V):L2.St:=[some (.ref a),some (.int (g.m:Int)),some (.bl g.fr),some (.int g.sh),some (.ref g.p),some (.ref g.d),some (.ref g.hd),some (.int g.c),some (.ref g.y),u9,none,none]
structure TgI(K:W.Frag)(CW C CP:Addr)(g:Tg)(ps:List Addr)(H:Hp):Prop where
 st:St CW C CP H g.p g.W g.d g.B g.m (g.j+1) g.ls
 cl:H g.cl=some (.lst g.xs)
 hl:Hl K H g.W.hs g.B.hs g.hd ps
 n1:g.cl≠g.W.hs
 n2:g.cl≠g.B.hs
 n3:g.cl≠g.hd
 j:g.j<50
theorem TgI.same{K:W.Frag}{CW C CP:Addr}{g:Tg}{ps:List Addr}{H H':Hp}(x:TgI K CW C CP g ps H)(s:Bp H H'):TgI K CW C CP g ps H':=⟨x.st.same s,s _ _ x.cl,x.hl.same s,x.n1,x.n2,x.n3,x.j⟩
theorem TgI.add{K:W.Frag}{CW C CP:Addr}{g:Tg}{ps:List Addr}{H:Hp}(x:TgI K CW C CP g ps H){t a b:Addr}{vs:List V}{ds:List PyData}(e1:H t=some (.tup [.ref a,.ref b]))(e2:H a=some (.lst vs))(e3:H b=some (.lst vs))(r:Paired (RepT K H) vs ds)(o:Okd (.list ds))(na:a≠g.W.hs∧a≠g.B.hs∧a≠g.hd)(nb:b≠g.W.hs∧b≠g.B.hs∧b≠g.hd) :
 TgI K CW C CP g (ps++[t]) (upd H g.hd (.lst (ps.map V.ref++[.ref t]))):=by
 have h1:=x.st.wa.lst_no x.hl.at_ x.hl.n1
 have h2:=x.st.ba.lst_no x.hl.at_ x.hl.n2
 have kt:=x.hl.kt (.lst (ps.map V.ref++[.ref t]))
 refine⟨⟨x.st.wa.keep fun b o hb e=>by rw[Ad (fun z=>h1 (by rw[←z];exact hb))];exact e,x.st.ba.keep fun b o hb e=>by rw[Ad (fun z=>h2 (by rw[←z];exact hb))];exact e,x.st.dj,x.st.wl,x.st.al,A5 x.st.lw kt,A5 x.st.lb kt,x.st.nm,x.st.c,x.st.sh,x.st.m1⟩,by rw[Ad x.n3];exact x.cl,x.hl.add e1 e2 e3 r o na nb,x.n1,x.n2,x.n3,x.j⟩
def Jin(a:Addr)(v0:Unit)(H0:Hp)(g:Int×Bool)(σ:L2.St)(H:Hp):Prop:=H=H0∧σ=[some (.ref a),some (.int g.1),some (.bl g.2),none,none,none,none,none,none,none,none,none]∧1≤g.1∧g.1≤12
def Jg8(a:Addr)(H0:Hp)(g:Int×Bool)(σ:L2.St)(H:Hp):Prop:=H=H0∧∃m:Nat,1≤m∧m≤12∧σ=[some (.ref a),some (.int (m:Int)),some (.bl g.2),none,none,none,none,none,none,none,none,none]
def Jim(K:W.Frag)(CW C CP a:Addr)(g:Tg)(σ:L2.St)(H:Hp):Prop:=(∃u9,σ=TgS a g u9)∧TgI K CW C CP g g.ps H∧g.ps.length≤2*g.j∧∃(rr:Str)(v:V)(an:An),H g.y=some (.tup [.str rr,v])∧AnV H v an∧∀l,an=.nums l→∃b,v=.ref b∧b≠g.W.hs∧b≠g.hd
def Jg7(K:W.Frag)(CW C CP a:Addr)(g:Tg)(σ:L2.St)(H:Hp):Prop:=(∃u9,σ=TgS a g u9)∧∃ps,TgI K CW C CP g ps H∧ps.length≤2*g.j+1
theorem scL:Ao ["_law_script","_law_many","_law_free","_law_share_here","_law_world","_law_beside","_law_held","_law_cell_here","_law_told","_law_letters","_law_one","_law_other"] ["_law_script"] (Aj Yj):={}
def Wx(K:W.Frag):Sp:=fun vs H Q _=>∃(a:Addr)(ns:List Int),vs=[.ref a]∧Scr K H a (ns.map V.int)∧ns.length≤63∧∀H',Q (.bl true) H'
theorem Jfk{f fW fC fS fB fO fD fE fL:Addr}{fd dW dC dS dB dO dD dE dL:FuncData}(F:Fun K "law" "law" Yj f fd)(T:Txt K mg C NHd NNr MI NW)(Tx:Jb9 mg)(TW:En K mg CW NH NI)(MmW:Mk K CW fW)(bW:Binds K dW ["self","many","share"] [])(GW:EX0 P w K mg base 3 fW dW ["self","many","share"] (Wq CW C CP))(MC:Gdf K mg "_law_cell" Sx ["_law_script","_law_k"] fC dC)(MS:Gdf K mg "_law_share" Qj ["_law_script"] fS dS)(MB:Gdf K mg "_law_begun" Qm ["_law_many","_law_share_here"] fB dB)(GB:EX0 P w K mg base 3 fB dB ["_law_many","_law_share_here"] (Wy C))(MO:Gdf K mg "_law_both" Xe ["_law_world","_law_beside","_law_deed_here"] fO dO)(GO:EX0 P w K mg base 7 fO dO ["_law_world","_law_beside","_law_deed_here"] (Vj CW C CP))(MD:Gdf K mg "_law_deed" Sw ["_law_world","_law_many","_law_cell_here","_law_asks","_law_free"] fD dD)(GD:EX0 P w K mg base 4 fD dD ["_law_world","_law_many","_law_cell_here","_law_asks","_law_free"] (Vh CW C CP))(ME:Gdf K mg "_law_same" Xa ["_law_world","_law_beside"] fE dE)(GE:EX0 P w K mg base 4 fE dE ["_law_world","_law_beside"] (Vg CW C CP))(ML:Mth K CW "letters" "World.letters" Ea ["self"] fL dL)(GL:EX0 P w K mg base 2 fL dL ["self"] (Ee CW C CP)):EX0 P w K mg base 8 f fd ["_law_script"] (Wx K):=by
 have GC:EX0 P w K mg base 1 fC dC ["_law_script","_law_k"] (Vi K):=Xl MC.fn T.len
 have GS:EX0 P w K mg base 2 fS dS ["_law_script"] (Wu K):=Ja7 MS.fn T.len MC
 refine F.ok scL (fun vs H Q E h=>?_) (fun cdv A outer s H vs Q E hr h=>?_)
 ·obtain⟨a,ns,rfl,_⟩:=h
  rfl
 ·obtain⟨a,ns,rfl,hS,hlen,k⟩:=h
  have hr1:Room 1 _:=hr.mono (by decide)
  have hr2:Room 2 _:=hr.mono (by decide)
  have hr3:Room 3 _:=hr.mono (by decide)
  have hr4:Room 4 _:=hr.mono (by decide)
  refine⟨_,Ac (Az (i:=1) scL.nd rfl (Or.inl rfl) (Bc F2 Ag (Bc Cc (Bw GC hr1 (by rfl) MC.mg MC.fn.kp MC.bd .nil Bj (Aa (pv 0) (Aa Ag Ae))) Ag)))
   (Ac (Az (i:=2) scL.nd rfl (Or.inl rfl) (Lf Bx (Bc Cc (Bc D8 (Bw GC hr1 (by rfl) MC.mg MC.fn.kp MC.bd .nil Bj (Aa (pv 0) (Aa Ag Ae))) Ag) Ag) Ag (A0 _)))
   (Ac (Jiv (Jin a () H) (Jg8 a H) (fun _ _=>False) (A9 (Au Bx (Bc Cc (Bc D8 (Bw GC hr1 (by rfl) MC.mg MC.fn.kp MC.bd .nil Bj (Aa (pv 0) (Aa Ag Ae))) Ag) Ag) Ag (A0 _)) (Af (Az (i:=1) scL.nd rfl (Or.inl rfl) Ag)) Ax) ?if1)
   (Ac (Az (i:=3) scL.nd rfl (Or.inl rfl) (Bw GS hr2 (by rfl) MS.mg MS.fn.kp MS.bd .nil Bj (Aa (pv 0) Ae)))
   (Ac (Az (i:=4) scL.nd rfl (Or.inl rfl) (Qr MmW GW hr4 (by rfl) TW.mgC bW .nil Bj (Aa (pv 1) (Aa (pv 3) Ae))))
   (Ac (Az (i:=5) scL.nd rfl (Or.inl rfl) (Bw GB hr3 (by rfl) MB.mg MB.fn.kp MB.bd .nil Bj (Aa (pv 1) (Aa (pv 3) Ae))))
   (Ac (Az (i:=6) scL.nd rfl (Or.inl rfl) (Fi Ae))
   (Ac (Ho PassesOwn.never rfl (Dq (Jaq Jcj (pv 0) (Xi Ag) (Xi Ag))) (Bq (i:=7) scL.nd rfl (Or.inl rfl))
    (Ac (Az (i:=8) scL.nd rfl (Or.inl rfl) (Bw GO hr (by rfl) MO.mg MO.fn.kp MO.bd .nil Bj (Aa (pv 4) (Aa (pv 5) (Aa (Bw GD hr4 (by rfl) MD.mg MD.fn.kp MD.bd .nil Bj (Aa (pv 4) (Aa (pv 1) (Aa (pv 7) (Aa Fp (Aa (pv 2) Ae)))))) Ae)))))
    (Ac (A9 (Ji7 (Oh (Eh (Jfd (pv 8))) (Jx (Jah (Fh (Bw GE hr4 (by rfl) ME.mg ME.fn.kp ME.bd .nil Bj (Aa (pv 4) (Aa (pv 5) Ae)))))))) (Af (Ar Fp)) Ax)
    (Ac (Jiv (Jim K CW C CP a) (Jg7 K CW C CP a) (fun _ _=>False) (A9 (Fh (Bv Jb4 (by rfl) T.isi PyProof.Rows.boot_isinstance (Aa (Av Aq (pv 8) Ag) (Aa (Jc4 (v:=.ty "list") (by rfl) Tx.list PyProof.Rows.boot_list rfl) Ae))))
     (Af (A7 (Kk PySem.F.plainAttrs_list PySem.F.slot_list_append PySem.F.type_list_append Dm (pv 6) (Aa (Bn (Aa (Av Aq (pv 8) Ag) (Aa (Cu Jl (by rfl) Tx.list PyProof.Rows.boot_list (Aa (Av Aq (pv 8) Ag) Ae)) Ae))) Ae)))) Ax) ?if2)
    (Ac (Az (i:=9) scL.nd rfl (Or.inl rfl) (Cg (pl:=_) (pv 4) TW.cl ML.mt GL hr2 ML.bd .nil Bj))
    (Ac (A9 (Au Bx (Bc Cc (pv 7) Ag) Ag (A0 _)) (Af (A7 (Qs PySem.F.plainAttrs_list PySem.F.slot_list_clear PySem.F.type_list_clear Jbj (pv 9)))) Ax)
    (Af (A7 (Kk PySem.F.plainAttrs_list PySem.F.slot_list_append PySem.F.type_list_append Dm (pv 6) (Aa (Bn (Aa (pv 9) (Aa (Cu Jl (by rfl) Tx.list PyProof.Rows.boot_list (Aa (pv 9) Ae)) Ae))) Ae))))))))))
   (Ac (Ho PassesOwn.never rfl (Dq (pv 6)) (J0 rfl (Bs (Bq (i:=10) scL.nd rfl (Or.inl rfl)) (Bs (Bq (i:=11) scL.nd rfl (Or.inl rfl)) Gj)))
    (Af (A9 (Au (Qv (K1 hr)) (pv 10) (pv 11) (A0 _)) (Af (Ar Fp)) Ax)))
   (Af (Ar (Bw GE hr4 (by rfl) ME.mg ME.fn.kp ME.bd .nil Bj (Aa (pv 4) (Aa (pv 5) Ae))))))))))))),?_⟩
  case if1 =>
   rintro⟨gm,gb⟩ σ Hc ⟨rfl,rfl,g1,g2⟩
   refine⟨_,rfl,a,ns,0,rfl,hS.sq,hlen,by decide,by decide,fun v2=>⟨_,_,rfl,rfl,⟨by decide,by decide⟩,_,_,rfl,rfl,(show(0:Int)<6 by decide),rfl,_,rfl,?_⟩⟩
   refine Ue (fun _=>⟨rfl,12,by decide,by decide,rfl⟩) (fun _=>⟨rfl,gm.toNat,by lia,by lia,?_⟩)
   have e:((gm.toNat:Nat):Int)=gm:=Int.toNat_of_nonneg (by show 0≤gm;have:1≤gm:=g1;lia)
   rw[e]
  case if2 =>
   rintro g σ Hc ⟨⟨u9,rfl⟩,I,zp,rr,v,an,ey,av,new⟩
   have z1000:(g.ps.map V.ref).length<sizeLine:=A3 (by rw[ZA];have:=I.j;lia)
   cases an with
   | th t =>
     obtain⟨b,rfl,e⟩:=av
     exact⟨_,rfl,g.y,_,_,_,rfl,rfl,SqT.of ey,rfl,_,"list",_,false,rfl,.tup e,F5 (.inl rfl),_,rfl,B0 ⟨⟨u9,rfl⟩,g.ps,I,by lia⟩⟩
   | no =>
     cases (show v=.non from av)
     exact⟨_,rfl,g.y,_,_,_,rfl,rfl,SqT.of ey,rfl,_,"list",_,false,rfl,.non,F5 (.inr (.inr rfl)),_,rfl,B0 ⟨⟨u9,rfl⟩,g.ps,I,by lia⟩⟩
   | num i =>
     cases (show v=.int i from av)
     exact⟨_,rfl,g.y,_,_,_,rfl,rfl,SqT.of ey,rfl,_,"list",_,false,rfl,.int i,F5 (.inr (.inl rfl)),_,rfl,B0 ⟨⟨u9,rfl⟩,g.ps,I,by lia⟩⟩
   | nums l =>
     obtain⟨b,rfl,e⟩:=av
     obtain⟨b',e',n1,n2⟩:=new l rfl
     cases e'
     have n3:b≠g.B.hs:=Ji4 I.st.ba I.st.pos e
     refine⟨_,rfl,g.y,_,_,_,rfl,rfl,SqT.of ey,rfl,_,"list",_,true,rfl,.lst e,Jbo,_,rfl,Cd ?_⟩
     refine⟨_,rfl,.inl ⟨rfl,_,SqL.of I.hl.at_⟩,_,rfl,g.y,_,_,_,rfl,rfl,SqT.of ey,rfl,_,rfl,g.y,_,_,_,rfl,rfl,SqT.of ey,rfl,b,_,rfl,.inl (SqL.of e),fun lc hlc=>?_⟩
     have s1:=Ah (o:=.lst (l.map V.int)) hlc
     have elc:(upd Hc lc (.lst (l.map V.int))) lc=some (.lst (l.map V.int)):=Ab
     generalize upd Hc lc (.lst (l.map V.int))=H1 at s1 elc
     have I1:=I.same s1
     have m1:lc≠g.W.hs:=fun z=>by rw[z] at hlc;rw[I.st.wa.hs] at hlc;cases hlc
     have m2:lc≠g.B.hs:=fun z=>by rw[z] at hlc;rw[I.st.ba.hs] at hlc;cases hlc
     have m3:lc≠g.hd:=fun z=>by rw[z] at hlc;rw[I.hl.at_] at hlc;cases hlc
     refine⟨(by show 2≤sizeLine;decide),fun tp htp=>?_⟩
     have s2:=Ah (o:=.tup [V.ref b,V.ref lc]) htp
     have etp:(upd H1 tp (.tup [V.ref b,V.ref lc])) tp=some (.tup [V.ref b,V.ref lc]):=Ab
     generalize upd H1 tp (.tup [V.ref b,V.ref lc])=H2 at s2 etp
     have I2:=I1.same s2
     refine⟨g.hd,_,_,rfl,rfl,I2.hl.at_,z1000,⟨u9,rfl⟩,g.ps++[tp],I2.add etp (s2 _ _ (s1 _ _ e)) (s2 _ _ elc) (ints_rep l) (Ds fun d hd=>⟨(Rk l d hd).1,Nat.le_trans (Rk l d hd).2 (by decide)⟩) ⟨n1,n3,n2⟩ ⟨m1,m2,m3⟩,by rw[ZE,List.length_singleton];lia⟩
  refine⟨_,rfl,a,ns,0,rfl,hS.sq,hlen,by decide,by decide,fun v0=>⟨_,_,rfl,rfl,(show(0:Int)<5 by decide),_,_,rfl,rfl,?_⟩⟩
  have hm0:=Int.emod_nonneg v0 (show(5:Int)≠0 by decide)
  have hm1:=Int.emod_lt_of_pos v0 (show(0:Int)<5 by decide)
  refine⟨_,rfl,a,ns,0,rfl,hS.sq,hlen,by decide,by decide,fun v1=>⟨_,_,rfl,rfl,⟨by decide,by decide⟩,_,_,rfl,rfl,(show(0:Int)<2 by decide),rfl,?_⟩⟩
  refine⟨(1+v0 % 5,decide (V.int (v1 / 30 % 2)=V.int 1)),⟨rfl,rfl,by show 1≤1+v0 % 5;lia,by show 1+v0 % 5≤12;lia⟩,?_,fun _ _ z=>z.elim⟩
  generalize decide (V.int (v1 / 30 % 2)=V.int 1)=fr
  rintro σ Hc ⟨rfl,m,m1,m2,rfl⟩
  refine⟨_,rfl,a,ns,rfl,hS.sq,hlen,fun sh H1 s1 sh2=>?_⟩
  have hS1:=hS.keep (Ji0 s1)
  refine⟨_,rfl,_,rfl,?_⟩
  intro p dx np ndx nex
  refine⟨p,dx,(m:Int),sh,rfl,Ab,by lia,by lia,fun W H2 S1 e1 e2 e3 e4 e5 e6 e7 e8 kp1=>⟨rfl,?_⟩⟩
  have s01:Bp H1 (upd (upd H1 dx (.own p)) p (.ins CW dx [])):=fun b o e=>by
   rw[Ad (Am e np),Ad (Am e ndx)]
   exact e
  have s2:Bp H1 H2:=fun b o e=>kp1 b o (s01 b o e) (Am e np)
  have hS2:=hS1.keep (Ji0 s2)
  clear s01 kp1 np ndx nex
  rw[Int.toNat_natCast] at e7
  refine⟨_,rfl,_,rfl,(m:Int),sh,rfl,by lia,by lia,fun d B H3 B1 f1 f2 f3 f4 f5 fre s3=>?_⟩
  rw[Int.toNat_natCast] at f4
  have hS3:=hS2.keep (Ji0 s3)
  have St0:St CW C CP H3 p W d B m 0 []:=St.start (S1.same s3) e2 e3 e7 e8 B1 (by rw[f1,e1]) f2 f3 f4 f5 (fun b hb hd=>by
   obtain⟨o,eo,_⟩:=S1.some_at hb
   rw[fre b hd] at eo;cases eo) (by lia) m2 (by rw[e1];exact sh2)
  refine⟨Nat.zero_le _,fun hd hhd=>?_⟩
  have s4:=Ah (o:=.lst []) hhd
  have ehd:(upd H3 hd (.lst [])) hd=some (.lst []):=Ab
  generalize upd H3 hd (.lst [])=H4 at s4 ehd
  have St4:=St0.same s4
  have hS4:=hS3.keep (Ji0 s4)
  have q1:hd≠W.hs:=fun z=>by rw[z] at hhd;rw[St0.wa.hs] at hhd;cases hhd
  have q2:hd≠B.hs:=fun z=>by rw[z] at hhd;rw[St0.ba.hs] at hhd;cases hhd
  refine⟨_,rfl,2,rfl,52,rfl,a,_,rfl,hS4.sq,fun cl hcl=>⟨cl,rfl,⟨_,SqL.of Ab⟩,?_⟩⟩
  have s5:=Ah (o:=.lst (Ht (ns.map V.int) (some 2) (some 52))) hcl
  have ecl:(upd H4 cl (.lst (Ht (ns.map V.int) (some 2) (some 52)))) cl=some (.lst (Ht (ns.map V.int) (some 2) (some 52))):=Ab
  generalize upd H4 cl (.lst (Ht (ns.map V.int) (some 2) (some 52)))=H5 at s5 ecl
  have q3:cl≠W.hs:=fun z=>by rw[z] at hcl;rw[St4.wa.hs] at hcl;cases hcl
  have q4:cl≠B.hs:=fun z=>by rw[z] at hcl;rw[St4.ba.hs] at hcl;cases hcl
  have q5:cl≠hd:=fun z=>by rw[z] at hcl;rw[ehd] at hcl;cases hcl
  have z50:=Jg3 (ns.map V.int)
  obtain⟨cs,ecs⟩:=Jb1 ns (some 2) (some 52)
  refine Jg (K:=K) (a:=cl) (xs:=Ht (ns.map V.int) (some 2) (some 52)) (fun j σ Hc=>∃(W':WGh)(B':BGh)(ls':List LT)(ps:List Addr)(u7 u8 u9:Option V),σ=[some (.ref a),some (.int (m:Int)),some (.bl fr),some (.int sh),some (.ref p),some (.ref d),some (.ref hd),u7,u8,u9,none,none]∧St CW C CP Hc p W' d B' m j ls'∧W'.hs=W.hs∧B'.hs=B.hs∧Hc cl=some (.lst (Ht (ns.map V.int) (some 2) (some 52)))∧Hl K Hc W.hs B.hs hd ps∧ps.length≤2*j)
   ⟨W,B,[],[],none,none,none,rfl,St4.same s5,rfl,rfl,ecl,⟨s5 _ _ ehd,q1,q2,fun t ht=>by cases ht⟩,ZG _⟩ (fun j σ Hc _ ⟨_,_,_,_,_,_,_,_,_,_,_,h,_⟩=>SqL.of h) ?_ ?_
  ·rintro j x σ Hc hj ⟨W1,B1,ls1,ps,u7,u8,u9,rfl,Sj,ew,eb,ec,hl,zp⟩
   have hj50:j<50:=Nat.lt_of_lt_of_le (ZJ hj).1 z50
   obtain⟨c,rfl⟩:∃c,x=V.int c:=by
    rw[ecs,ZH] at hj
    cases hc:cs[j]? with
    | none=>rw[hc] at hj;cases hj
    | some c=>rw[hc] at hj;exact⟨c,(ZO hj).symm⟩
   refine⟨_,rfl,_,rfl,_,rfl,_,rfl,_,rfl,_,rfl,p,d,W1,B1,m,j,ls1,c,fr,rfl,Sj,by lia,fun x1 Ha dd sa ex va=>?_⟩
   refine⟨p,d,x1,W1,B1,m,j,ls1,dd,rfl,ex,Sj.same sa,by lia,va,fun y Hb W2 B2 ls2 rr v an ey av ln frm ehs ehb S2=>?_⟩
   have Sa:=Sj.same sa
   have kl:∀b xs,Hc b=some (.lst xs)→b≠W.hs→b≠B.hs→Hb b=some (.lst xs):=fun b xs e h1 h2=>frm b _ (sa _ _ e) (Sa.wa.lst_no (sa _ _ e) (by rw[ew];exact h1)) (Sa.ba.lst_no (sa _ _ e) (by rw[eb];exact h2))
   have kt:KeepT Hc Hb:=⟨fun t xs e=>frm t _ (sa _ _ e) (Sa.wa.tup_no (sa _ _ e)) (Sa.ba.tup_no (sa _ _ e)),fun t ob u e=>frm t _ (sa _ _ e) (fun z=>by
    obtain⟨o,e',_,h⟩:=Sa.wa.some_at z
    rw[sa _ _ e] at e';cases e'
    exact h _ _ rfl) (fun z=>by
    obtain⟨o,e',_,h⟩:=Sa.ba.some_at z
    rw[sa _ _ e] at e';cases e'
    exact h _ _ rfl)⟩
   have hl2:=hl.keep kt kl
   have ecb:=kl _ _ ec q3 q4
   have eW:W2.hs=W.hs:=ehs.trans ew
   have eB:B2.hs=B.hs:=ehb.trans eb
   have new:∀l,an=.nums l→∃b,v=.ref b∧b≠W2.hs∧b≠hd:=fun l e=>by
    rw[e] at ln
    obtain⟨b,e1,h1,h2⟩:=ln
    exact⟨b,e1,by rw[ehs];exact h1,(h2 hd _ (sa _ _ hl.at_) (Sa.wa.lst_no (sa _ _ hl.at_) (by rw[ew];exact hl.n1))).symm⟩
   refine⟨_,rfl,_,rfl,?_⟩
   rw[decide_eq_false (show ¬V.ref y=V.non from fun z=>by cases z)]
   refine B0 ⟨_,rfl,_,rfl,p,d,W2,B2,m,j+1,ls2,rfl,S2,by lia,fun Hd sd=>⟨_,rfl,B0 ?_⟩⟩
   refine⟨⟨p,d,hd,cl,y,m,j,W2,B2,ls2,ps,c,sh,fr,Ht (ns.map V.int) (some 2) (some 52)⟩,⟨⟨_,rfl⟩,⟨S2.same sd,sd _ _ ecb,by rw[eW,eB];exact hl2.same sd,by rw[eW];exact q3,by rw[eB];exact q4,q5,hj50⟩,zp,rr,v,an,sd _ _ ey,av.keep (Ji0 sd) (fun b xs _ e=>sd _ _ e),new⟩,?_,fun _ _ z=>z.elim⟩
   rintro σ' He ⟨⟨u9',rfl⟩,ps',I,zp'⟩
   have zp':ps'.length≤2*j+1:=zp'
   obtain⟨dx2,hp2⟩:=I.st.wa.ob
   refine⟨_,rfl,p,dx2,_,rfl,hp2,Dj W2 (by decide +kernel),p,W2,rfl,I.st.wa,fun l Hf hlf elf sf=>?_⟩
   have n1:l≠W2.hs:=fun z=>by rw[z] at hlf;rw[show He W2.hs=_ from I.st.wa.hs] at hlf;cases hlf
   have n2:l≠B2.hs:=fun z=>by rw[z] at hlf;rw[show He B2.hs=_ from I.st.ba.hs] at hlf;cases hlf
   have n3:l≠hd:=fun z=>by rw[z] at hlf;rw[show He hd=_ from I.hl.at_] at hlf;cases hlf
   refine⟨_,rfl,_,_,rfl,rfl,(show(0:Int)<3 by decide),rfl,_,rfl,Ue (fun _=>?_) (fun _=>?_)⟩
   ·refine⟨_,rfl,.inl ⟨rfl,_,SqL.of elf⟩,l,_,rfl,rfl,elf,?_⟩
    have sg:Bp He (upd Hf l (.lst [])):=fun b o e=>by rw[Ad (Am e hlf)];exact sf b o e
    have eg:(upd Hf l (.lst [])) l=some (.lst []):=Ab
    generalize upd Hf l (.lst [])=Hg at sg eg
    have Ig:=I.same sg
    have rp:Paired (RepT K Hg) [] []:=.nil
    have ok:Okd (.list []):=Qz
    focus
     refine⟨_,rfl,.inl ⟨rfl,_,SqL.of Ig.hl.at_⟩,_,rfl,_,rfl,l,_,rfl,.inl (SqL.of eg),fun lc hlc=>?_⟩
     have s1':=Ah (o:=.lst []) hlc
     have elc:(upd Hg lc (.lst [])) lc=some (.lst []):=Ab
     generalize upd Hg lc (.lst [])=Hh at s1' elc
     have Ih:=Ig.same s1'
     have n4:lc≠W2.hs:=fun z=>by rw[z] at hlc;rw[Ig.st.wa.hs] at hlc;cases hlc
     have n5:lc≠B2.hs:=fun z=>by rw[z] at hlc;rw[Ig.st.ba.hs] at hlc;cases hlc
     have n6:lc≠hd:=fun z=>by rw[z] at hlc;rw[show Hg hd=_ from Ig.hl.at_] at hlc;cases hlc
     refine⟨(by show 2≤sizeLine;decide),fun tp htp=>?_⟩
     have s2':=Ah (o:=.tup [V.ref l,V.ref lc]) htp
     have etp:(upd Hh tp (.tup [V.ref l,V.ref lc])) tp=some (.tup [V.ref l,V.ref lc]):=Ab
     generalize upd Hh tp (.tup [V.ref l,V.ref lc])=Hk at s2' etp
     have Ik:=Ih.same s2'
     have I3:=Ik.add etp (s2' _ _ (s1' _ _ eg)) (s2' _ _ elc) (Gh (Ji0 (Ak s1' s2')) rp) ok ⟨n1,n2,n3⟩ ⟨n4,n5,n6⟩
     refine⟨hd,_,_,rfl,rfl,Ik.hl.at_,A3 (by rw[ZA];lia),W2,B2,ls2,ps'++[tp],_,_,_,rfl,I3.st,eW,eB,I3.cl,by rw[←eW,←eB];exact I3.hl,by rw[ZE,List.length_singleton];lia⟩
   ·have Ig:=I.same sf
    have eg:=elf
    have rp:Paired (RepT K Hf) (W2.ls.map fun x=>V.ref x.2) _:=E9 Ig.st.lw
    have ok:=Ds (Ej (ns:=W2.ls.map (·.1)) I.st.wl.ok)
    focus
     refine⟨_,rfl,.inl ⟨rfl,_,SqL.of Ig.hl.at_⟩,_,rfl,_,rfl,l,_,rfl,.inl (SqL.of eg),fun lc hlc=>?_⟩
     have s1':=Ah (o:=.lst (W2.ls.map fun x=>V.ref x.2)) hlc
     have elc:(upd Hf lc (.lst (W2.ls.map fun x=>V.ref x.2))) lc=some (.lst (W2.ls.map fun x=>V.ref x.2)):=Ab
     generalize upd Hf lc (.lst (W2.ls.map fun x=>V.ref x.2))=Hh at s1' elc
     have Ih:=Ig.same s1'
     have n4:lc≠W2.hs:=fun z=>by rw[z] at hlc;rw[Ig.st.wa.hs] at hlc;cases hlc
     have n5:lc≠B2.hs:=fun z=>by rw[z] at hlc;rw[Ig.st.ba.hs] at hlc;cases hlc
     have n6:lc≠hd:=fun z=>by rw[z] at hlc;rw[show Hf hd=_ from Ig.hl.at_] at hlc;cases hlc
     refine⟨(by show 2≤sizeLine;decide),fun tp htp=>?_⟩
     have s2':=Ah (o:=.tup [V.ref l,V.ref lc]) htp
     have etp:(upd Hh tp (.tup [V.ref l,V.ref lc])) tp=some (.tup [V.ref l,V.ref lc]):=Ab
     generalize upd Hh tp (.tup [V.ref l,V.ref lc])=Hk at s2' etp
     have Ik:=Ih.same s2'
     have I3:=Ik.add etp (s2' _ _ (s1' _ _ eg)) (s2' _ _ elc) (Gh (Ji0 (Ak s1' s2')) rp) ok ⟨n1,n2,n3⟩ ⟨n4,n5,n6⟩
     refine⟨hd,_,_,rfl,rfl,Ik.hl.at_,A3 (by rw[ZA];lia),W2,B2,ls2,ps'++[tp],_,_,_,rfl,I3.st,eW,eB,I3.cl,by rw[←eW,←eB];exact I3.hl,by rw[ZE,List.length_singleton];lia⟩
  ·rintro σ Hc ⟨W1,B1,ls1,ps,u7,u8,u9,rfl,Sj,ew,eb,ec,hl,zp⟩
   refine⟨_,rfl,hd,rfl,⟨_,SqL.of hl.at_⟩,?_⟩
   refine Jg (K:=K) (a:=hd) (xs:=ps.map V.ref) (fun i σ H2=>H2=Hc∧∃u v,σ=[some (.ref a),some (.int (m:Int)),some (.bl fr),some (.int sh),some (.ref p),some (.ref d),some (.ref hd),u7,u8,u9,u,v]) ⟨rfl,_,_,rfl⟩ (fun i σ H2 _ h=>by rw[h.1];exact SqL.of hl.at_) ?_ ?_
   ·rintro i x σ H2 hi ⟨rfl,u,v,rfl⟩
    rw[ZH] at hi
    cases ht:ps[i]? with
    | none=>rw[ht] at hi;cases hi
    | some t =>
      rw[ht] at hi
      cases hi
      obtain⟨a',b',vs,ds,g1,g2,g3,r,o,_⟩:=hl.all t (ZP ht)
      refine⟨t,_,rfl,SqT.of g1,rfl,_,_,rfl,_,_,rfl,rfl,?_⟩
      refine⟨_,rfl,_,rfl,_,_,.lst (SqL.of g2) r,.lst (SqL.of g3) r,o,o,_,rfl,?_⟩
      rw[F8 o]
      exact B0 ⟨rfl,_,_,rfl⟩
   ·rintro σ H2 ⟨rfl,u,v,rfl⟩
    exact⟨_,rfl,_,rfl,p,d,W1,B1,m,_,ls1,rfl,Sj,Nat.le_trans z50 (by decide),fun H' _=>k H'⟩
end
end K42
namespace K42
open PySem L2 FX
structure MeI(K:W.Frag)(C:Addr)(x q:Str)(st:Stmt)(f:Addr)(fd:FuncData):Prop where
 a:W.findIn K (.ref C) x=some (some (.ref f))
 i:W.isFn K (.ref f)=true
 fn:Fun K x q st f fd
structure GI(K:W.Frag)(x:Str)(st:Stmt)(f:Addr)(fd:FuncData):Prop where
 a:W.nsIn K mainGlobals x=some (some (.ref f))
 fn:Fun K x x st f fd
structure GdI(K:W.Frag)(x:Str)(st:Stmt)(ps:List Str)(f:Addr)(fd:FuncData):Prop extends GI K x st f fd where
 b:Binds K fd ps []
theorem GdI.gdf{K:W.Frag}{mg:Str→Option Value}{hp:Heap}{x:Str}{st:Stmt}{f:Addr}{fd:FuncData}{ps:List Str}(m:GdI K x st ps f fd)(X:K.In hp)(G:hp.Ns mainGlobals mg):Gdf K mg x st ps f fd:=⟨m.fn,m.b,W.mg_of X G m.a⟩
structure CI(K:W.Frag)(C:Addr):Prop where
 pg:W.plainGet K C Str.empty=true
 hd:W.hasDictIn K C=true
 po:W.plainOver K C=true
 sa:W.findIn K (.ref C) "__setattr__"=some (some (.builtin "object.__setattr__"))
 mm:W.makesIn K C=true
 kc:W.keepIn K (.ref C)=true
def Bd(x q:Str)(st:Stmt)(ps:List Str):Prop:=∀(kV doc pm:Value)(an:Option Addr)(cdv ct:Value)(us:List Value),us.length=ps.length→bindArgs (W.fnOf x q (Lk st) (Gv st) (Aj st) .none kV doc pm an cdv ct) ⟨us,[]⟩=pure (ps.zip us)
theorem MeI.mth{K:W.Frag}{C:Addr}{x q:Str}{st:Stmt}{f:Addr}{fd:FuncData}{ps:List Str}(m:MeI K C x q st f fd)(h:Bd x q st ps:=by
 intro _ _ _ _ _ _ us hl
 rcases us with _|⟨_,_|⟨_,_|⟨_,_|⟨_,_|⟨_,_|⟨_,_|⟨_,_⟩⟩⟩⟩⟩⟩⟩<;>first|(cases hl;done)|rfl):Mth K C x q st ps f fd:=⟨m.fn,m.fn.binds h,⟨m.a,m.i,m.fn.kp⟩⟩
theorem GI.gdi{K:W.Frag}{x:Str}{st:Stmt}{f:Addr}{fd:FuncData}{ps:List Str}(m:GI K x st f fd)(h:Bd x x st ps:=by
 intro _ _ _ _ _ _ us hl
 rcases us with _|⟨_,_|⟨_,_|⟨_,_|⟨_,_|⟨_,_|⟨_,_|⟨_,_⟩⟩⟩⟩⟩⟩⟩<;>first|(cases hl;done)|rfl):GdI K x st ps f fd:=⟨m,m.fn.binds h⟩
theorem all_mk{l:W.OpenLaw}{w:World}{K:W.Frag}{h:Heap}{mg:Str→Option Value}{fa C CW CP NH XH XN XM NL XW fI fPI fWI fM fFr fPa fCa fAd fGi fPs fCl fSt fTo fNe fSp fQH fPR fAR fLo fGb fHo fDr fTa fQN fQG fTi fPP fPL fPT fWM fWFr fWSe fWCl fWDe fWSt fWLe fWH fWWe fWPa fWGb fWHo fWDr fWTa fWTi fP1 fR1 fC1 fSu fHg fDe fDo fSh fBe fPu fSe fBa fLP fCo fBy fSa fBo fW:Addr}{dI dPI dWI dM dFr dPa dCa dAd dGi dPs dCl dSt dTo dNe dSp dQH dPR dAR dLo dGb dHo dDr dTa dQN dQG dTi dPP dPL dPT dWM dWFr dWSe dWCl dWDe dWSt dWLe dWH dWWe dWPa dWGb dWHo dWDr dWTa dWTi dP1 dR1 dC1 dSu dHg dDe dDo dSh dBe dPu dSe dBa dLP dCo dBy dSa dBo dW:FuncData}(X:K.In h)(G:h.Ns mainGlobals mg)(hfa:mg "law"=some (.ref fa))(aC:W.nsIn K mainGlobals "House"=some (some (.ref C)))(aCW:W.nsIn K mainGlobals "World"=some (some (.ref CW)))(aCP:W.nsIn K mainGlobals "Post"=some (some (.ref CP)))(aNH:W.nsIn K mainGlobals "NoHouse"=some (some (.ref NH)))(aXH:W.nsIn K mainGlobals "NotHeld"=some (some (.ref XH)))(aXN:W.nsIn K mainGlobals "NotNear"=some (some (.ref XN)))(aXM:W.nsIn K mainGlobals "Missing"=some (some (.ref XM)))(aNL:W.nsIn K mainGlobals "NoLetter"=some (some (.ref NL)))(aXW:W.nsIn K mainGlobals "NoWeight"=some (some (.ref XW)))(xNH:W.excIn K NH [.type "ValueError",.type "Exception",.type "BaseException",.type "object"] "ValueError.__new__"=true)(xXH:W.excIn K XH [.type "ValueError",.type "Exception",.type "BaseException",.type "object"] "ValueError.__new__"=true)(xXN:W.excIn K XN [.type "ValueError",.type "Exception",.type "BaseException",.type "object"] "ValueError.__new__"=true)(xXM:W.excIn K XM [.type "ValueError",.type "Exception",.type "BaseException",.type "object"] "ValueError.__new__"=true)(xNL:W.excIn K NL [.type "ValueError",.type "Exception",.type "BaseException",.type "object"] "ValueError.__new__"=true)(xXW:W.excIn K XW [.type "ValueError",.type "Exception",.type "BaseException",.type "object"] "ValueError.__new__"=true)(sXW:W.mroIn K XW (.ref XW)=some true)(hI:MeI K C "__init__" "House.__init__" Sr fI dI)(hPI:MeI K CP "__init__" "Post.__init__" Ql fPI dPI)(hWI:MeI K CW "__init__" "World.__init__" Vm fWI dWI)(mM:Mth K C "make" "House.make" Sq ["self"] fM dM)(mFr:Mth K C "free" "House.free" Su ["self","b"] fFr dFr)(mPa:Mth K C "part" "House.part" So ["self","b","share"] fPa dPa)(mCa:Mth K C "came" "House.came" Sy ["self","b","weight"] fCa dCa)(mAd:Mth K C "added" "House.added" L3 ["self","b","weight"] fAd dAd)(mGi:Mth K C "given" "House.given" L0 ["self","b","weight"] fGi dGi)(mPs:Mth K C "passed" "House.passed" Ie ["self","b","share","mine"] fPs dPs)(mCl:Mth K C "clean" "House.clean" L1 ["self"] fCl dCl)(mSt:Mth K C "state" "House.state" Jv ["self"] fSt dSt)(mTo:Mth K C "told" "House.told" W0 ["self","thing"] fTo dTo)(mNe:Mth K C "is_near" "House.is_near" G0 ["self","thing"] fNe dNe)(mSp:Mth K C "is_spent" "House.is_spent" Qi ["self","thing"] fSp dSp)(mQH:Mth K C "need_in_hand" "House.need_in_hand" Fe ["self","thing"] fQH dQH)(mPR:Mth K C "part_record" "House.part_record" Qk ["self","b"] fPR dPR)(mAR:Mth K C "add_to_record" "House.add_to_record" Ta ["self","b","weight"] fAR dAR)(mLo:Mth K C "lose" "House.lose" Xb ["self","things"] fLo dLo)(mGb:Mth K C "give_back" "House.give_back" Xc ["self"] fGb dGb)(mHo:Mth K C "hold" "House.hold" Ss ["self","a","b"] fHo dHo)(mDr:Mth K C "drop" "House.drop" Sv ["self","a","b"] fDr dDr)(mTa:Mth K C "take" "House.take" Sn ["self","a","b"] fTa dTa)(mQN:Mth K C "need_near" "House.need_near" Hn ["self","thing"] fQN dQN)(mQG:Mth K C "need_holding" "House.need_holding" Ij ["self","a","b"] fQG dQG)(mTi:Mth K C "tick" "House.tick" Sm ["self"] fTi dTi)(mPP:Mth K CP "put" "Post.put" Og ["self","kind","sender","goal","about"] fPP dPP)(mPL:Mth K CP "letters" "Post.letters" Gg ["self"] fPL dPL)(mPT:Mth K CP "taken" "Post.taken" Ld ["self","n"] fPT dPT)(mWM:Mth K CW "make" "World.make" Qd ["self","h"] fWM dWM)(mWFr:Mth K CW "free" "World.free" Qg ["self","h","b"] fWFr dWFr)(mWSe:Mth K CW "send" "World.send" Qb ["self","h","g","b"] fWSe dWSe)(mWCl:Mth K CW "clean" "World.clean" Lc ["self","h"] fWCl dWCl)(mWDe:Mth K CW "deliver" "World.deliver" Gf ["self","n"] fWDe dWDe)(mWSt:Mth K CW "state" "World.state" Ic ["self","h"] fWSt dWSt)(mWLe:Mth K CW "letters" "World.letters" Ea ["self"] fWLe dWLe)(mWH:Mth K CW "house" "World.house" Dg ["self","h"] fWH dWH)(mWWe:Mth K CW "weight_came" "World.weight_came" Ib ["self","letter"] fWWe dWWe)(mWPa:Mth K CW "pass_came" "World.pass_came" Qc ["self","letter"] fWPa dWPa)(mWGb:Mth K CW "give_back" "World.give_back" Qf ["self","h","records"] fWGb dWGb)(mWHo:Mth K CW "hold" "World.hold" Qe ["self","h","a","b"] fWHo dWHo)(mWDr:Mth K CW "drop" "World.drop" Qh ["self","h","a","b"] fWDr dWDr)(mWTa:Mth K CW "take" "World.take" Qa ["self","h","a","b"] fWTa dWTa)(mWTi:Mth K CW "tick" "World.tick" P9 ["self","h"] fWTi dWTi)(mP1:GdI K "parted" Ii ["weight"] fP1 dP1)(mR1:GdI K "reached" Id ["starts","holds"] fR1 dR1)(mC1:GdI K "_law_cell" Sx ["_law_script","_law_k"] fC1 dC1)(mSu:GdI K "_law_spun" W8 ["_law_cell_here","_law_free"] fSu dSu)(mHg:GdI K "_law_holding" Im ["_law_things","_law_a"] fHg dHg)(mDe:GdI K "_law_deed" Sw ["_law_world","_law_many","_law_cell_here","_law_asks","_law_free"] fDe dDe)(mDo:GdI K "_law_do" sDo ["_law_world","_law_deed_here"] fDo dDo)(mSh:GdI K "_law_share" Qj ["_law_script"] fSh dSh)(mBe:GdI K "_law_begun" Qm ["_law_many","_law_share_here"] fBe dBe)(mPu:GdI K "_law_put" Yi ["_law_beside","_law_kind","_law_sender","_law_goal","_law_about"] fPu dPu)(mSe:GdI K "_law_sent" W9 ["_law_beside","_law_h","_law_g","_law_b"] fSe dSe)(mBa:GdI K "_law_backs" Qn ["_law_beside","_law_h","_law_given"] fBa dBa)(mLP:GdI K "_law_passed" Il ["_law_beside","_law_letter"] fLP dLP)(mCo:GdI K "_law_come" Xd ["_law_beside","_law_letter"] fCo dCo)(mBy:GdI K "_law_by_parts" Io ["_law_beside","_law_deed_here"] fBy dBy)(mSa:GdI K "_law_same" Xa ["_law_world","_law_beside"] fSa dSa)(mBo:GdI K "_law_both" Xe ["_law_world","_law_beside","_law_deed_here"] fBo dBo)(hW:GI K "law" Yj fW dW)(cC:CI K C)(nC0:W.findIn K (.ref C) "number"=some none)(nC1:W.findIn K (.ref C) "made"=some none)(nC2:W.findIn K (.ref C) "ticks"=some none)(nC3:W.findIn K (.ref C) "hand"=some none)(nC4:W.findIn K (.ref C) "outs"=some none)(nC5:W.findIn K (.ref C) "holds"=some none)(nC6:W.findIn K (.ref C) "records"=some none)(cCW:CI K CW)(nCW0:W.findIn K (.ref CW) "share"=some none)(nCW1:W.findIn K (.ref CW) "houses"=some none)(nCW2:W.findIn K (.ref CW) "post"=some none)(nCW3:W.findIn K (.ref CW) "inquiries"=some none)(nCW4:W.findIn K (.ref CW) "finds"=some none)(nCW5:W.findIn K (.ref CW) "enclosed"=some none)(cCP:CI K CP)(nCP0:W.findIn K (.ref CP) "latest"=some none)(nCP1:W.findIn K (.ref CP) "waiting"=some none)(z0:W.nsIn K mainGlobals "len"=some none)(z1:W.nsIn K mainGlobals "range"=some none)(z2:W.nsIn K mainGlobals "tuple"=some none)(z3:W.nsIn K mainGlobals "sorted"=some none)(z4:W.nsIn K mainGlobals "isinstance"=some none)(z5:W.nsIn K mainGlobals "list"=some none)(z6:W.nsIn K mainGlobals "dict"=some none)(z7:W.nsIn K mainGlobals "max"=some none)
 : ∃fd:FuncData,(∀(s:Shared)(v:Value),BindsTo s fd ⟨[v],[]⟩ [("_law_script",v)])∧∀base:Heap,K.In base→base.Ns mainGlobals mg→FnOk l.prog w K mg base CX0 8 fa fd ["_law_script"] (Wx K):=by
 have e:=hfa.symm.trans (W.mg_of X G hW.a)
 cases e
 have y0:=W.mg_none_of X G z0
 have y1:=W.mg_none_of X G z1
 have y2:=W.mg_none_of X G z2
 have y3:=W.mg_none_of X G z3
 have y4:=W.mg_none_of X G z4
 have y5:=W.mg_none_of X G z5
 have y6:=W.mg_none_of X G z6
 have y7:=W.mg_none_of X G z7
 have gC:=W.mg_of X G aC
 obtain⟨pgC,hdC,poC,saC,mkC,kcC⟩:=cC
 have gCW:=W.mg_of X G aCW
 obtain⟨pgCW,hdCW,poCW,saCW,mkCW,kcCW⟩:=cCW
 have gCP:=W.mg_of X G aCP
 obtain⟨pgCP,hdCP,poCP,saCP,mkCP,kcCP⟩:=cCP
 have gNH:=W.mg_of X G aNH
 have gXH:=W.mg_of X G aXH
 have gXN:=W.mg_of X G aXN
 have gXM:=W.mg_of X G aXM
 have gNL:=W.mg_of X G aNL
 have gXW:=W.mg_of X G aXW
 obtain⟨aI,iI,FI⟩:=hI
 have bI:=(MeI.mth (ps:=["self","number"]) ⟨aI,iI,FI⟩).bd
 have MmI:Mk K C fI:=⟨mkC,aI,iI,kcC⟩
 obtain⟨aPI,iPI,FPI⟩:=hPI
 have bPI:=(MeI.mth (ps:=["self"]) ⟨aPI,iPI,FPI⟩).bd
 have MmPI:Mk K CP fPI:=⟨mkCP,aPI,iPI,kcCP⟩
 obtain⟨aWI,iWI,FWI⟩:=hWI
 have bWI:=(MeI.mth (ps:=["self","many","share"]) ⟨aWI,iWI,FWI⟩).bd
 have MmWI:Mk K CW fWI:=⟨mkCW,aWI,iWI,kcCW⟩
 replace mP1:=mP1.gdf X G
 replace mR1:=mR1.gdf X G
 replace mC1:=mC1.gdf X G
 replace mSu:=mSu.gdf X G
 replace mHg:=mHg.gdf X G
 replace mDe:=mDe.gdf X G
 replace mDo:=mDo.gdf X G
 replace mSh:=mSh.gdf X G
 replace mBe:=mBe.gdf X G
 replace mPu:=mPu.gdf X G
 replace mSe:=mSe.gdf X G
 replace mBa:=mBa.gdf X G
 replace mLP:=mLP.gdf X G
 replace mCo:=mCo.gdf X G
 replace mBy:=mBy.gdf X G
 replace mSa:=mSa.gdf X G
 replace mBo:=mBo.gdf X G
 have FW:=hW.fn
 have TW:En K mg CW NH NH:=⟨⟨pgCW,hdCW,poCW,saCW⟩,nCW0,nCW1,nCW2,nCW3,nCW4,nCW5,gCW,⟨gNH,xNH⟩⟩
 have TP:Nv K mg CP NL:=⟨⟨pgCP,hdCP,poCP,saCP⟩,nCP0,nCP1,gCP,⟨gNL,xNL⟩,y5⟩
 have Tx:Jb9 mg:=⟨y6,y5,y7⟩
 have T:Txt K mg C XH XN XM XW:=⟨⟨pgC,hdC,poC,saC⟩,nC0,nC1,nC2,nC3,nC4,nC5,nC6,gC,⟨gXH,xXH⟩,⟨gXN,xXN⟩,⟨gXM,xXM⟩,⟨gXW,xXW⟩,y0,y1,y2,y3,y4⟩
 have z:=FW
 obtain⟨⟨oc,od,kV,doc,pm,an,cdv,ct,osl,rfl,lk,cd⟩,kp⟩:=z
 refine⟨W.fnOf "law" "law" (Lk Yj) (Gv Yj) (Aj Yj) .none kV doc pm an cdv ct,fun s v=>.of_eq rfl,fun base _ _=>?_⟩
 generalize l.prog=P
 have GSt:EX0 P w K mg base 2 fSt dSt ["self"] (Fd C K):=Ja5 mSt.fn T mTo.fn mTo.bd mTo.mt
 have GWSt:EX1 P w K mg base 3 fWSt dWSt ["self","h"] (E3 CW C CP NH K):=Yp mWSt.fn T TW mWH mSt (FX.FnOk.to1 GSt)
 have GTi:EX0 P w K mg base 1 fTi dTi ["self"] (Lp C):=Jc7 mTi.fn T
 have GWTi:EX1 P w K mg base 2 fWTi dWTi ["self","h"] (K5 CW C CP NH):=Jav mWTi.fn T TW mWH mTi (FX.FnOk.to1 GTi)
 have GCa:EX0 P w K mg base 2 fCa dCa ["self","b","weight"] (P7 C):=Jdl mCa.fn T mNe mAR
 have GAd:EX0 P w K mg base 2 fAd dAd ["self","b","weight"] (La C):=Jbf mAd.fn T mAR
 have GWe:EX0 P w K mg base 3 fWWe dWWe ["self","letter"] (Gd CW C CP):=Vq mWWe.fn T TW mCa GCa mAd GAd mGi
 have GWPa:EX0 P w K mg base 2 fWPa dWPa ["self","letter"] (K7 CW C CP):=Jay mWPa.fn T TW TP mPs mPP
 have GDl:EX1 P w K mg base 4 fWDe dWDe ["self","n"] (Fc CW C CP NL):=Tq mWDe.fn TW TP mPT mWWe GWe mWPa GWPa
 have GPt:EX1 P w K mg base 3 fPa dPa ["self","b","share"] (P1 C XH XW):=Jdc mPa.fn T mNe mQH mPR mP1
 have GSd:EX1 P w K mg base 4 fWSe dWSe ["self","h","g","b"] (K6 CW C CP XH XW):=Jax mWSe.fn T TW TP mWH mPa GPt mSp mPP
 have GLe:EX0 P w K mg base 2 fWLe dWLe ["self"] (Ee CW C CP):=Tp mWLe.fn TW TP mPL
 have GFr:EX1 P w K mg base 2 fFr dFr ["self","b"] (Jt C XH):=Jdh mFr.fn T mQH
 have GHo:EX1 P w K mg base 3 fHo dHo ["self","a","b"] (Js C XH XN):=Jdf mHo.fn T mNe mQH mQN
 have GDr:EX1 P w K mg base 4 fDr dDr ["self","a","b"] (Ju C XH XN XM):=Jdi mDr.fn T mNe mQH mQN mQG
 have GTa:EX1 P w K mg base 4 fTa dTa ["self","a","b"] (Jq C XH XN XM):=Jc8 mTa.fn T mNe mQH mQN mQG
 have GMk:EX1 P w K mg base 1 fM dM ["self"] (Jr C):=FX.FnOk.to1 (Jdd mM.fn T)
 have GCh:EX0 P w K mg base 2 fCl dCl ["self"] (Ia C):=Jbb mCl.fn T Tx mR1 mLo mGb
 have GWC:EX0 P w K mg base 3 fWCl dWCl ["self","h"] (Hy CW C CP):=Yq mWCl.fn T TW mWH mCl GCh mWGb (Ja2 mWGb.fn TW TP mPP)
 have GDo:EX1 P w K mg base 6 fDo dDo ["_law_world","_law_deed_here"] (Je7 CW C CP NH NL XH XN XM XW):=Jgt mDo.fn TW ⟨mWM,mWHo,mWDr,mWTa,mWFr,mWSe,mWCl,mWDe,(Jaz mWM.fn T TW mWH mM GMk).mono (by decide),(Ja1 mWHo.fn T TW mWH mHo GHo).mono (by decide),Ja4 mWDr.fn T TW mWH mDr GDr,Jaw mWTa.fn T TW mWH mTa GTa,(Ja3 mWFr.fn T TW mWH mFr GFr).mono (by decide),GSd.mono (by decide),(FX.FnOk.to1 GWC).mono (by decide),GDl.mono (by decide)⟩
 have GBa:EX0 P w K mg base 2 fBa dBa ["_law_beside","_law_h","_law_given"] (K8 C):=Jbe mBa.fn mPu
 have GLP:EX0 P w K mg base 2 fLP dLP ["_law_beside","_law_letter"] (K9 C):=Jbc mLP.fn T mPs mPu
 have GCo:EX0 P w K mg base 3 fCo dCo ["_law_beside","_law_letter"] (P6 C):=Jdk mCo.fn T mLP GLP mCa GCa mAd GAd mGi
 have GSe:EX1 P w K mg base 4 fSe dSe ["_law_beside","_law_h","_law_g","_law_b"] (P0 C XW):=Jda mSe.fn T Tx mPa GPt mSt GSt mPu
 have GBy:EX1 P w K mg base 5 fBy dBy ["_law_beside","_law_deed_here"] (Je8 C XH XN XM XW):=Jgu mBy.fn T ⟨mM,mHo,mDr,mTa,mFr,mCl,mSe,mBa,mCo,GMk.mono (by decide),GHo.mono (by decide),GDr,GTa,GFr.mono (by decide),(FX.FnOk.to1 GCh).mono (by decide),GSe,(FX.FnOk.to1 GBa).mono (by decide),(FX.FnOk.to1 GCo).mono (by decide)⟩
 have GBo:EX0 P w K mg base 7 fBo dBo ["_law_world","_law_beside","_law_deed_here"] (Vj CW C CP):=Jdm mBo.fn T TW sXW mDo GDo mBy GBy
 have GDe:EX0 P w K mg base 4 fDe dDe ["_law_world","_law_many","_law_cell_here","_law_asks","_law_free"] (Vh CW C CP):=Jdj mDe.fn T TW mSu mHg mWSt GWSt mWLe GLe
 have GSa:EX0 P w K mg base 4 fSa dSa ["_law_world","_law_beside"] (Vg CW C CP):=Jdb mSa.fn T TW mWLe GLe mWSt GWSt mWTi GWTi mSt GSt mTi GTi
 exact Jfk FW T Tx TW MmWI bWI (Ja0 FWI T TW TP MmI FI bI MmPI FPI bPI) mC1 mSh mBe (Jbd mBe.fn T MmI FI bI) mBo GBo mDe GDe mSa GSa mWLe GLe
theorem walk{l:W.OpenLaw}{q:Program}{loose:List Str}{XP:(Str→Option Value)→Heap→Prop}{YP:World→Heap→Prop}{d:DefRec}{K:Params→W.Frag}(hn:l.most=some 63)(hdf:d.params.defaults=[])(hY:∀(w:World) (h:Heap),YP w h→(K w.params).In h)(F:∀(w:World) (mg:Str→Option Value) (fa:Addr) (h:Heap),(K w.params).In h→h.Ns mainGlobals mg→mg d.name=some (.ref fa) →
  ∃fd:FuncData,(∀(s:Shared) (u:Value),BindsTo s fd ⟨[u],[]⟩ [("_law_script",u)])∧∀base:Heap,(K w.params).In base→base.Ns mainGlobals mg→FnOk l.prog w (K w.params) mg base CX0 8 fa fd ["_law_script"] (Wx (K w.params))) :
 W.WalkO q loose XP YP l.row.toRowW d [] (fun f vs=>PySem.call f vs) :=
 L2.walk_of (n:=63) (k:=8) (x:="_law_script") (CX:=fun w=>CX0) (sp:=fun w=>Wx (K w.params)) hn (by decide) hdf ⟨rfl,by decide,by decide⟩ hY F (fun _ H a ns hl hO hS=>⟨a,ns,rfl,Scr.of hO hS,hl,fun _=>rfl⟩) fun _ _ _ _ _ z=>z
end K42
open PySem PySem.W PyProof.Rows
set_option maxRecDepth 100000 in
set_option maxHeartbeats 0 in
theorem PySem.Challenge.cw_farhold_k42_world_by_houses_holds : PySem.Challenge.rw_farhold_k42_world_by_houses.Holds := by
 w_on;o_law;k_head;(case hw=>w_witness2)
 k_fill
 refine K42.walk (l:=PySem.Challenge.rw_farhold_k42_world_by_houses) rfl rfl (fun w h Y=>W.kIn_of Y) ?F
 case F =>
  intro w mg fa h KX G hmg
  refine' K42.all_mk KX G hmg ?aC ?aCW ?aCP ?aNH ?aXH ?aXN ?aXM ?aNL ?aXW ?xNH ?xXH ?xXN ?xXM ?xNL ?xXW ?sXW ?hI ?hPI ?hWI ?mM ?mFr ?mPa ?mCa ?mAd ?mGi ?mPs ?mCl ?mSt ?mTo ?mNe ?mSp ?mQH ?mPR ?mAR ?mLo ?mGb ?mHo ?mDr ?mTa ?mQN ?mQG ?mTi ?mPP ?mPL ?mPT ?mWM ?mWFr ?mWSe ?mWCl ?mWDe ?mWSt ?mWLe ?mWH ?mWWe ?mWPa ?mWGb ?mWHo ?mWDr ?mWTa ?mWTi ?mP1 ?mR1 ?mC1 ?mSu ?mHg ?mDe ?mDo ?mSh ?mBe ?mPu ?mSe ?mBa ?mLP ?mCo ?mBy ?mSa ?mBo ?hW ?cC ?nC0 ?nC1 ?nC2 ?nC3 ?nC4 ?nC5 ?nC6 ?cCW ?nCW0 ?nCW1 ?nCW2 ?nCW3 ?nCW4 ?nCW5 ?cCP ?nCP0 ?nCP1 ?z0 ?z1 ?z2 ?z3 ?z4 ?z5 ?z6 ?z7
  case aC|aCW|aCP|aNH|aXH|aXN|aXM|aNL|aXW=>k_is
  case xNH|xXH|xXN|xXM|xNL|xXW=>k_exc
  case sXW=>k_is
  case hI|hPI|hWI=>exact⟨by k_is,by k_is,⟨⟨_,_,_,_,_,_,_,_,_,rfl,by k_is,by k_is⟩,by k_is⟩⟩
  case mM|mFr|mPa|mCa|mAd|mGi|mPs|mCl|mSt|mTo|mNe|mSp|mQH|mPR|mAR|mLo|mGb|mHo|mDr|mTa|mQN|mQG|mTi|mPP|mPL|mPT|mWM|mWFr|mWSe|mWCl|mWDe|mWSt|mWLe|mWH|mWWe|mWPa|mWGb|mWHo|mWDr|mWTa|mWTi=>exact K42.MeI.mth ⟨by k_is,by k_is,⟨⟨_,_,_,_,_,_,_,_,_,rfl,by k_is,by k_is⟩,by k_is⟩⟩
  case mP1|mR1|mC1|mSu|mHg|mDe|mDo|mSh|mBe|mPu|mSe|mBa|mLP|mCo|mBy|mSa|mBo=>exact K42.GI.gdi ⟨by k_is,⟨⟨_,_,_,_,_,_,_,_,_,rfl,by k_is,by k_is⟩,by k_is⟩⟩
  case hW=>exact⟨by k_is,⟨⟨_,_,_,_,_,_,_,_,_,rfl,by k_is,by k_is⟩,by k_is⟩⟩
  case cC=>constructor<;>k_is
  case nC0|nC1|nC2|nC3|nC4|nC5|nC6=>k_is
  case cCW=>constructor<;>k_is
  case nCW0|nCW1|nCW2|nCW3|nCW4|nCW5=>k_is
  case cCP=>constructor<;>k_is
  case nCP0|nCP1|z0|z1|z2|z3|z4|z5|z6|z7=>k_is
