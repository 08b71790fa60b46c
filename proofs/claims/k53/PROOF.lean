import PyProof.Rows.All
import Wide.All
import OpenK.AllK
import Wide.FinOn
import Lean
import PyProof.EqAt
import PyProof.EqKinds
import PyProof.TupleCall
import PySem.Challenge.RW_farhold_k53_no_row
namespace PySem.W.Fast
def tw9310233099555700263:=()
def tw9350246072136606902:=()
def tw8570555067714585796:=()
def tw10573374913438176303:=()
def tw1452933231017804129:=()
def tw6101835707632342250:=()
def tw648482911423294763:=()
def tw3067451947595799195:=()
def tw12522496134394319180:=()
def tw4901425846996248989:=()
def tw1574128885436434640:=()
def tw2625880100061207697:=()
def tw17382656944548276776:=()
def tw12595795433502460690:=()
def tw16105686582967472823:=()
def tw5498031528185592251:=()
def tw10071619949908499153:=()
def tw3633710643971737388:=()
def tw1225234300089022195:=()
def tw11767197772282449289:=()
def tw3105733584611517680:=()
def tw4967164948278383372:=()
def tw7446556053437841048:=()
def tw10614284840070081252:=()
def tw5625068605183488584:=()
def tw16024745714439432092:=()
def tw4708817328892945892:=()
def tw14606209391366876708:=()
def tw1354776333601789005:=()
def tw11945938539701941444:=()
def tw16459334753559833738:=()
def tw12171622386857090103:=()
def tw12607953528508010473:=()
def tw12580655242667090518:=()
def tw14283841731608835242:=()
def tw16912307094436628142:=()
def tw11065771536973469038:=()
def tw1705903405499129089:=()
def tw14850752960952829587:=()
def tw17858525215366074946:=()
def tw16664762334693602775:=()
def tw14602198611118588187:=()
def tw11055207704785505691:=()
def tw13562866887316996395:=()
def tw9946001954710422588:=()
def tw12258616061054468926:=()
def tw6691274897465224456:=()
def tw7731734424533169662:=()
def tw15361616075499487453:=()
def tw3909100018200639550:=()
def tw4382071016599219415:=()
def tw9352461566830424537:=()
def tw7866897010667830670:=()
def tw14996471739736967399:=()
def tw1522098577780564659:=()
def tw9249707801901427190:=()
def tw7139088351689610286:=()
def tw15262615995105468717:=()
def tw2849595581683815163:=()
def tw16259180312868417929:=()
def tw9056499863581094013:=()
def tw6879044029730617349:=()
def tw1724681570953699331:=()
def tw1032497780002872655:=()
def tw1410220174097862783:=()
def tw14186928704818131456:=()
def tw15090488548445947722:=()
def tw6613424362484281916:=()
def tw1342141104767910310:=()
def tw579988139044364897:=()
def tw14661193033782377184:=()
def tw13755572253484216145:=()
def tw8973823547695381888:=()
def tw2299344019296456222:=()
def tw13221273192773693305:=()
def tw2670804563093759579:=()
def tw10251146607132858102:=()
def tw10469027194885038804:=()
def tw17004352079588775069:=()
def tw10477841552397494070:=()
def tw13101892306657845458:=()
def tw9847171269851679973:=()
def tw11934484572239010878:=()
def tw15742002283133263213:=()
def tw291909960728146984:=()
def tw8499118656537171581:=()
def tw1790624205323469539:=()
def tw10098795881037955836:=()
def tw17595636947443891625:=()
def tw15479722580111041833:=()
def tw5029648172989573268:=()
def tw4280032375886235145:=()
def tw4046762599818652577:=()
def tw2309376323592301146:=()
def tw10856089687560217271:=()
def tw4794798619065325003:=()
def tw11187151880587255897:=()
def tw15413209302521802810:=()
def tw1152035988313527745:=()
def tw1335959955117647705:=()
def tw15493404029074615244:=()
def tw10022847931600383975:=()
def tw13977226457384316119:=()
def tw4277963796942420546:=()
def tw4164354743375762393:=()
def tw12611500718023975588:=()
def tw15285122447951173154:=()
def tw14991055236295986189:=()
def tw1487494688820646468:=()
def tw3725068944838127846:=()
def tw16139530479379946944:=()
def tw11059349646933103209:=()
def tw2992053473677190271:=()
def tw16006309265293680295:=()
def tw7467885926086377080:=()
def tw9504070620302647161:=()
def tw8129389833472751078:=()
def tw3035064538408203091:=()
def tw9676865892697263954:=()
def tw10287038480586303017:=()
def tw3426524482896392210:=()
def tw396213137603435360:=()
def tw3092064450328272888:=()
def tw17145993928818418058:=()
def tw7565153910376673149:=()
def tw3692986773773715497:=()
def tw5108522599034289207:=()
def tw11078956356942016516:=()
def tw2651149728907775451:=()
def tw12028175131205309574:=()
def tw11213706440177454656:=()
def tw8968693694906952200:=()
def tw11733327166185352112:=()
def tw6338905741887169576:=()
def tw3886954013014736265:=()
def tw10955539652925594924:=()
def tw6133265033176332471:=()
def tw12209882688978262336:=()
def tw5796103000552180198:=()
def tw7655146353020971607:=()
def tw13905066003007118627:=()
def tw13112205850898943115:=()
def tw14296140522125314732:=()
def tw4044870995252316741:=()
def tw8680843336160103479:=()
def tw4161638685762403158:=()
def tw2736530902492749899:=()
def tw2369071996418486166:=()
def tw10547733591862086221:=()
def tw18222856491148237535:=()
def tw15544930904801753462:=()
def tw2640601286128639180:=()
def tw2573455514000625850:=()
def tw10801298197194399770:=()
def tw1012012173944423389:=()
def tw9641919362540006971:=()
def tw12898767951487252354:=()
def tw12982521965595358036:=()
def tw10381844935617667519:=()
def tw6542910839199443005:=()
def tw10290366897700678825:=()
def tw1968238572808484894:=()
def tw8122085518348698787:=()
def tw5427273138288099406:=()
def tw3646412933345007755:=()
def tw3136394246715026:=()
def tw7315866802226946072:=()
def tw6243778848346444237:=()
def tw483544577701619260:=()
def tw12269845815957247510:=()
def tw16979720431813662913:=()
def tw7695666261535802261:=()
def tw1023067335971154322:=()
def tw16608856508773533724:=()
def tw15740069508582604866:=()
def tw2538820127785641992:=()
def tw15194286737867156925:=()
def tw10468458066808236456:=()
end PySem.W.Fast
theorem ZA {α β : Type _} {as : List α} (f : α → β) : (as.map f).length = as.length := List.length_map f
theorem ZB {α : Type _} {a : α} {as : List α} (bs : List α) (h : a ∈ as) : a ∈ as ++ bs := List.mem_append_left bs h
theorem ZC {α : Type _} {b : α} {bs : List α} (as : List α) (h : b ∈ bs) : b ∈ as ++ bs := List.mem_append_right as h
theorem ZD {α : Type _} (y : α) {a : α} {l : List α} (h : a ∈ l) : a ∈ y :: l := List.mem_cons_of_mem y h
theorem ZE {α : Type _} {as bs : List α} : (as ++ bs).length = as.length + bs.length := List.length_append
theorem ZF {α β : Type _} {f : α → β} {as bs : List α} : (as ++ bs).map f = as.map f ++ bs.map f := List.map_append
theorem ZG (n : Nat) : n ≤ n := Nat.le_refl n
theorem ZH {α β : Type _} {f : α → β} {as : List α} {i : Nat} : (as.map f)[i]? = as[i]?.map f := List.getElem?_map
theorem ZI {α : Type _} {a : α} {s t : List α} : a ∈ s ++ t → a ∈ s ∨ a ∈ t := List.mem_append.mp
theorem ZJ {α : Type _} {l : List α} {i : Nat} {a : α} : l[i]? = some a → ∃ h : i < l.length, l[i] = a := List.getElem?_eq_some_iff.mp
theorem ZK {α : Type _} {a b : α} : a ∈ [b] → a = b := List.mem_singleton.mp
theorem ZL {α : Type _} {a : α} {l : List α} : a ∈ a :: l := List.mem_cons_self
theorem ZM {α : Type _} {a b : α} {l : List α} : a ∈ b :: l → a = b ∨ a ∈ l := List.mem_cons.mp
theorem ZN {α β : Type _} {b : β} {f : α → β} {l : List α} : b ∈ l.map f → ∃ a, a ∈ l ∧ f a = b := List.mem_map.mp
theorem ZO {α : Type _} {a b : α} : some a = some b → a = b := Option.some.inj
theorem ZP {α : Type _} {l : List α} {i : Nat} {a : α} : l[i]? = some a → a ∈ l := List.mem_of_getElem?
set_option autoImplicit true
set_option Elab.async false
set_option linter.all false
set_option maxRecDepth 100000
set_option maxHeartbeats 4000000
namespace L2
open PySem PySem.Spec PyProof.Rows
abbrev Key:=Sum Int Str
def keyIs:Key→Value→Bool
  | .inl k,v=>Value.isInt k v
  | .inr x,v=>Value.isStrOf x v
def keyH(w:World):Key→Int
  | .inl k=>hashInt k
  | .inr x=>hashStr w x
theorem keyIs_shape:∀{k:Key} {v:Value},keyIs k v=true→(∃i t,k=Sum.inl i∧v=Value.int i t)∨(∃x t,k=Sum.inr x∧v=Value.str x t)
  | .inl i,v,h=>by
    obtain⟨t,e⟩:=Value.isInt_shape (k:=i) (v:=v) h
    exact .inl ⟨i,t,rfl,e⟩
  | .inr x,v,h=>by
    obtain⟨t,e⟩:=Value.isStrOf_shape (x:=x) (v:=v) h
    exact .inr ⟨x,t,rfl,e⟩
theorem keyIs_int(i:Int)(t:Tok):keyIs (.inl i) (.int i t)=true:=by simp[keyIs,Value.isInt]
theorem keyIs_str(x:Str)(t:Tok):keyIs (.inr x) (.str x t)=true:=by simp[keyIs,Value.isStrOf]
theorem key_ll(a b:Int):decide ((Sum.inl a:Key)=Sum.inl b)=(a==b):=by grind
theorem key_rr(a b:Str):decide ((Sum.inr a:Key)=Sum.inr b)=decide (a=b):=by grind
theorem key_lr(a:Int)(b:Str):decide ((Sum.inl a:Key)=Sum.inr b)=false:=decide_eq_false (fun q=>nomatch q)
theorem key_rl(a:Str)(b:Int):decide ((Sum.inr a:Key)=Sum.inl b)=false:=decide_eq_false (fun q=>nomatch q)
def mixKind(prog:Program)(w:World):PySem.KeyKind prog w Key where
  is:=keyIs
  hash:=keyH w
  inj:=fun v a b ha hb=>by
    rcases keyIs_shape ha with⟨i,t,rfl,rfl⟩|⟨x,t,rfl,rfl⟩
    · rcases keyIs_shape hb with⟨j,u,rfl,e⟩|⟨y,u,rfl,e⟩
      · injection e with e1 _;rw[e1]
      · exact nomatch e
    · rcases keyIs_shape hb with⟨j,u,rfl,e⟩|⟨y,u,rfl,e⟩
      · exact nomatch e
      · injection e with e1 _;rw[e1]
  byValue:=fun k v h=>by
    rcases keyIs_shape h with⟨i,t,rfl,rfl⟩|⟨x,t,rfl,rfl⟩<;>rfl
  pyHash:=fun hv h=>by
    rcases keyIs_shape hv with⟨i,t,rfl,rfl⟩|⟨x,t,rfl,rfl⟩
    · exact wpAny_pyHash_int h
    · exact wpAny_pyHash_str h
  eqBool:=fun hu hv h=>by
    rcases keyIs_shape hu with⟨i,t,rfl,rfl⟩|⟨x,t,rfl,rfl⟩
    · rcases keyIs_shape hv with⟨j,u,rfl,rfl⟩|⟨y,u,rfl,rfl⟩
      · rw[key_ll] at h;exact wpAny_eqBool_int h
      · rw[key_lr] at h;exact SeqAt.EqAt.int_str i t y u _ _ _ _ h
    · rcases keyIs_shape hv with⟨j,u,rfl,rfl⟩|⟨y,u,rfl,rfl⟩
      · rw[key_rl] at h;exact SeqAt.EqAt.str_int x t j u _ _ _ _ h
      · rw[key_rr] at h;exact wpAny_eqBool_str h
  «strs»:=fun k x t v h=>by
    rcases keyIs_shape h with⟨i,u,rfl,e⟩|⟨y,u,rfl,e⟩
    · exact nomatch e
    · injection e with e1 _
      subst e1
      cases v<;>rfl
theorem mixKind_int(prog:Program)(w:World)(i:Int)(t:Tok):(mixKind prog w).is (.inl i) (.int i t)=true:=keyIs_int i t
theorem mixKind_str(prog:Program)(w:World)(x:Str)(t:Tok):(mixKind prog w).is (.inr x) (.str x t)=true:=keyIs_str x t
end L2
namespace L2
open PySem PySem.Spec PyProof.Rows
inductive V where
  | non|bl (b:Bool)|int (i:Int)|str (x:Str)|byt (b:Array UInt8)|flt (b:UInt64)|ref (a:Addr)|ty (n:String)
  deriving DecidableEq
def RelV:V→Value→Prop
  | .non,u=>u=Value.none
  | .bl b,u=>u=Value.bool b
  | .int i,u=>∃t,u=Value.int i t
  | .str x,u=>∃t,u=Value.str x t
  | .byt b,u=>∃t,u=Value.bytes b t
  | .flt b,u=>∃t,u=Value.float b t
  | .ref a,u=>u=Value.ref a
  | .ty n,u=>u=Value.type n
abbrev Vals:List V→List Value→Prop:=Paired RelV
theorem Vals.length(r:Vals xs us):xs.length=us.length:=Paired.length r
theorem Vals.get:∀{xs:List V} {us:List Value} {i:Nat} {x:V},Vals xs us→xs[i]?=some x→∃u,us[i]?=some u∧RelV x u
  | _,_,_,_,.nil,e=>by simp at e
  | _,_,0,_,.cons r _,e=>by simp at e;subst e;exact⟨_,rfl,r⟩
  | _,_,i+1,x,.cons _ t,e=>by
    obtain⟨u,h1,h2⟩:=Vals.get (i:=i) (x:=x) t (by simpa using e)
    exact⟨u,by simpa using h1,h2⟩
theorem Vals.append:∀{xs ys:List V} {us ws:List Value},Vals xs us→Vals ys ws→Vals (xs++ys) (us++ws)
  | _,_,_,_,.nil,s=>s
  | _,_,_,_,.cons r t,s=>.cons r (Vals.append t s)
theorem Vals.take:∀{xs:List V} {us:List Value} (n:Nat),Vals xs us→Vals (xs.take n) (us.take n)
  | _,_,0,_=>.nil
  | _,_,_+1,.nil=>.nil
  | _,_,n+1,.cons r t=>.cons r (Vals.take n t)
theorem Vals.drop:∀{xs:List V} {us:List Value} (n:Nat),Vals xs us→Vals (xs.drop n) (us.drop n)
  | _,_,0,r=>r
  | _,_,_+1,.nil=>.nil
  | _,_,n+1,.cons _ t=>Vals.drop n t
def RelO:Option V→Option Value→Prop
  | some v,some u=>RelV v u
  | none,none=>True
  | _,_=>False
def KV{κ:Type}:List (κ×V)→List (κ×Value)→Prop:=Paired fun(p:κ×V)(q:κ×Value)=>p.1=q.1∧RelV p.2 q.2
def kV:Key→V
  | .inl i=>.int i
  | .inr x=>.str x
inductive HO where
  | lst (xs:List V)
  | tup (xs:List V)
  | dK (kvs:List (Key×V))|dT (kvs:List (List Key×V))
  | set (S:Int→Bool) (n:Nat)
  | ins (C dx:Addr) (fs:List (Str×V))
  | own (x:Addr)
  | xd (fs:List (Str×V))
  | met (f x:Addr)
  | rng (lo hi:Int)
  | frz (o:Obj) (u:HO)
  | tbl (ps:Array Value)
  | ext (φ:Heap→Prop)
abbrev Hp:=Addr→Option HO
def upd(H:Hp)(a:Addr)(o:HO):Hp:=fun b=>if b=a then some o else H b
theorem upd_same{H:Hp}{a:Addr}{o:HO}:upd H a o a=some o:=by unfold upd;rw[if_pos rfl]
theorem upd_ne(h:b≠a):upd H a o b=H b:=by unfold upd;rw[if_neg h]
theorem upd_upd:upd (upd H a o) a u=upd H a u:=by
  funext b;unfold upd;split<;>rfl
theorem ne_of{H:Hp}{a b:Addr}{o u:HO}(h:H a=some o)(h':H b=some u)(d:o≠u):a≠b:=by
  intro e;subst e;rw[h] at h';exact d (ZO h')
theorem ne_of_none{H:Hp}{a b:Addr}{o:HO}(h:H a=some o)(h':H b=none):a≠b:=by
  intro e;subst e;rw[h] at h';cases h'
section
variable (P:Program)(w:World)
def ObjOk(H:Hp)(h:Heap)(a:Addr):HO→Prop
  | .lst xs=>xs.length≤sizeLine∧∃(its:List Value)(n:Nat),Vals xs its∧h.get? a=some { cls:=.type "list",data:=.seq its.toArray n }
  | .tup xs=>xs.length≤sizeLine∧∃its:List Value,Vals xs its∧IsTup h a its.toArray
  | .dK kvs=>kvs.length≤sizeLine∧(a==sysModules)=false∧∃vs,KV kvs vs∧h.DictOf (mixKind P w) a vs
  | .dT kvs=>kvs.length≤sizeLine∧(a==sysModules)=false∧∃xs:List (List Key×Addr×Value),
      Paired (fun(p:List Key×V)(q:List Key×Addr×Value)=>p.1=q.1∧H q.2.1=some (.tup (p.1.map kV))∧RelV p.2 q.2.2) kvs xs ∧
      ∃o es ep,h.get? a=some o∧o.ExactDict∧o.data=.dict es ep∧es.toList=xs.map (entryOfKey (tupleKind (mixKind P w)))∧(xs.map (·.1)).Nodup
  | .set S n=>h.SetOf (intKind P w) a S n
  | .ins C dx fs=>H dx=some (.own a)∧fs.length≤1000∧dx≠a∧h.get? a=some (PySem.W.instObj C dx) ∧
      ∃mA,h.Ns1 dx mA∧(∀f,RelO (fs.lookup f) (mA f))∧PySem.Within mA (fs.map (·.1))
  | .own _=>∃o,h.get? a=some o
  | .xd fs=>∃mA,h.Ns1 a mA∧∀f,RelO (fs.lookup f) (mA f)
  | .rng lo hi=>∃t u v,h.get? a=some { cls:=.type "range",data:=.fields #[.int lo t,.int hi u,.int 1 v] }
  | .frz o u=>h.get? a=some o∧ObjOk H h a u
  | .tbl ps=>h.get? a=some { cls:=.none,data:=.fields ps }
  | .met f x=>h.get? a=some (PySem.W.methodObj (.ref f) (.ref x))
  | .ext φ=>φ h∧(∃o,h.get? a=some o)∧∀h1 h2:Heap,φ h1→(∀o,h1.get? a=some o→h2.get? a=some o)→φ h2
def HOk(H:Hp)(h:Heap):Prop:=∀a o,H a=some o→ObjOk P w H h a o
end
section
variable {P:Program}{w:World}{H H':Hp}{h h':Heap}{a:Addr}{o:HO}
theorem ObjOk.lt(x:ObjOk P w H h a o):a<h.objs.size:=by
  cases o with
  | lst xs=>obtain⟨_,_,_,_,e⟩:=x;exact Heap.lt_size e
  | tup xs=>obtain⟨_,_,_,p⟩:=x;exact p.lt
  | dK kvs=>obtain⟨_,_,_,_,o,_,_,e,_⟩:=x;exact Heap.lt_size e
  | dT kvs=>obtain⟨_,_,_,_,o,_,_,e,_⟩:=x;exact Heap.lt_size e
  | set S n=>obtain⟨o,_,_,_,e,_⟩:=x;exact Heap.lt_size e
  | ins C dx fs=>obtain⟨_,_,_,e,_⟩:=x;exact Heap.lt_size e
  | own y=>obtain⟨_,e⟩:=x;exact Heap.lt_size e
  | xd fs=>obtain⟨_,⟨_,_,_,e,_⟩,_⟩:=x;exact Heap.lt_size e
  | rng lo hi=>obtain⟨_,_,_,e⟩:=x;exact Heap.lt_size e
  | frz ob u=>obtain⟨e,_⟩:=x;exact Heap.lt_size e
  | tbl ps=>exact Heap.lt_size (show h.get? a=some _ from x)
  | met f y=>exact Heap.lt_size (show h.get? a=some _ from x)
  | ext φ=>obtain⟨_,⟨_,e⟩,_⟩:=x;exact Heap.lt_size e
theorem Paired.mapP:∀{l₁:List α} {l₂:List β},Paired F l₁ l₂→(∀a b,F a b→G a b)→Paired G l₁ l₂
  | _,_,.nil,_=>.nil
  | _,_,.cons r t,f=>.cons (f _ _ r) (Paired.mapP t f)
theorem ObjOk.stay(x:ObjOk P w H h a o)(k:∀b u,(b=a∨H b=some (.own a))→h.get? b=some u→h'.get? b=some u)(ho:∀b,H b=some (.own a)→H' b=some (.own a))(ht:∀b xs,H b=some (.tup xs)→H' b=some (.tup xs)):ObjOk P w H' h' a o:=by
  induction o with
  | lst xs=>obtain⟨z,its,n,r,e⟩:=x;exact⟨z,its,n,r,k _ _ (.inl rfl) e⟩
  | tup xs=>obtain⟨z,its,r,ob,e,c⟩:=x;exact⟨z,its,r,ob,k _ _ (.inl rfl) e,c⟩
  | dK kvs=>obtain⟨z,y,vs,r,ob,es,ep,e,c⟩:=x;exact⟨z,y,vs,r,ob,es,ep,k _ _ (.inl rfl) e,c⟩
  | dT kvs =>
    obtain⟨z,y,xs,r,ob,es,ep,e,c⟩:=x
    exact⟨z,y,xs,Paired.mapP r fun p q z=>⟨z.1,ht _ _ z.2.1,z.2.2⟩,ob,es,ep,k _ _ (.inl rfl) e,c⟩
  | set S n=>obtain⟨ob,es,ep,t,e,c⟩:=x;exact⟨ob,es,ep,t,k _ _ (.inl rfl) e,c⟩
  | ins C dx fs =>
    obtain⟨d,z,ne,e,mA,⟨od,es,ep,e2,c⟩,r⟩:=x
    exact⟨ho _ d,z,ne,k _ _ (.inl rfl) e,mA,⟨od,es,ep,k _ _ (.inr d) e2,c⟩,r⟩
  | own y=>obtain⟨ob,e⟩:=x;exact⟨ob,k _ _ (.inl rfl) e⟩
  | xd fs=>obtain⟨mA,⟨od,es,ep,e,c⟩,r⟩:=x;exact⟨mA,⟨od,es,ep,k _ _ (.inl rfl) e,c⟩,r⟩
  | rng lo hi=>obtain⟨t,u,v,e⟩:=x;exact⟨t,u,v,k _ _ (.inl rfl) e⟩
  | frz ob u ih=>obtain⟨e,q⟩:=x;exact⟨k _ _ (.inl rfl) e,ih q⟩
  | tbl ps =>
    have e:h.get? a=some { cls:=.none,data:=.fields ps }:=x
    show h'.get? a=some { cls:=.none,data:=.fields ps }
    exact k a _ (.inl rfl) e
  | met f y =>
    have e:h.get? a=some (PySem.W.methodObj (.ref f) (.ref y)):=x
    show h'.get? a=some (PySem.W.methodObj (.ref f) (.ref y))
    exact k a _ (.inl rfl) e
  | ext φ=>obtain⟨p,⟨o,e⟩,st⟩:=x;exact⟨st _ _ p fun o q=>k _ _ (.inl rfl) q,⟨o,k _ _ (.inl rfl) e⟩,st⟩
theorem HOk.lt(x:HOk P w H h)(e:H a=some o):a<h.objs.size:=(x a o e).lt
theorem HOk.fresh(x:HOk P w H h)(e:h.objs.size≤a):H a=none:=by
  cases q:H a with
  | none=>rfl
  | some u=>exact absurd (Nat.lt_of_lt_of_le (x.lt q) e) (Nat.lt_irrefl _)
theorem HOk.kept(x:HOk P w H h)(k:∀b u,h.get? b=some u→h'.get? b=some u):HOk P w H h':=fun a o e =>
  (x a o e).stay (fun b u _ q=>k b u q) (fun _ q=>q) fun _ _ q=>q
theorem HOk.laid(x:HOk P w H h)(k:∀b u,h.get? b=some u→h'.get? b=some u)(hp:h.objs.size≤a)(new:ObjOk P w (upd H a o) h' a o):HOk P w (upd H a o) h':=fun b u e=>by
  have hn:=x.fresh hp
  by_cases hb:b=a
  · subst hb;rw[upd_same] at e;cases e;exact new
  · rw[upd_ne hb] at e
    exact(x b u e).stay (fun c v _ q=>k c v q) (fun c q=>by rw[upd_ne (ne_of_none q hn)];exact q) fun c xs q=>by rw[upd_ne (ne_of_none q hn)];exact q
end
def Rd(H:Hp)(a:Addr)(u:HO):Prop:=H a=some u∨∃o,H a=some (.frz o u)
theorem Rd.ok(r:Rd H a u)(x:HOk P w H h):ObjOk P w H h a u:=by
  rcases r with r|⟨o,r⟩
  · exact x a u r
  · obtain⟨_,q⟩:=x a _ r
    exact q
def Mut:Option HO→Prop
  | some (.lst _)=>True
  | some (.dK _)=>True
  | some (.dT _)=>True
  | some (.set _ _)=>True
  | some (.ins _ _ _)=>True
  | some (.ext _)=>True
  | _=>False
section
variable {P:Program}{w:World}{H:Hp}{h h':Heap}{x e:Addr}{o':HO}
theorem HOk.write(ok:HOk P w H h)(mu:Mut (H x))(he:e=x∨H e=some (.own x))(k:∀b u,b≠e→h.get? b=some u→h'.get? b=some u)(heo:∃u,h'.get? e=some u)(new:ObjOk P w (upd H x o') h' x o'):HOk P w (upd H x o') h':=fun b u q=>by
  have nown:∀c y,H c=some (.own y)→c≠x:=fun c y r z=>by subst z;rw[r] at mu;exact mu
  have ntup:∀c xs,H c=some (.tup xs)→c≠x:=fun c xs r z=>by subst z;rw[r] at mu;exact mu
  by_cases hb:b=x
  · subst hb;rw[upd_same] at q;cases q;exact new
  · rw[upd_ne hb] at q
    by_cases hbe:b=e
    · have q':H b=some (.own x):=by
        rcases he with z|z
        · exact absurd (hbe.trans z) hb
        · rw[hbe];exact z
      rw[q] at q';cases q'
      obtain⟨v,hv⟩:=heo
      exact⟨v,by rw[hbe];exact hv⟩
    · refine(ok b u q).stay (fun c v hc r=>k c v ?_ r) (fun c r=>by rw[upd_ne (nown c b r)];exact r) fun c xs r=>by rw[upd_ne (ntup c xs r)];exact r
      rcases hc with rfl|hc
      · exact hbe
      · rintro rfl
        rcases he with z|z
        · exact nown c b hc z
        · rw[hc] at z;cases z;exact hb rfl
end
structure Un(fs ex:List Addr)(H H':Hp)(h h':Heap):Prop where
  keep:∀b o,h.get? b=some o→H b=none→b∉fs→b∉ex→h'.get? b=some o
  slot:∀b o,h.get? b=some o→H b=none→b∈fs→b∉ex→∃sl,h'.get? b=some { o with slots:=sl }
  free:∀b o,h.get? b=some o→H b=none→b∉ex→H' b=none
  there:∀b o,h.get? b=some o→b∉ex→∃o',h'.get? b=some o'
  tups:∀b xs,H b=some (.tup xs)→H' b=some (.tup xs)
  frzs:∀b o u,H b=some (.frz o u)→H' b=some (.frz o u)
  tbls:∀b ps,H b=some (.tbl ps)→∃more,H' b=some (.tbl (ps++more))
section
variable {fs fs' ex ex':List Addr}{H H1 H2:Hp}{h h1 h2 h':Heap}{a x e:Addr}{o:HO}
theorem Un.any(u:Un fs ex H H1 h h1)(q:h.get? b=some ob)(n:H b=none)(hx:b∉ex):∃sl,h1.get? b=some { ob with slots:=sl }:=by
  by_cases hb:b∈fs
  · exact u.slot b ob q n hb hx
  · exact⟨ob.slots,u.keep b ob q n hb hx⟩
theorem Un.kept(k:∀b u,h.get? b=some u→h'.get? b=some u):Un fs ex H H h h' :=
  ⟨fun b ob q _ _ _=>k b ob q,fun b ob q _ _ _=>⟨ob.slots,k b ob q⟩,fun _ _ _ n _=>n,fun b ob q _=>⟨ob,k b ob q⟩,fun _ _ q=>q,fun _ _ _ q=>q,fun _ ps q=>⟨#[],by rw[q];simp⟩⟩
theorem Un.refl:Un fs ex H H h h:=Un.kept fun _ _ q=>q
theorem Un.laid(k:∀b u,h.get? b=some u→h'.get? b=some u)(hp:h.objs.size≤a)(hn:H a=none):Un fs ex H (upd H a o) h h' where
  keep:=fun b u q _ _ _=>k b u q
  slot:=fun b u q _ _ _=>⟨u.slots,k b u q⟩
  free:=fun b u q n _=>by rw[upd_ne (Nat.ne_of_lt (Nat.lt_of_lt_of_le (Heap.lt_size q) hp))];exact n
  there:=fun b u q _=>⟨u,k b u q⟩
  tups:=fun b xs q=>by rw[upd_ne (ne_of_none q hn)];exact q
  frzs:=fun b u xs q=>by rw[upd_ne (ne_of_none q hn)];exact q
  tbls:=fun b ps q=>⟨#[],by rw[upd_ne (ne_of_none q hn),q];simp⟩
theorem Un.write(mu:Mut (H x))(he:e=x∨H e=some (.own x))(k:∀b u,b≠e→h.get? b=some u→h'.get? b=some u)(heo:∃u,h'.get? e=some u):Un fs ex H (upd H x o) h h':=by
  have hx:∀b,H b=none→b≠x:=fun b n z=>by subst z;rw[n] at mu;exact mu
  have hb:∀b,H b=none→b≠e:=fun b n z=>by
    subst z
    rcases he with r|r
    · exact hx b n r
    · rw[n] at r;cases r
  have hm:∀b u,H b=some u→¬Mut (some u)→b≠x:=fun b u q nm z=>by subst z;rw[q] at mu;exact nm mu
  refine⟨fun b u q n _ _=>k b u (hb b n) q,fun b u q n _ _=>⟨u.slots,k b u (hb b n) q⟩,fun b u q n _=>by rw[upd_ne (hx b n)];exact n,fun b u q _=>?_,
    fun b xs q=>by rw[upd_ne (hm b _ q fun z=>z)];exact q,fun b u xs q=>by rw[upd_ne (hm b _ q fun z=>z)];exact q,fun b ps q=>⟨#[],by rw[upd_ne (hm b _ q fun z=>z),q];simp⟩⟩
  by_cases hbe:b=e
  · subst hbe;exact heo
  · exact⟨u,k b u hbe q⟩
end
def trk(h:Heap)(H:Hp):List Addr:=(List.range h.objs.size).filter fun a=>(H a).isSome
def hidT(h:Heap)(H:Hp):Heap:=PySem.W.hideAll h (trk h H)
theorem hidT_size(h:Heap)(H:Hp):(hidT h H).objs.size=h.objs.size:=PySem.W.hideAll_size _ _
theorem hidT_get(e:h.get? b=some o)(n:H b=none):(hidT h H).get? b=some o :=
  PySem.W.hideAll_get _ e fun hm=>by
    have q:(H b).isSome=true:=(List.mem_filter.mp hm).2
    rw[n] at q;simp at q
theorem of_hidT(e:(hidT h H).get? b=some o):h.get? b=some o∧H b=none:=by
  have e':h.get? b=some o:=PySem.W.of_hideAll (trk h H) e
  refine⟨e',?_⟩
  cases q:H b with
  | none=>rfl
  | some x =>
    have hm:b∈trk h H:=List.mem_filter.mpr ⟨List.mem_range.mpr (Heap.lt_size e'),by simp[q]⟩
    have z:(hidT h H).get? b=none:=PySem.W.hideAll_none (trk h H) hm
    rw[z] at e;cases e
def allNews(g h:Heap)(L:Addr):List (Addr×Obj):=(List.range h.objs.size).filterMap fun a=>if a=L∨(g.get? a).isSome=true then none else(h.get? a).map fun o=>(a,o)
def rest(g h:Heap)(L d:Addr):List (Addr×Obj):=(allNews g h L).filter fun p=>decide (p.1≠d)
end L2
namespace L2
open PySem PySem.Spec PyProof.Rows
structure Mod(K:PySem.W.Frag)(mg:Str→Option Value)(base:Heap):Prop where
  kin:K.In base
  glob:base.Ns mainGlobals mg
  blt:∃mb,base.Ns builtinsNs mb∧∀x:Str,x≠"__name__"→mb x=bootBuiltins x
  nolimit:base.NoLimit
structure Cx where
  prog:Program
  w:World
  K:PySem.W.Frag
  mg:Str→Option Value
  base:Heap
  A:Around
  N:List Str
  s₀:Shared
  H₀:Hp
  env:Env
  outer:List Env
  stack:List Env
  ex:List Addr
  fn:Str→Bool
  calm:Bool
  pn:List (Addr×Obj)
  xe:Value→Shared→Prop
def frs(l:List Env):List Addr:=l.filterMap (·.frame)
abbrev Cx.fs(X:Cx):List Addr:=frs X.outer
def Vis(sc:Scope)(x:Str):Prop:=sc.names.lookup x=some .local∨sc.names.lookup x=some .cell∨sc.names.lookup x=some .free
def Loc(sc:Scope)(x:Str):Prop:=sc.names.lookup x=some .local∨sc.names.lookup x=some .cell
def Look(env:Env)(h:Heap)(m:Str→Option Value)(x:Str)(u:Value):Prop :=
  (env.kindOf x=some .local∧m x=some u)∨((env.kindOf x=some .cell∨env.kindOf x=some .free)∧∃c,env.cells.lookup x=some c∧h.IsCell c (some u))
structure Cx.Ok(X:Cx):Prop where
  mod:Mod X.K X.mg X.base
  kind:X.env.scope.kind=.function
  glob:X.env.globals=mainGlobals
  blt:X.env.builtins=builtinsNs
  above:X.s₀.heap.objs.size≤X.env.locals
  inj:∀x y c,X.env.cells.lookup x=some c→X.env.cells.lookup y=some c→x=y
  has:∀x,(X.env.kindOf x=some .cell∨X.env.kindOf x=some .free)→∃c,X.env.cells.lookup x=some c
  cab:∀x c,X.fn x=true→X.env.cells.lookup x=some c→X.s₀.heap.objs.size≤c
  hd:X.calm=true→X.A.handled=none
  frames:X.A.frames=some X.stack
  stk:X.stack=X.outer∨(X.stack=X.env::X.outer∧X.env.frame=some X.env.locals)
  exf:∀b∈X.ex,b≠X.env.locals∧∀x c,X.env.cells.lookup x=some c→c≠b
  bs:∀b o,X.base.get? b=some o→X.s₀.heap.get? b=some o∧X.H₀ b=none
  bsz:X.base.objs.size≤X.s₀.heap.objs.size
  noex:∀b o,X.base.get? b=some o→b∉X.ex
  exfs:∀b∈X.ex,b∉X.fs
  funs:X.s₀.heap.FunFrames X.base X.outer
  frf:∀b∈X.fs,X.H₀ b=none
structure Inv(X:Cx)(pins:List (Addr×Obj))(σ:List (Option V))(H:Hp)(s:Shared):Prop where
  ok:X.Ok
  os:s.os=X.s₀.os
  bare:AllBare s.gens
  base:Un X.fs X.ex X.H₀ H X.s₀.heap s.heap
  loc:∃m,s.heap.Ns X.env.locals m∧∀(i:Nat)(x:Str)(v:V),X.N[i]?=some x→σ[i]?=some (some v)→Vis X.env.scope x→∃u,RelV v u∧Look X.env s.heap m x u
  cell:∀x c,X.env.cells.lookup x=some c→∃v,s.heap.IsCell c v
  free:H X.env.locals=none
  freeC:∀x c,X.env.cells.lookup x=some c→H c=none
  pin:∀p∈X.pn++pins,s.heap.get? p.1=some p.2∧H p.1=none∧p.1≠X.env.locals∧p.1∉X.fs∧∀v,p.2.data≠.cell v
  hok:HOk X.prog X.w H s.heap
  len:σ.length=X.N.length
section
variable {X:Cx}{pins:List (Addr×Obj)}{σ:List (Option V)}{H H':Hp}{s:Shared}{h':Heap}
theorem Cx.Ok.nofr(ok:X.Ok){b:Addr}{o:Obj}(e:X.base.get? b=some o):b∉X.fs:=fun hb=>by
  have:=(ok.funs.mem hb).1
  rw[e] at this;cases this
theorem Inv.bs(I:Inv X pins σ H s):∀b o,X.base.get? b=some o→s.heap.get? b=some o∧H b=none:=fun b o e =>
  ⟨I.base.keep b o (I.ok.bs b o e).1 (I.ok.bs b o e).2 (I.ok.nofr e) (I.ok.noex b o e),I.base.free b o (I.ok.bs b o e).1 (I.ok.bs b o e).2 (I.ok.noex b o e)⟩
theorem Inv.bk(I:Inv X pins σ H s):∀b o,X.base.get? b=some o→s.heap.get? b=some o:=fun b o e=>(I.bs b o e).1
theorem Inv.mod(I:Inv X pins σ H s):Mod X.K X.mg X.base:=I.ok.mod
theorem Inv.kIn(I:Inv X pins σ H s):X.K.In s.heap:=I.ok.mod.kin.keeps I.bk
theorem Inv.lt(I:Inv X pins σ H s):X.env.locals<s.heap.objs.size:=let⟨_,hn,_⟩:=I.loc;hn.lt
theorem Inv.sz(I:Inv X pins σ H s):X.s₀.heap.objs.size≤s.heap.objs.size:=Nat.le_trans I.ok.above (Nat.le_of_lt I.lt)
theorem Inv.nofs(I:Inv X pins σ H s)(h:s.heap.objs.size≤a):a∉X.fs:=fun hb=>by
  obtain⟨_,o,ho,_⟩:=I.ok.funs.mem hb
  exact absurd (Nat.lt_of_lt_of_le (Heap.lt_size ho) (Nat.le_trans I.sz h)) (Nat.lt_irrefl _)
theorem Inv.cne(I:Inv X pins σ H s):∀x c,X.env.cells.lookup x=some c→c≠X.env.locals:=fun x c e z=>by
  obtain⟨v,o,ho,hd⟩:=I.cell x c e
  obtain⟨m,⟨o',es,ep,ho',hd',_⟩,_⟩:=I.loc
  rw[z,ho'] at ho;cases ho;rw[hd'] at hd;cases hd
theorem Inv.funs(I:Inv X pins σ H s):s.heap.FunFrames X.base X.outer:=by
  have all:∀(l:List Env),(∀b∈frs l,b∈X.fs)→X.s₀.heap.FunFrames X.base l→s.heap.FunFrames X.base l:=by
    intro l
    induction l with
    | nil=>intro _ _;trivial
    | cons env r ih =>
      intro hs hl
      obtain⟨hk,⟨L,o,hf,hn,ho,hd⟩,hr⟩:=hl
      have hL:L∈X.fs:=hs L (by unfold frs;rw[List.filterMap_cons,hf];exact ZL)
      obtain⟨sl,e⟩:=I.base.slot L o ho (I.ok.frf L hL) hL fun z=>I.ok.exfs L z hL
      exact⟨hk,⟨L,_,hf,hn,e,hd⟩,ih (fun b hb=>hs b (by unfold frs;rw[List.filterMap_cons,hf];exact ZD _ hb)) hr⟩
  exact all X.outer (fun _ hb=>hb) I.ok.funs
theorem Inv.stack(I:Inv X pins σ H s):s.heap.FunFrames X.base X.stack:=by
  rcases I.ok.stk with e|⟨e,hf⟩
  · rw[e];exact I.funs
  · rw[e]
    obtain⟨m,hn,_⟩:=I.loc
    refine .cons (by rw[I.ok.kind];decide) hf hn ?_ I.funs
    exact Heap.get?_none_of_le (Nat.le_trans I.ok.bsz I.ok.above)
theorem Inv.stkSub(I:Inv X pins σ H s):∀b∈frs X.stack,b∈X.env.locals::X.fs:=fun b hb=>by
  rcases I.ok.stk with e|⟨e,hf⟩
  · rw[e] at hb;exact ZD _ hb
  · rw[e] at hb
    unfold frs at hb
    rw[List.filterMap_cons,hf] at hb
    exact hb
theorem Inv.stkFree(I:Inv X pins σ H s):∀b∈frs X.stack,H b=none:=fun b hb=>by
  rcases ZM (I.stkSub b hb) with e|hb
  · rw[e];exact I.free
  · obtain⟨_,o,ho,_⟩:=I.ok.funs.mem hb
    exact I.base.free b o ho (I.ok.frf b hb) fun z=>I.ok.exfs b z hb
theorem Inv.step{g':Array GenState}{t':Nat}{d':Drawn}{ch:List Addr}(I:Inv X pins σ H s)(hch:∀b∈ch,(b∈X.ex∨X.s₀.heap.objs.size≤b)∧b≠X.env.locals∧(∀x c,X.env.cells.lookup x=some c→c≠b)∧∀p∈X.pn++pins,p.1≠b)(keep:∀b o,b≠X.env.locals→b∉X.fs→b∉ch→s.heap.get? b=some o→H b=none→h'.get? b=some o)(slot:∀b o,b≠X.env.locals→b∈X.fs→b∉ch→s.heap.get? b=some o→H b=none→∃sl,h'.get? b=some { o with slots:=sl })(free:∀b o,b∉ch→s.heap.get? b=some o→H b=none→H' b=none)(there:∀b o,b∉ch→s.heap.get? b=some o→∃o',h'.get? b=some o')(tups:∀b xs,H b=some (.tup xs)→H' b=some (.tup xs))(frzs:∀b o u,H b=some (.frz o u)→H' b=some (.frz o u))(tbls:∀b ps,H b=some (.tbl ps)→∃more,H' b=some (.tbl (ps++more)))(ns:∀m,s.heap.Ns X.env.locals m→h'.Ns X.env.locals m)(hok:HOk X.prog X.w H' h')(hg:AllBare g') :
    Inv X pins σ H' { s with heap:=h',gens:=g',drawn:=d',toks:=t' }:=by
  have neL:∀b o,X.s₀.heap.get? b=some o→b≠X.env.locals:=fun b o e=>Nat.ne_of_lt (Nat.lt_of_lt_of_le (Heap.lt_size e) I.ok.above)
  have neC:∀b o,X.s₀.heap.get? b=some o→b∉X.ex→b∉ch:=fun b o e hx hb=>by
    rcases(hch b hb).1 with z|z
    · exact hx z
    · exact absurd (Nat.lt_of_lt_of_le (Heap.lt_size e) z) (Nat.lt_irrefl _)
  have cellK:∀x c,X.env.cells.lookup x=some c→∀v,s.heap.IsCell c v→h'.IsCell c v:=fun x c e v ⟨o,ho,hd⟩=>by
    have nch:c∉ch:=fun z=>(hch c z).2.2.1 x c e rfl
    by_cases hc:c∈X.fs
    · obtain⟨sl,q⟩:=slot c o (I.cne x c e) hc nch ho (I.freeC x c e)
      exact⟨_,q,hd⟩
    · exact⟨o,keep c o (I.cne x c e) hc nch ho (I.freeC x c e),hd⟩
  refine⟨I.ok,I.os,hg,⟨fun b o e n hb hx=>?_,fun b o e n hb hx=>?_,fun b o e n hx=>?_,fun b o e hx=>?_,fun b xs e=>tups b xs (I.base.tups b xs e),fun b o xs e=>frzs b o xs (I.base.frzs b o xs e),fun b ps e=>?_⟩,?_,fun x c e=>?_,?_,fun x c e=>?_,fun p hp=>?_,hok,I.len⟩
  · exact keep b o (neL b o e) hb (neC b o e hx) (I.base.keep b o e n hb hx) (I.base.free b o e n hx)
  · obtain⟨sl,e1⟩:=I.base.slot b o e n hb hx
    obtain⟨sl',e2⟩:=slot b _ (neL b o e) hb (neC b o e hx) e1 (I.base.free b o e n hx)
    exact⟨sl',e2⟩
  · obtain⟨o',e1⟩:=I.base.there b o e hx
    exact free b o' (neC b o e hx) e1 (I.base.free b o e n hx)
  · obtain⟨o',e1⟩:=I.base.there b o e hx
    exact there b o' (neC b o e hx) e1
  · obtain⟨m1,e1⟩:=I.base.tbls b ps e
    obtain⟨m2,e2⟩:=tbls b _ e1
    exact⟨m1++m2,by rw[e2,Array.append_assoc]⟩
  · obtain⟨m,hn,hl⟩:=I.loc
    refine⟨m,ns m hn,fun i x v e1 e2 e3=>?_⟩
    obtain⟨u,r,l⟩:=hl i x v e1 e2 e3
    refine⟨u,r,?_⟩
    rcases l with l|⟨k,c,e,z⟩
    · exact .inl l
    · exact .inr ⟨k,c,e,cellK x c e _ z⟩
  · obtain⟨v,z⟩:=I.cell x c e
    exact⟨v,cellK x c e v z⟩
  · obtain⟨m,⟨o,_,_,ho,_⟩,_⟩:=I.loc
    exact free _ o (fun z=>(hch _ z).2.1 rfl) ho I.free
  · obtain⟨v,o,ho,hd⟩:=I.cell x c e
    exact free c o (fun z=>(hch c z).2.2.1 x c e rfl) ho (I.freeC x c e)
  · obtain⟨e,n,ne,nf,d⟩:=I.pin p hp
    have nch:p.1∉ch:=fun z=>(hch p.1 z).2.2.2 p hp rfl
    exact⟨keep p.1 p.2 ne nf nch e n,free p.1 p.2 nch e n,ne,nf,d⟩
theorem Inv.un(I:Inv X pins σ H s)(u:Un X.fs [] H H' s.heap h')(hok:HOk X.prog X.w H' h'):Inv X pins σ H' { s with heap:=h',toks:=t' }:=by
  obtain⟨m,⟨o,es,ep,ho,r⟩,_⟩:=id I.loc
  obtain⟨sl,hL⟩:=u.any ho I.free (by simp)
  exact I.step (g':=s.gens) (d':=s.drawn) (ch:=[]) (fun _ z=>nomatch z) (fun b o _ hb _ e n=>u.keep b o e n hb (by simp)) (fun b o _ hb _ e n=>u.slot b o e n hb (by simp)) (fun b o _ e n=>u.free b o e n (by simp)) (fun b o _ e=>u.there b o e (by simp)) u.tups u.frzs u.tbls (fun m' hm=>by
    obtain⟨o',es',ep',ho',r'⟩:=hm
    rw[ho] at ho';cases ho'
    exact⟨_,es',ep',hL,r'⟩) hok I.bare
theorem Inv.call(I:Inv X pins σ H s)(u:Un (frs X.stack) ch H H' s.heap h')(hok:HOk X.prog X.w H' h')(hg:AllBare g')(hch:∀b∈ch,(b∈X.ex∨X.s₀.heap.objs.size≤b)∧b≠X.env.locals∧(∀x c,X.env.cells.lookup x=some c→c≠b)∧∀p∈X.pn++pins,p.1≠b) :
    Inv X pins σ H' { s with heap:=h',gens:=g',drawn:=d',toks:=t' }:=by
  obtain⟨m,⟨o,es,ep,ho,r⟩,_⟩:=id I.loc
  obtain⟨sl,hL⟩:=u.any ho I.free fun z=>(hch _ z).2.1 rfl
  exact I.step (ch:=ch) hch (fun b o hL hb hc e n=>u.keep b o e n (fun z=>(ZM (I.stkSub b z)).elim hL hb) hc) (fun b o _ _ hc e n=>u.any e n hc) (fun b o hc e n=>u.free b o e n hc) (fun b o hc e=>u.there b o e hc) u.tups u.frzs u.tbls (fun m' hm=>by
    obtain⟨o',es',ep',ho',r'⟩:=hm
    rw[ho] at ho';cases ho'
    exact⟨_,es',ep',hL,r'⟩) hok hg
theorem Inv.turned{t':Nat}{it:Addr}(I:Inv X pins σ H s)(k:∀b o,b≠it→s.heap.get? b=some o→h'.get? b=some o)(hn:H it=none)(hL:it≠X.env.locals)(h1:it∈X.ex∨X.s₀.heap.objs.size≤it)(h2:∀x c,X.env.cells.lookup x=some c→c≠it)(h3:∀p∈X.pn++pins,p.1≠it):Inv X pins σ H { s with heap:=h',toks:=t' }:=by
  have nit:∀b u,H b=some u→b≠it:=fun b u e z=>by rw[z,hn] at e;cases e
  refine I.step (g':=s.gens) (d':=s.drawn) (ch:=[it]) (fun b hb=>?_) (fun b o _ _ hc e _=>k b o (fun z=>hc (by simp[z])) e) (fun b o _ _ hc e _=>⟨o.slots,k b o (fun z=>hc (by simp[z])) e⟩) (fun _ _ _ _ n=>n)
    (fun b o hc e=>⟨o,k b o (fun z=>hc (by simp[z])) e⟩) (fun _ _ e=>e) (fun _ _ _ e=>e) (fun b ps e=>⟨#[],by rw[e];simp⟩) (fun m hm=>?_) (fun b u e=>?_) I.bare
  · have e:b=it:=by simpa using hb
    subst e
    exact⟨h1,hL,h2,h3⟩
  · obtain⟨o,es,ep,ho,r⟩:=hm
    exact⟨o,es,ep,k _ o (Ne.symm hL) ho,r⟩
  · refine(I.hok b u e).stay (fun c v hc q=>k c v ?_ q) (fun _ q=>q) fun _ _ q=>q
    rcases hc with z|z
    · rw[z];exact nit b u e
    · exact nit c _ z
theorem Inv.tok(I:Inv X pins σ H s)(t:Nat):Inv X pins σ H { s with toks:=t }:=I.un (h':=s.heap) (t':=t) Un.refl I.hok
theorem Inv.kept(I:Inv X pins σ H s)(k:∀b u,s.heap.get? b=some u→h'.get? b=some u):Inv X pins σ H { s with heap:=h',toks:=t' }:=I.un (Un.kept k) (I.hok.kept k)
theorem Inv.laid{a:Addr}{o:HO}{t':Nat}(I:Inv X pins σ H s)(k:∀b u,s.heap.get? b=some u→h'.get? b=some u)(hp:s.heap.objs.size≤a)(new:ObjOk X.prog X.w (upd H a o) h' a o) :
    Inv X pins σ (upd H a o) { s with heap:=h',toks:=t' }:=I.un (Un.laid k hp (I.hok.fresh hp)) (I.hok.laid k hp new)
theorem Inv.write{x e:Addr}{o:HO}{t':Nat}(I:Inv X pins σ H s)(mu:Mut (H x))(he:e=x∨H e=some (.own x))(k:∀b u,b≠e→s.heap.get? b=some u→h'.get? b=some u)(heo:∃u,h'.get? e=some u)(new:ObjOk X.prog X.w (upd H x o) h' x o):Inv X pins σ (upd H x o) { s with heap:=h',toks:=t' }:=I.un (Un.write mu he k heo) (I.hok.write mu he k heo new)
theorem Inv.pins_of(I:Inv X pins σ H s)(h:∀p∈pins',s.heap.get? p.1=some p.2∧H p.1=none∧p.1≠X.env.locals∧p.1∉X.fs∧∀v,p.2.data≠.cell v):Inv X pins' σ H s :=
  ⟨I.ok,I.os,I.bare,I.base,I.loc,I.cell,I.free,I.freeC,fun p hp=>(ZI hp).elim (fun z=>I.pin p (ZB _ z)) (h p),I.hok,I.len⟩
theorem nodup_ix{N:List Str}(hN:N.Nodup){i j:Nat}{x:Str}(a:N[i]?=some x)(b:N[j]?=some x):i=j:=by
  obtain⟨h1,e1⟩:=ZJ a
  obtain⟨h2,e2⟩:=ZJ b
  exact(List.getElem_inj hN).mp (e1.trans e2.symm)
theorem store_ok2{M:Model}{A:Around}{E:Value→Shared→Prop}{i:Nat}{x:Str}{v:V}{u:Value}{Q:Unit→Shared→Prop}(I:Inv X pins σ H s)(hN:X.N.Nodup)(hi:X.N[i]?=some x)(hx:Loc X.env.scope x)(r:RelV v u)(h:∀s',Inv X pins (σ.set i (some v)) H s'→(∃a,Heap.SameBut a s.heap s'.heap∧(a=X.env.locals∨X.env.cells.lookup x=some a))→Q () s')(hf:X.fn x=true∨X.env.scope.names.lookup x=some .local:=by first|exact .inl rfl|exact .inr rfl|assumption):wpAny M A (storeName X.env x u) Q E s:=by
  obtain⟨m,hn,hl⟩:=id I.loc
  have hcls:(X.env.scope.kind == .class || (X.env.scope.kind == .module&&X.env.locals != X.env.globals))=false:=by rw[I.ok.kind];rfl
  have hiσ:i<σ.length:=by rw[I.len];exact(ZJ hi).1
  have cne:=I.cne
  have tracked:∀{a:Addr} {h':Heap},(∃o,s.heap.get? a=some o∧H a=none)→Heap.SameBut a s.heap h'→HOk X.prog X.w H h':=fun{a h'} ha hs b ob e=>by
    obtain⟨_,_,hfree⟩:=ha
    refine(I.hok b ob e).stay (fun c w' hc q=>(hs.2 c ?_).trans q) (fun _ q=>q) fun _ _ q=>q
    rintro rfl
    rcases hc with rfl|hc
    · rw[hfree] at e;cases e
    · rw[hfree] at hc;cases hc
  rcases hx with hk|hk
  · refine wpAny_storeName_local hk hn (fun h' hn' hs=>?_) hcls
    obtain⟨oL,_,_,hoL,_⟩:=id hn
    refine h _ ⟨I.ok,I.os,I.bare,⟨fun b o e n hb hx=>?_,fun b o e n hb hx=>?_,I.base.free,fun b o e hx=>?_,I.base.tups,I.base.frzs,I.base.tbls⟩,⟨_,hn',fun j y v' e1 e2 e3=>?_⟩,fun y c e=>?_,I.free,I.freeC,fun p hp=>?_,tracked ⟨oL,hoL,I.free⟩ hs,by simpa using I.len⟩ ⟨_,hs,.inl rfl⟩
    · exact(hs.2 b (Nat.ne_of_lt (Nat.lt_of_lt_of_le (Heap.lt_size e) I.ok.above))).trans (I.base.keep b o e n hb hx)
    · obtain⟨sl,e1⟩:=I.base.slot b o e n hb hx
      exact⟨sl,(hs.2 b (Nat.ne_of_lt (Nat.lt_of_lt_of_le (Heap.lt_size e) I.ok.above))).trans e1⟩
    · obtain⟨o',e1⟩:=I.base.there b o e hx
      exact⟨o',(hs.2 b (Nat.ne_of_lt (Nat.lt_of_lt_of_le (Heap.lt_size e) I.ok.above))).trans e1⟩
    · by_cases hj:j=i
      · subst hj
        rw[hi] at e1;cases e1
        rw[List.getElem?_set_self hiσ] at e2
        cases e2
        exact⟨u,r,.inl ⟨hk,by simp⟩⟩
      · rw[List.getElem?_set_ne (Ne.symm hj)] at e2
        obtain⟨u',r',q⟩:=hl j y v' e1 e2 e3
        refine⟨u',r',?_⟩
        rcases q with⟨k,e⟩|⟨k,c,e,z⟩
        · refine .inl ⟨k,?_⟩
          have:y≠x:=fun e=>hj (nodup_ix hN e1 (e▸hi))
          simp[this,e]
        · exact .inr ⟨k,c,e,z.sameBut hs (cne y c e)⟩
    · obtain⟨w',z⟩:=I.cell y c e
      exact⟨w',z.sameBut hs (cne y c e)⟩
    · obtain⟨e,n,ne,nf,d⟩:=I.pin p hp
      exact⟨(hs.2 p.1 ne).trans e,n,ne,nf,d⟩
  · have hfn:X.fn x=true:=by
      rcases hf with z|z
      · exact z
      · rw[z] at hk;cases hk
    obtain⟨c,hc⟩:=I.ok.has x (.inl hk)
    obtain⟨w',z⟩:=I.cell x c hc
    refine wpAny_storeName_cell I.ok.kind hk hc z (fun h' hc' hs=>?_)
    obtain⟨oc,hoc,hocd⟩:=id z
    refine h { s with heap:=h' } ⟨I.ok,I.os,I.bare,⟨fun b o e n hb hx=>?_,fun b o e n hb hx=>?_,I.base.free,fun b o e hx=>?_,I.base.tups,I.base.frzs,I.base.tbls⟩,⟨m,hn.sameBut hs (Ne.symm (cne x c hc)),fun j y v' e1 e2 e3=>?_⟩,fun y c' e=>?_,I.free,I.freeC,fun p hp=>?_,tracked ⟨oc,hoc,I.freeC x c hc⟩ hs,by simpa using I.len⟩ ⟨c,hs,.inr hc⟩
    · exact(hs.2 b (Nat.ne_of_lt (Nat.lt_of_lt_of_le (Heap.lt_size e) (I.ok.cab x c hfn hc)))).trans (I.base.keep b o e n hb hx)
    · obtain⟨sl,e1⟩:=I.base.slot b o e n hb hx
      exact⟨sl,(hs.2 b (Nat.ne_of_lt (Nat.lt_of_lt_of_le (Heap.lt_size e) (I.ok.cab x c hfn hc)))).trans e1⟩
    · obtain⟨o',e1⟩:=I.base.there b o e hx
      exact⟨o',(hs.2 b (Nat.ne_of_lt (Nat.lt_of_lt_of_le (Heap.lt_size e) (I.ok.cab x c hfn hc)))).trans e1⟩
    · by_cases hj:j=i
      · subst hj
        rw[hi] at e1;cases e1
        rw[List.getElem?_set_self hiσ] at e2
        cases e2
        exact⟨u,r,.inr ⟨.inl hk,c,hc,hc'⟩⟩
      · rw[List.getElem?_set_ne (Ne.symm hj)] at e2
        obtain⟨u',r',q⟩:=hl j y v' e1 e2 e3
        refine⟨u',r',?_⟩
        rcases q with q|⟨k,c',e,z'⟩
        · exact .inl q
        · refine .inr ⟨k,c',e,z'.sameBut hs ?_⟩
          rintro rfl
          exact hj (nodup_ix hN e1 (I.ok.inj _ _ _ e hc▸hi))
    · by_cases hcc:c'=c
      · subst hcc;exact⟨_,hc'⟩
      · obtain⟨w2,z2⟩:=I.cell y c' e
        exact⟨w2,z2.sameBut hs hcc⟩
    · obtain⟨e,n,ne,nf,d⟩:=I.pin p hp
      refine⟨(hs.2 p.1 ?_).trans e,n,ne,nf,d⟩
      intro q
      rw[q,hoc] at e
      have q':oc=p.2:=ZO e
      exact d w' (by rw[←q'];exact hocd)
theorem store_ok{M:Model}{A:Around}{E:Value→Shared→Prop}{i:Nat}{x:Str}{v:V}{u:Value}{Q:Unit→Shared→Prop}(I:Inv X pins σ H s)(hN:X.N.Nodup)(hi:X.N[i]?=some x)(hx:Loc X.env.scope x)(r:RelV v u)(h:∀s',Inv X pins (σ.set i (some v)) H s'→Q () s')(hf:X.fn x=true∨X.env.scope.names.lookup x=some .local:=by first|exact .inl rfl|exact .inr rfl|assumption):wpAny M A (storeName X.env x u) Q E s :=
  store_ok2 I hN hi hx r (fun s' I' _=>h s' I') hf
theorem Inv.call'{s':Shared}{ch:List Addr}(I:Inv X pins σ H s)(ho:s'.os=s.os)(u:Un (frs X.stack) ch H H' s.heap s'.heap)(hok:HOk X.prog X.w H' s'.heap)(hg:AllBare s'.gens)(hch:∀b∈ch,(b∈X.ex∨X.s₀.heap.objs.size≤b)∧b≠X.env.locals∧(∀x c,X.env.cells.lookup x=some c→c≠b)∧∀p∈X.pn++pins,p.1≠b):Inv X pins σ H' s':=by
  obtain⟨h',g',d',t',o'⟩:=s'
  have e:o'=s.os:=ho
  subst e
  exact I.call (g':=g') (t':=t') (d':=d') u hok hg hch
end
abbrev XK:=Value→Option Addr→Hp→Prop
abbrev St:=List (Option V)
abbrev VK:=V→Hp→Prop
abbrev TE:=St→Hp→VK→Prop
abbrev TT:=St→Hp→(Bool→Hp→Prop)→Prop
abbrev TA:=St→Hp→(List V→Hp→Prop)→Prop
structure Ends where
  nx:St→Hp→Prop
  rt:VK
  bk:St→Hp→Prop:=fun _ _=>False
  ct:St→Hp→Prop:=fun _ _=>False
abbrev TS:=Ends→St→Hp→Prop
inductive EP(X:Cx)(pins:List (Addr×Obj))(σ:St)(Q:VK)(u:Value)(s':Shared):Prop
  | mk v H' (_:Inv X pins σ H' s') (_:RelV v u) (_:Q v H')
inductive TP(X:Cx)(pins:List (Addr×Obj))(σ:St)(Q:Bool→Hp→Prop)(b:Bool)(s':Shared):Prop
  | mk H' (_:Inv X pins σ H' s') (_:Q b H')
inductive AP(X:Cx)(pins:List (Addr×Obj))(σ:St)(Q:List V→Hp→Prop)(us:List Value)(s':Shared):Prop
  | mk vs H' (_:Inv X pins σ H' s') (_:Vals vs us) (_:Q vs H')
def SP(X:Cx)(pins:List (Addr×Obj))(D:Ends)(f:Flow)(s':Shared):Prop :=
  match f with
  | .next=>∃σ' H',Inv X pins σ' H' s'∧D.nx σ' H'
  | .brk=>∃σ' H',Inv X pins σ' H' s'∧D.bk σ' H'
  | .cont=>∃σ' H',Inv X pins σ' H' s'∧D.ct σ' H'
  | .ret u=>∃v σ' H',Inv X pins σ' H' s'∧RelV v u∧D.rt v H'
def PE(X:Cx)(e:Expr)(t:TE):Prop :=
  ∀(pins:List (Addr×Obj))(s:Shared)(σ:St)(H:Hp)(Q:VK),Inv X pins σ H s→t σ H Q→wpAny (model X.prog X.w) X.A (eval e X.env) (EP X pins σ Q) X.xe s
def PT(X:Cx)(e:Expr)(t:TT):Prop :=
  ∀(pins:List (Addr×Obj))(s:Shared)(σ:St)(H:Hp)(Q:Bool→Hp→Prop),Inv X pins σ H s→t σ H Q→wpAny (model X.prog X.w) X.A (isTrue e X.env (eval e X.env)) (TP X pins σ Q) X.xe s
def PW(X:Cx)(e:Expr)(t:TT):Prop :=
  ∀(whole:Sem Value)(pins:List (Addr×Obj))(s:Shared)(σ:St)(H:Hp)(Q:Bool→Hp→Prop),Inv X pins σ H s→t σ H Q→wpAny (model X.prog X.w) X.A (isTrue e X.env whole) (TP X pins σ Q) X.xe s
theorem PW.pt(h:PW X e t):PT X e t:=h _
def PA(X:Cx)(es:List Expr)(t:TA):Prop :=
  ∀(pos:Pos)(pins:List (Addr×Obj))(s:Shared)(σ:St)(H:Hp)(Q:List V→Hp→Prop),Inv X pins σ H s→t σ H Q→wpAny (model X.prog X.w) X.A (spliced (backTo pos (starEach es X.env))) (AP X pins σ Q) X.xe s
def PS(X:Cx)(st:Stmt)(t:TS):Prop :=
  ∀(pins:List (Addr×Obj))(s:Shared)(σ:St)(H:Hp)(D:Ends),Inv X pins σ H s→t D σ H→wpAny (model X.prog X.w) X.A (exec st X.env) (SP X pins D) X.xe s
def PSs(X:Cx)(st:List Stmt)(t:TS):Prop :=
  ∀(pins:List (Addr×Obj))(s:Shared)(σ:St)(H:Hp)(D:Ends),Inv X pins σ H s→t D σ H→wpAny (model X.prog X.w) X.A (execs st X.env) (SP X pins D) X.xe s
theorem thn(h:wpAny M A t Q E s)(hQ:∀a s,Q a s→Q' a s):wpAny M A t Q' E s:=wpAny_mono h hQ fun _ _ x=>x
end L2
namespace L2
open PySem PySem.Spec PyProof.Rows
section
variable {X:Cx}
theorem bin{a b:Expr}{ta tb:TE}(ha:PE X a ta)(hb:PE X b tb){pins:List (Addr×Obj)}{s:Shared}{σ:St}{H:Hp}{R:V→V→Hp→Prop}(I:Inv X pins σ H s)(h:ta σ H fun x H1=>tb σ H1 fun y H2=>R x y H2){α:Type}{Q:α→Shared→Prop}{f:Value→Value→Sem α}(hf:∀v u s2 x y H2,Inv X pins σ H2 s2→RelV x v→RelV y u→R x y H2→wpAny (model X.prog X.w) X.A (f v u) Q X.xe s2) :
    wpAny (model X.prog X.w) X.A (eval a X.env) (fun v s₁=>wpAny (model X.prog X.w) X.A (eval b X.env) (fun u s₂=>wpAny (model X.prog X.w) X.A (f v u) Q X.xe s₂) X.xe s₁) X.xe s:=by
  refine thn (ha pins s σ H _ I h) ?_
  rintro v s1 ⟨x,H1,I1,r1,q1⟩
  refine thn (hb pins s1 σ H1 _ I1 q1) ?_
  rintro u s2 ⟨y,H2,I2,r2,q2⟩
  exact hf v u s2 x y H2 I2 r1 r2 q2
inductive ItVar(i:Nat)(σ:St)(H:Hp)(Q:VK):Prop
  | mk (v) (e0:σ[i]?=some (some v)) (e1:Q v H)
def tVar(i:Nat):TE:=fun σ H Q=>ItVar i σ H Q
def tC(v:V):TE:=fun _ H Q=>Q v H
theorem pe_var(hN:X.N[i]?=some x)(hv:Vis X.env.scope x)(hd:(x==("__debug__":Str))=false:=by decide)(hcd:(x==("__classdict__":Str))=false:=by decide):PE X (.Name x pos) (tVar i):=by
  intro pins s σ H Q I h
  obtain⟨v,e,h⟩:=h
  obtain⟨m,hn,hl⟩:=I.loc
  obtain⟨u,r,l⟩:=hl i x v hN e hv
  have fin:EP X pins σ Q u s:=⟨v,H,I,r,h⟩
  rcases l with⟨hk,hm⟩|⟨hk,c,hc,hcell⟩
  · exact wpAny_Name (wpAny_loadName_local I.ok.kind hk hn hm fin) hd
  · rcases hk with hk|hk
    · exact wpAny_Name (wpAny_loadName_cell I.ok.kind hk hc hcell fin) hd
    · exact wpAny_Name (wpAny_loadName_free I.ok.kind hk hc hcell fin hcd) hd
theorem pe_int:PE X (.Constant (.int i) j pos) (tC (.int i)):=fun _ _ _ H _ I h=>wpAny_Constant_int ⟨.int i,H,I.tok _,⟨_,rfl⟩,h⟩
theorem pe_bl:PE X (.Constant (.bool b) j pos) (tC (.bl b)):=fun _ _ _ H _ I h=>Constant_bool ⟨.bl b,H,I,rfl,h⟩
theorem pe_non:PE X (.Constant .none j pos) (tC .non):=fun _ _ _ H _ I h=>Constant_none ⟨.non,H,I,rfl,h⟩
theorem pe_str:PE X (.Constant (.str x) j pos) (tC (.str x)):=fun _ _ _ H _ I h=>Calls.Constant_str ⟨.str x,H,I.tok _,⟨_,rfl⟩,h⟩
def Gl(X:Cx)(x:Str):Prop:=X.env.kindOf x=some .globalImplicit
theorem ld_glob{E:Value→Shared→Prop}{pins:List (Addr×Obj)}{s:Shared}{σ:St}{H:Hp}{x:Str}{u:Value}{pos:Pos}{Q:Value→Shared→Prop}(I:Inv X pins σ H s)(hg:Gl X x)(hm:X.mg x=some u)(h:Q u s)(hd:(x==("__debug__":Str))=false:=by decide):wpAny (model X.prog X.w) X.A (eval (.Name x pos) X.env) Q E s :=
  Calls.Name_function_global I.ok.kind hg (Calls.loadGlobal_global (by rw[I.ok.glob];exact I.mod.glob.keeps I.bk) hm h) hd
theorem ld_blt(I:Inv X pins σ H s)(hg:Gl X x)(hm:X.mg x=none)(hv:bootBuiltins x=some u)(h:Q u s)(hn:x≠"__name__":=by decide)(hd:(x==("__debug__":Str))=false:=by decide):wpAny (model X.prog X.w) X.A (eval (.Name x pos) X.env) Q E s:=by
  obtain⟨mb,h1,h2⟩:=I.mod.blt
  exact Calls.Name_function_global I.ok.kind hg (Calls.loadGlobal_builtin (by rw[I.ok.glob];exact I.mod.glob.keeps I.bk) hm (by rw[I.ok.blt];exact h1.keeps I.bk) ((h2 x hn).trans hv) h) hd
theorem pe_glob{x:Str}{v:V}{u:Value}{pos:Pos}(hg:Gl X x)(hm:X.mg x=some u)(r:RelV v u)(hd:(x==("__debug__":Str))=false:=by decide):PE X (.Name x pos) (tC v) :=
  fun _ _ _ H _ I h=>ld_glob I hg hm ⟨v,H,I,r,h⟩ hd
theorem pe_bltn{x:Str}{v:V}{u:Value}{pos:Pos}(hg:Gl X x)(hm:X.mg x=none)(hv:bootBuiltins x=some u)(r:RelV v u)(hn:x≠"__name__":=by decide)(hd:(x==("__debug__":Str))=false:=by decide):PE X (.Name x pos) (tC v) :=
  fun _ _ _ H _ I h=>ld_blt I hg hm hv ⟨v,H,I,r,h⟩ hn hd
def t2I(ta tb:TE)(k:Int→Int→Hp→Prop):St→Hp→Prop:=fun σ H=>ta σ H fun x H1=>tb σ H1 fun y H2=>∃i j,x=.int i∧y=.int j∧k i j H2
variable {a b:Expr}{ta tb:TE}{pos:Pos}
def PC(X:Cx)(op:CmpOp)(a b:Expr)(t:TE):Prop :=
  ∀(pins:List (Addr×Obj))(s:Shared)(σ:St)(H:Hp)(Q:VK),Inv X pins σ H s→t σ H Q →
    wpAny (model X.prog X.w) X.A (eval a X.env) (fun v s₁=>wpAny (model X.prog X.w) X.A (eval b X.env) (fun u s₂=>wpAny (model X.prog X.w) X.A (compareOp op v u) (EP X pins σ Q) X.xe s₂) X.xe s₁) X.xe s
theorem nobehind(b:Expr)(h:op≠.In)(h2:op≠.NotIn):behindInMarks op b=false:=by
  have e1:(op==CmpOp.In)=false:=by cases op<;>first|rfl|exact absurd rfl h
  have e2:(op==CmpOp.NotIn)=false:=by cases op<;>first|rfl|exact absurd rfl h2
  cases b<;>simp[behindInMarks,e1,e2]
def tCmp(p:Int→Int→Bool)(ta tb:TE):TE:=fun σ H Q=>t2I ta tb (fun i j H2=>Q (.bl (p i j)) H2) σ H
abbrev tLt:TE→TE→TE:=tCmp fun i j=>decide (i<j)
abbrev tLe:TE→TE→TE:=tCmp fun i j=>decide (i≤j)
abbrev tGt:TE→TE→TE:=tCmp fun i j=>decide (j<i)
abbrev tGe:TE→TE→TE:=tCmp fun i j=>decide (j≤i)
abbrev tEqI:TE→TE→TE:=tCmp fun i j=>decide (i=j)
abbrev tNeI:TE→TE→TE:=tCmp fun i j=>!decide (i=j)
theorem pc_int{op:CmpOp}{p:Int→Int→Bool}(ha:PE X a ta)(hb:PE X b tb)(rule:∀(i j:Int) (t u:Tok) (Q:Value→Shared→Prop) (s:Shared),Q (.bool (p i j)) s→wpAny (model X.prog X.w) X.A (compareOp op (.int i t) (.int j u)) Q X.xe s):PC X op a b (tCmp p ta tb):=by
  intro pins s σ H Q I h
  refine bin ha hb I h fun v u s2 x y H2 I2 rx ry q=>?_
  obtain⟨i,j,rfl,rfl,q⟩:=q
  obtain⟨t,rfl⟩:=rx
  obtain⟨t',rfl⟩:=ry
  exact rule i j t t' _ s2 ⟨.bl _,H2,I2,rfl,q⟩
theorem pc_eqI(ha:PE X a ta)(hb:PE X b tb):PC X .Eq a b (tEqI ta tb):=pc_int ha hb fun _ _ _ _ _ _ h=>eq_int (by rw[Bool.beq_eq_decide_eq];exact h)
def tIsN(ta:TE):TE:=fun σ H Q=>ta σ H fun x H1=>Q (.bl (decide (x=.non))) H1
theorem RelV.none_iff(r:RelV x v):(v==Value.none)=decide (x=.non):=by grind [V,RelV]
theorem pc_isN(ha:PE X a ta):PC X .Is a (.Constant .none j pos') (tIsN ta):=by
  intro pins s σ H Q I h
  refine thn (ha pins s σ H _ I h) ?_
  rintro v s1 ⟨x,H1,I1,r1,q1⟩
  exact Constant_none (is_none_gen ⟨.bl _,H1,I1,by rw[r1.none_iff];rfl,q1⟩)
inductive ItB  (x:V) (H1:Hp) (Q:Bool→Hp→Prop):Prop
  | mk (c) (e0:x=.bl c) (e1:Q c H1)
def tB(t:TE):TT:=fun σ H Q=>t σ H fun x H1=>ItB  x H1 Q
theorem pe_cmp(h:PC X op a b t)(h1:behindInMarks op b=false:=by first|exact nobehind _ (by decide) (by decide)|rfl):PE X (.Compare a [op] [b] pos) t:=fun pins s σ H Q I hw=>wpAny_Compare1 (h pins s σ H Q I hw) h1
theorem pt_cmp(h:PC X op a b t)(h1:behindInMarks op b=false:=by first|exact nobehind _ (by decide) (by decide)|rfl):PT X (.Compare a [op] [b] pos) (tB t):=by
  intro pins s σ H Q I hw
  refine wpAny_isTrue_Compare1 (thn (h pins s σ H _ I hw) fun v s1 h1=>thn h1 fun u s2 h2=>thn h2 fun c s3 ⟨x,H1,I1,r1,q1⟩=>?_) h1
  obtain⟨d,rfl,q⟩:=q1
  cases r1
  exact wpAny_truthy_bool ⟨H1,I1,q⟩
theorem pt_val(h:PE X e t)(he:∀whole,isTrue e X.env whole=(do let v ←whole;standAt e.pos;holding [v] (truthy v)):=by intro _;rfl):PT X e (tB t):=by
  intro pins s σ H Q I hw
  refine isTrue_plain (thn (h pins s σ H _ I hw) fun v s1 ⟨x,H1,I1,r1,q1⟩=>?_) (he _)
  obtain⟨d,rfl,q⟩:=q1
  cases r1
  exact wpAny_truthy_bool ⟨H1,I1,q⟩
variable {tA tB':TT}{rest:List Expr}
def tAnd(t u:TT):TT:=fun σ H Q=>t σ H fun c H1=>if c=true then u σ H1 Q else Q false H1
def tOr(t u:TT):TT:=fun σ H Q=>t σ H fun c H1=>if c=true then Q true H1 else u σ H1 Q
def tNot(t:TT):TT:=fun σ H Q=>t σ H fun c H1=>Q (!c) H1
theorem pw_and1(ha:PT X a tA):PW X (.BoolOp .And [a] pos) tA:=by
  intro wh pins s σ H Q I h
  refine isTrue_and (thn (ha pins s σ H Q I h) fun c s1 e=>?_)
  cases c with
  | true=>exact isTrue_and_nil e
  | false=>exact e
theorem pw_or1(ha:PT X a tA):PW X (.BoolOp .Or [a] pos) tA:=by
  intro wh pins s σ H Q I h
  refine isTrue_or (thn (ha pins s σ H Q I h) fun c s1 e=>?_)
  cases c with
  | false=>exact isTrue_or_nil e
  | true=>exact e
theorem pw_and(ha:PT X a tA)(hb:PW X (.BoolOp .And (b::rest) pos) tB'):PW X (.BoolOp .And (a::b::rest) pos) (tAnd tA tB'):=by
  intro wh pins s σ H Q I h
  refine isTrue_and (thn (ha pins s σ H _ I h) fun c s1 ⟨H1,I1,q1⟩=>?_)
  cases c with
  | true=>exact hb wh pins s1 σ H1 Q I1 q1
  | false=>exact⟨H1,I1,q1⟩
theorem pw_or(ha:PT X a tA)(hb:PW X (.BoolOp .Or (b::rest) pos) tB'):PW X (.BoolOp .Or (a::b::rest) pos) (tOr tA tB'):=by
  intro wh pins s σ H Q I h
  refine isTrue_or (thn (ha pins s σ H _ I h) fun c s1 ⟨H1,I1,q1⟩=>?_)
  cases c with
  | true=>exact⟨H1,I1,q1⟩
  | false=>exact hb wh pins s1 σ H1 Q I1 q1
theorem pt_not(ha:PT X a tA):PT X (.UnaryOp .Not a pos) (tNot tA):=by
  intro pins s σ H Q I h
  exact isTrue_not (thn (ha pins s σ H (fun c H1=>Q (!c) H1) I h) fun c s1 ⟨H1,I1,q1⟩=>⟨H1,I1,q1⟩)
def tAndV(ta tb:TE):TE:=fun σ H Q=>ta σ H fun x H1=>∃c,x=.bl c∧if c=true then tb σ H1 Q else Q (.bl false) H1
theorem pe_one(h:PE X a t):PE X (.BoolOp op [a] pos) t:=fun pins s σ H Q I hw=>BoolOp_one (h pins s σ H Q I hw)
theorem pe_and(ha:PE X a ta)(hb:PE X (.BoolOp .And (b::rest) pos) tb):PE X (.BoolOp .And (a::b::rest) pos) (tAndV ta tb):=by
  intro pins s σ H Q I h
  refine BoolOp_and (thn (ha pins s σ H _ I h) fun v s1 ⟨x,H1,I1,r1,q1⟩=>?_)
  obtain⟨c,rfl,q1⟩:=q1
  cases r1
  refine wpAny_truthy_bool ?_
  cases c with
  | true=>exact hb pins s1 σ H1 Q I1 q1
  | false=>exact⟨.bl false,H1,I1,rfl,q1⟩
def tIf(t:TT)(ta tb:TE):TE:=fun σ H Q=>t σ H fun c H1=>if c=true then ta σ H1 Q else tb σ H1 Q
theorem pe_ifExp(hc:PT X c tA)(ha:PE X a ta)(hb:PE X b tb):PE X (.IfExp c a b pos) (tIf tA ta tb):=by
  intro pins s σ H Q I h
  refine wpAny_IfExp (thn (hc pins s σ H _ I h) fun d s1 ⟨H1,I1,q1⟩=>?_)
  cases d with
  | true=>exact ha pins s1 σ H1 Q I1 q1
  | false=>exact hb pins s1 σ H1 Q I1 q1
end
end L2
namespace L2
open PySem PySem.Spec PyProof.Rows
def SqL(K:PySem.W.Frag)(H:Hp)(a:Addr)(xs:List V):Prop :=
  Rd H a (.lst xs) ∨
    ∃(o:Obj)(its:Array Value)(n:Nat),K.lookup a=some o∧o.cls=.type "list"∧o.dict=none∧o.data=.seq its n∧its.size≤sizeLine∧Vals xs its.toList
def SqT(K:PySem.W.Frag)(H:Hp)(a:Addr)(xs:List V):Prop :=
  Rd H a (.tup xs) ∨
    ∃(o:Obj)(its:Array Value)(n:Nat),K.lookup a=some o∧o.cls=.type "tuple"∧o.data=.seq its n∧its.size≤sizeLine∧Vals xs its.toList
def absV:Value→Option V
  | .none=>some .non
  | .bool b=>some (.bl b)
  | .int i _=>some (.int i)
  | .str x _=>some (.str x)
  | .bytes b _=>some (.byt b)
  | .float b _=>some (.flt b)
  | .ref a=>some (.ref a)
  | .type n=>some (.ty n)
  | _=>none
theorem RelV.abs(r:RelV x u):absV u=some x:=by
  cases x with
  | non=>cases r;rfl
  | bl _=>cases r;rfl
  | int _=>obtain⟨t,rfl⟩:=r;rfl
  | str _=>obtain⟨t,rfl⟩:=r;rfl
  | byt _=>obtain⟨t,rfl⟩:=r;rfl
  | flt _=>obtain⟨t,rfl⟩:=r;rfl
  | ref _=>cases r;rfl
  | ty _=>cases r;rfl
theorem RelV.inj(r:RelV x u)(q:RelV y u):x=y:=ZO (r.abs.symm.trans q.abs)
theorem Vals.inj:∀{xs ys:List V} {us:List Value},Vals xs us→Vals ys us→xs=ys
  | _,_,_,.nil,.nil=>rfl
  | _,_,_,.cons r t,.cons r' t'=>by rw[r.inj r',Vals.inj t t']
section
variable {X:Cx}{pins:List (Addr×Obj)}{σ:St}{H:Hp}{s:Shared}{a:Addr}{xs ys:List V}
theorem SqL.of{K:PySem.W.Frag}(h:H a=some (.lst xs)):SqL K H a xs:=.inl (.inl h)
theorem SqT.of{K:PySem.W.Frag}(h:H a=some (.tup xs)):SqT K H a xs:=.inl (.inl h)
theorem Inv.list(I:Inv X pins σ H s)(h:SqL X.K H a xs):∃its:List Value,Vals xs its∧PlainL s.heap a its.toArray∧xs.length≤sizeLine:=by
  rcases h with h|⟨o,its,n,hk,hc,hd,hs,hz,r⟩
  · obtain⟨z,its,n,r,e⟩:=h.ok I.hok
    exact⟨its,r,⟨_,n,e,rfl,rfl,rfl⟩,z⟩
  · refine⟨its.toList,r,⟨o,n,I.kIn a o hk,hc,hd,by simpa using hs⟩,?_⟩
    have e:=r.length
    simp only[Array.length_toList] at e
    lia
theorem Inv.tuple(I:Inv X pins σ H s)(h:SqT X.K H a xs):∃its:List Value,Vals xs its∧IsTup s.heap a its.toArray∧xs.length≤sizeLine:=by
  rcases h with h|⟨o,its,n,hk,hc,hs,hz,r⟩
  · obtain⟨z,its,r,p⟩:=h.ok I.hok
    exact⟨its,r,p,z⟩
  · refine⟨its.toList,r,⟨o,I.kIn a o hk,hc,n,by simpa using hs⟩,?_⟩
    have e:=r.length
    simp only[Array.length_toList] at e
    lia
theorem Inv.list_inj(I:Inv X pins σ H s)(h:SqL X.K H a xs)(h':SqL X.K H a ys):xs=ys:=by
  obtain⟨its,r,⟨o,n,e,_,_,d⟩,_⟩:=I.list h
  obtain⟨its',r',⟨o',n',e',_,_,d'⟩,_⟩:=I.list h'
  rw[e] at e';cases e'
  rw[d] at d'
  injection d' with d1 _
  have:its=its':=by simpa using congrArg Array.toList d1
  subst this
  exact r.inj r'
theorem Inv.tuple_inj(I:Inv X pins σ H s)(h:SqT X.K H a xs)(h':SqT X.K H a ys):xs=ys:=by
  obtain⟨its,r,⟨o,e,_,n,d⟩,_⟩:=I.tuple h
  obtain⟨its',r',⟨o',e',_,n',d'⟩,_⟩:=I.tuple h'
  rw[e] at e';cases e'
  rw[d] at d'
  injection d' with d1 _
  have:its=its':=by simpa using congrArg Array.toList d1
  subst this
  exact r.inj r'
end
abbrev Cx.wish(X:Cx)(E:Value→Shared→Prop):Cx:={ X with xe:=E }
abbrev Cx.nox(X:Cx):Cx:=X.wish fun _ _=>False
theorem Cx.Ok.wish{X:Cx}(ok:X.Ok)(E:Value→Shared→Prop):(X.wish E).Ok :=
  ⟨ok.mod,ok.kind,ok.glob,ok.blt,ok.above,ok.inj,ok.has,ok.cab,ok.hd,ok.frames,ok.stk,ok.exf,ok.bs,ok.bsz,ok.noex,ok.exfs,ok.funs,ok.frf⟩
theorem Cx.Ok.unwish{X:Cx}{E:Value→Shared→Prop}(ok:(X.wish E).Ok):X.Ok :=
  ⟨ok.mod,ok.kind,ok.glob,ok.blt,ok.above,ok.inj,ok.has,ok.cab,ok.hd,ok.frames,ok.stk,ok.exf,ok.bs,ok.bsz,ok.noex,ok.exfs,ok.funs,ok.frf⟩
section
variable {X:Cx}{pins:List (Addr×Obj)}{σ:St}{H:Hp}{s:Shared}{E:Value→Shared→Prop}
theorem Inv.wish(I:Inv X pins σ H s)(E:Value→Shared→Prop):Inv (X.wish E) pins σ H s:=⟨I.ok.wish E,I.os,I.bare,I.base,I.loc,I.cell,I.free,I.freeC,I.pin,I.hok,I.len⟩
theorem Inv.unwish(I:Inv (X.wish E) pins σ H s):Inv X pins σ H s:=⟨I.ok.unwish,I.os,I.bare,I.base,I.loc,I.cell,I.free,I.freeC,I.pin,I.hok,I.len⟩
theorem SP.unwish(h:SP (X.wish E) pins D f s'):SP X pins D f s':=by
  cases f with
  | next=>obtain⟨σ',H',I,q⟩:=h;exact⟨σ',H',I.unwish,q⟩
  | brk=>obtain⟨σ',H',I,q⟩:=h;exact⟨σ',H',I.unwish,q⟩
  | cont=>obtain⟨σ',H',I,q⟩:=h;exact⟨σ',H',I.unwish,q⟩
  | ret u=>obtain⟨v,σ',H',I,r,q⟩:=h;exact⟨v,σ',H',I.unwish,r,q⟩
theorem PSs.nox{st:List Stmt}{t:TS}(h:PSs X.nox st t):PSs X st t:=fun pins s σ H D I hw =>
  wpAny_mono (h pins s σ H D (I.wish _) hw) (fun _ _ q=>q.unwish) fun _ _ z=>False.elim z
end
section
variable {X:Cx}{st:Stmt}{rest:List Stmt}{t u:TS}{e:Expr}{te:TE}{pos:Pos}
def tNext:TS:=fun D σ H=>D.nx σ H
def tSeq(t u:TS):TS:=fun D σ H=>t { D with nx:=u D } σ H
theorem pss_nil:PSs X [] tNext:=fun _ _ σ H _ I h=>wpAny_execs_nil ⟨σ,H,I,h⟩
theorem pss_cons(h1:PS X st t)(h2:PSs X rest u):PSs X (st::rest) (tSeq t u):=by
  intro pins s σ H D I h
  refine wpAny_execs_cons (thn (h1 pins s σ H { D with nx:=u D } I h) fun f s1 q=>?_)
  cases f with
  | next =>
    obtain⟨σ',H',I',q⟩:=q
    exact h2 pins s1 σ' H' D I' q
  | ret v=>exact q
  | brk=>exact q
  | cont=>exact q
theorem pss_one(h1:PS X st t):PSs X [st] t:=by
  intro pins s σ H D I h
  refine wpAny_execs_cons (thn (h1 pins s σ H D I h) fun f s1 q=>?_)
  cases f with
  | next=>exact wpAny_execs_nil q
  | ret v=>exact q
  | brk=>exact q
  | cont=>exact q
theorem Inv.quiet(I:Inv X pins σ H s):interactive X.env=false:=by simp[interactive,I.ok.kind]
def tDrop(te:TE):TS:=fun D σ H=>te σ H fun _ H1=>D.nx σ H1
theorem ps_expr(he:PE X e te)(hs:swapsWith e none pos.line X.env=pure false:=by rfl):PS X (.Expr e pos) (tDrop te):=by
  intro pins s σ H D I h
  exact wpAny_Expr_any (thn (he pins s σ H _ I h) fun v s1 ⟨x,H1,I1,r1,q1⟩=>⟨σ,H1,I1,q1⟩) I.quiet hs
def tRet(te:TE):TS:=fun D σ H=>te σ H D.rt
theorem ps_ret(he:PE X e te):PS X (.Return (some e) pos) (tRet te):=by
  intro pins s σ H D I h
  exact wpAny_Return_some (thn (he pins s σ H _ I h) fun v s1 ⟨x,H1,I1,r1,q1⟩=>⟨x,σ,H1,I1,r1,q1⟩)
def tIfS(c:TT)(t u:TS):TS:=fun D σ H=>c σ H fun b H1=>if b=true then t D σ H1 else u D σ H1
theorem ps_if(hc:PT X c tc)(ha:PSs X a t)(hb:PSs X b u):PS X (.If c a b pos) (tIfS tc t u):=by
  intro pins s σ H D I h
  refine wpAny_If (thn (hc pins s σ H _ I h) fun d s1 ⟨H1,I1,q1⟩=>?_)
  cases d with
  | true=>exact ha pins s1 σ H1 D I1 q1
  | false=>exact hb pins s1 σ H1 D I1 q1
def tNever:TS:=fun _ _ _=>False
theorem pss_never:PSs X sts tNever:=fun _ _ _ _ _ _ h=>h.elim
end
abbrev TG:=V→St→Hp→(St→Hp→Prop)→Prop
abbrev TGs:=List V→St→Hp→(St→Hp→Prop)→Prop
def PG(X:Cx)(target:Expr)(t:TG):Prop :=
  ∀(pins:List (Addr×Obj))(s:Shared)(σ:St)(H:Hp)(v:V)(u:Value)(Q:St→Hp→Prop),Inv X pins σ H s→RelV v u→t v σ H Q →
    wpAny (model X.prog X.w) X.A (assign target X.env u) (fun _ s'=>∃σ' H',Inv X pins σ' H' s'∧Q σ' H') X.xe s
def PGs(X:Cx)(ts:List Expr)(t:TGs):Prop :=
  ∀(pins:List (Addr×Obj))(s:Shared)(σ:St)(H:Hp)(vs:List V)(us:List Value)(Q:St→Hp→Prop),Inv X pins σ H s→Vals vs us→t vs σ H Q →
    wpAny (model X.prog X.w) X.A (assignInOrder ((assignEach ts X.env).map (·.2)) us) (fun _ s'=>∃σ' H',Inv X pins σ' H' s'∧Q σ' H') X.xe s
abbrev TSet:=V→V→V→Hp→(Hp→Prop)→Prop
abbrev TIp:=V→V→Hp→VK→Prop
section
variable {X:Cx}{pos:Pos}
def gName(i:Nat):TG:=fun v σ H Q=>Q (σ.set i (some v)) H
theorem pg_name{i:Nat}{x:Str}(hN:X.N.Nodup)(hi:X.N[i]?=some x)(hx:Loc X.env.scope x)(hf:X.fn x=true∨X.env.scope.names.lookup x=some .local:=by first|exact .inl rfl|exact .inr rfl|assumption):PG X (.Name x pos) (gName i):=by
  intro pins s σ H v u Q I r h
  exact wpAny_assign_Name (store_ok I hN hi hx r (fun s' I'=>⟨_,H,I',h⟩) hf)
def gNil:TGs:=fun vs σ H Q=>vs=[]∧Q σ H
inductive IgCons(t:TG)(u:TGs)(vs:List V)(σ:St)(H:Hp)(Q:St→Hp→Prop):Prop
  | mk (v r) (e0:vs=v::r) (e1:t v σ H fun σ' H'=>u r σ' H' Q)
def gCons(t:TG)(u:TGs):TGs:=fun vs σ H Q=>IgCons t u vs σ H Q
theorem pgs_nil:PGs X [] gNil:=by
  intro pins s σ H vs us Q I r h
  obtain⟨e,h⟩:=h
  subst e
  cases r
  exact assignInOrder_nil ⟨σ,H,I,h⟩
theorem pgs_cons(h1:PG X e t)(h2:PGs X es u)(hs:(assignEach (e::es) X.env).map (·.2)=assign e X.env::(assignEach es X.env).map (·.2):=by rfl):PGs X (e::es) (gCons t u):=by
  intro pins s σ H vs us Q I r h
  obtain⟨v,vr,e1,h⟩:=h
  subst e1
  cases r with
  | cons r rr =>
    rw[hs]
    refine assignInOrder_cons (thn (h1 pins s σ H _ _ _ I r h) fun _ s1 ⟨σ1,H1,I1,q1⟩=>?_)
    exact h2 pins s1 σ1 H1 _ _ Q I1 rr q1
inductive IgTup(K:PySem.W.Frag)(n:Nat)(t:TGs)(v:V)(σ:St)(H:Hp)(Q:St→Hp→Prop):Prop
  | mk (a xs) (e0:v=.ref a) (e1:SqT K H a xs) (e2:xs.length=n) (e3:t xs σ H Q)
def gTup(K:PySem.W.Frag)(n:Nat)(t:TGs):TG:=fun v σ H Q=>IgTup K n t v σ H Q
theorem pg_tup{es:List Expr}{k:Nat}{t:TGs}{n:Nat}(hc:X.calm=true)(h:PGs X es t)(hn:(assignEach es X.env).length=n:=by rfl)(hst:(assignEach es X.env).findIdx? (·.1)=none:=by rfl):PG X (.Tuple es k pos) (gTup X.K n t):=by
  intro pins s σ H v u Q I r hw
  obtain⟨a,xs,e1,hq,hl,hw⟩:=hw
  subst e1
  cases r
  obtain⟨its,rv,ht,hz⟩:=I.tuple hq
  refine assign_Tuple_tuple (I.ok.hd hc) ht (by simp[hn,←hl,rv.length]) hst fun h' hx=>?_
  have I1:Inv X pins σ H { s with heap:=h' }:=I.kept (t':=s.toks) fun b o e=>hx b o (Nat.ne_of_lt (Heap.lt_size e)) e
  exact h pins _ σ H xs _ Q I1 (by simpa using rv) hw
def tAsg(te:TE)(g:TG):TS:=fun D σ H=>te σ H fun x H1=>g x σ H1 D.nx
theorem ps_asg(he:PE X e te)(hg:PG X tg g)(hs:swapsWithSole [tg] e pos.line X.env=pure false:=by rfl)(hw:swappedStores [tg] e X.env=pure none:=by rfl)(h1:(assignEach [tg] X.env).map (·.2)=[assign tg X.env]:=by rfl):PS X (.Assign [tg] e pos) (tAsg te g):=by
  intro pins s σ H D I h
  refine wpAny_Assign_stores (thn (he pins s σ H _ I h) fun v s1 ⟨x,H1,I1,r1,q1⟩=>?_) hs hw
  rw[h1]
  exact thn (hg pins s1 σ H1 x v _ I1 r1 q1) fun _ s2 q=>q
theorem ps_set{i:Nat}{x:Str}{e:Expr}{te:TE}{pos':Pos}(hN:X.N.Nodup)(hi:X.N[i]?=some x)(hx:Loc X.env.scope x)(he:PE X e te)(hs:swapsWith e (some (.Name x pos')) pos.line X.env=pure false:=by rfl)(hf:X.fn x=true∨X.env.scope.names.lookup x=some .local:=by first|exact .inl rfl|exact .inr rfl|assumption) :
    PS X (.Assign [.Name x pos'] e pos) (tAsg te (gName i)):=by
  intro pins s σ H D I h
  refine wpAny_Assign_Name (thn (he pins s σ H _ I h) fun v s1 ⟨y,H1,I1,r1,q1⟩=>?_) hs
  exact store_ok I1 hN hi hx r1 (fun s2 I2=>⟨_,H1,I2,q1⟩) hf
end
section
variable {X:Cx}{pos:Pos}
end
structure It where
  go:Nat→Hp→Prop
  yld:Nat→Hp→V→Hp→Prop
  stop:Nat→Hp→Prop
def FpOk(X:Cx)(pins:List (Addr×Obj))(H:Hp)(b:Addr):Prop :=
  H b=none∧b≠X.env.locals∧b∉X.fs∧(b∈X.ex∨X.s₀.heap.objs.size≤b)∧(∀x c,X.env.cells.lookup x=some c→c≠b)∧∀p∈X.pn++pins,p.1≠b
theorem Inv.fpOk(I:Inv X pins σ H s)(hb:s.heap.objs.size≤b)(hn:H' b=none):FpOk X pins H' b:=by
  refine⟨hn,Nat.ne_of_gt (Nat.lt_of_lt_of_le I.lt hb),I.nofs hb,.inr (Nat.le_trans I.sz hb),fun x c e z=>?_,fun p hp z=>?_⟩
  · obtain⟨v,q⟩:=I.cell x c e
    exact absurd (Nat.lt_of_lt_of_le q.lt (by rw[z];exact hb)) (Nat.lt_irrefl _)
  · exact absurd (Nat.lt_of_lt_of_le (Heap.lt_size (I.pin p hp).1) (by rw[z];exact hb)) (Nat.lt_irrefl _)
structure Turn(P:Program)(w:World)(K:PySem.W.Frag)(tg:Expr)(J:It)(fp:List Addr)(it:Addr)(tn:Nat→Heap→Prop):Prop where
  mem:it∈fp
  obj:∀i h,tn i h→∀b∈fp,∃o,h.get? b=some o∧∀v,o.data≠.cell v
  keep:∀i h h',tn i h→(∀b∈fp,∀o,h.get? b=some o→h'.get? b=some o)→tn i h'
  item:∀(X:Cx),X.prog=P→X.w=w→X.K=K→X.calm=true→∀(i:Nat)(pins:List (Addr×Obj))(s:Shared)(σ:St)(H:Hp)(E:Value→Shared→Prop),Inv X pins σ H s→(∀b∈fp,FpOk X pins H b)→tn i s.heap→J.go i H →
    wpAny (model P w) X.A (pyNext (.ref it)) (fun r s1=>∃u,r=some u ∧
      wpAny (model P w) X.A (letOwnedTupleGo tg (.ref it) u) (fun _ s2=>∃x H',Inv X pins σ H' s2∧RelV x u∧J.yld i H x H'∧tn (i+1) s2.heap∧∀b∈fp,H' b=none) E s1) E s
  done:∀(X:Cx),X.prog=P→X.w=w→X.K=K→X.calm=true→∀(i:Nat)(pins:List (Addr×Obj))(s:Shared)(σ:St)(H:Hp)(E:Value→Shared→Prop),Inv X pins σ H s→(∀b∈fp,FpOk X pins H b)→tn i s.heap→J.stop i H →
    wpAny (model P w) X.A (pyNext (.ref it)) (fun r s1=>r=none∧Inv X pins σ H s1) E s
  self:∀(A:Around)(i:Nat)(s:Shared)(Q:Value→Shared→Prop)(E:Value→Shared→Prop),tn i s.heap→Q (.ref it) s→wpAny (model P w) A (pyIter (.ref it)) Q E s
abbrev TI:=St→Hp→(It→Hp→Prop)→Prop
inductive PIE(X:Cx)(pins:List (Addr×Obj))(σ:St)(tg:Expr)(R:It→Hp→Prop)(itv:Value)(s2:Shared):Prop
  | mk (it:Addr) (fp:List Addr) (tn:Nat→Heap→Prop) (J:It) (H':Hp) (_:itv=.ref it) (_:Inv X pins σ H' s2) (_:Turn X.prog X.w X.K tg J fp it tn) (_:tn 0 s2.heap) (_:(∀b∈fp,FpOk X pins H' b)) (_:R J H')
def PI(X:Cx)(tg iter:Expr)(wi:TI):Prop :=
  ∀(pins:List (Addr×Obj))(s:Shared)(σ:St)(H:Hp)(R:It→Hp→Prop),Inv X pins σ H s→wi σ H R →
    wpAny (model X.prog X.w) X.A (eval iter X.env) (fun v s1=>wpAny (model X.prog X.w) X.A (pyIter v) (PIE X pins σ tg R) X.xe s1) X.xe s
theorem go_of{M:Model}{A:Around}{E:Value→Shared→Prop}{s:Shared}{tg:Expr}{it:Addr}{u:Value}{o:Obj}{n:String}{vs:Array Value}{Q:Unit→Shared→Prop}(ho:s.heap.get? it=some o)(hc:o.cls=.type n)(hd:o.data=.fields vs)(hn:["enumerate","zip","dict_itemiterator","dict_reverseitemiterator","odict_iterator","itertools.zip_longest","itertools.pairwise"].contains n=false)(hQ:Q () s):wpAny M A (letOwnedTupleGo tg (.ref it) u) Q E s:=by
  unfold letOwnedTupleGo
  cases tg<;>first
    | exact wpAny_pure hQ
    | (cases u<;>first
        | exact wpAny_pure hQ
        | (refine wpAny_bind (wpAny_load ho ?_)
           rw[hc,hd]
           show wpAny M A (if(["enumerate","zip","dict_itemiterator","dict_reverseitemiterator","odict_iterator","itertools.zip_longest","itertools.pairwise"].contains n&&vs[0]?==some (rawInt _))=true then _ else _) Q E s
           rw[if_neg (by intro h;rw[hn,Bool.false_and] at h;cases h)]
           exact wpAny_pure hQ))
def Itl(K:PySem.W.Frag)(a:Addr):It :=
  ⟨fun i H=>∃xs x,SqL K H a xs∧xs[i]?=some x,fun i H x H'=>H'=H∧∀xs,SqL K H a xs→xs[i]?=some x,fun i H=>∃xs,SqL K H a xs∧xs.length≤i⟩
def Itt(K:PySem.W.Frag)(a:Addr):It :=
  ⟨fun i H=>∃xs x,SqT K H a xs∧xs[i]?=some x,fun i H x H'=>H'=H∧∀xs,SqT K H a xs→xs[i]?=some x,fun i H=>∃xs,SqT K H a xs∧xs.length≤i⟩
def Itr(lo:Int)(n:Nat):It:=⟨fun i _=>i<n,fun i H x H'=>H'=H∧x=.int (lo+i),fun i _=>n≤i⟩
theorem turn_list{P:Program}{w:World}{K:PySem.W.Frag}{tg:Expr}(a it:Addr):Turn P w K tg (Itl K a) [it] it (fun i h=>h.IsListIter it a i) where
  mem:=by simp
  obj:=fun i h st b hb=>by
    have e:b=it:=by simpa using hb
    subst e
    obtain⟨o,e,c,d⟩:=st
    exact⟨o,e,fun v z=>by rw[d] at z;cases z⟩
  keep:=fun i h h' st k=>st.at fun o e=>k it (by simp) o e
  item:=by
    intro X hP hw hK hc i pins s σ H E I hf st hg
    subst hP hw hK
    obtain⟨xs,x,hq,hx⟩:=hg
    obtain⟨its,rv,p,hz⟩:=I.list hq
    obtain⟨u,hu,ru⟩:=rv.get hx
    obtain⟨f0,f1,f2,f3,f4,f5⟩:=hf it (by simp)
    refine wpAny_pyNext_list_item st p.isList (x:=u) (by simpa using hu) fun h' st' sb=>?_
    have I1:Inv X pins σ H { s with heap:=h' }:=I.turned (t':=s.toks) (fun b o hb e=>(sb.2 b hb).trans e) f0 f1 f3 f4 f5
    obtain⟨o,e,c,d⟩:=id st'
    exact⟨u,rfl,go_of (s:={ s with heap:=h' }) e c d (by decide) ⟨x,H,I1,ru,⟨rfl,fun ys hy=>by rw[I.list_inj hy hq];exact hx⟩,st',fun b hb=>(hf b hb).1⟩⟩
  done:=by
    intro X hP hw hK hc i pins s σ H E I hf st hg
    subst hP hw hK
    obtain⟨xs,hq,hx⟩:=hg
    obtain⟨its,rv,p,hz⟩:=I.list hq
    obtain⟨f0,f1,f2,f3,f4,f5⟩:=hf it (by simp)
    have hl:=rv.length
    exact wpAny_pyNext_list_end (I.ok.hd hc) st p.isList (by simp;lia) fun h' eb=>⟨rfl,I.turned (t':=s.toks) (fun b o hb e=>eb b o hb e) f0 f1 f3 f4 f5⟩
  self:=fun _ _ _ _ _ st h=>wpAny_pyIter_listiter st h
theorem turn_tuple{P:Program}{w:World}{K:PySem.W.Frag}{tg:Expr}(a it:Addr):Turn P w K tg (Itt K a) [it] it (fun i h=>h.IsTupleIter it a i) where
  mem:=by simp
  obj:=fun i h st b hb=>by
    have e:b=it:=by simpa using hb
    subst e
    obtain⟨o,e,c,d⟩:=st
    exact⟨o,e,fun v z=>by rw[d] at z;cases z⟩
  keep:=fun i h h' st k=>st.at fun o e=>k it (by simp) o e
  item:=by
    intro X hP hw hK hc i pins s σ H E I hf st hg
    subst hP hw hK
    obtain⟨xs,x,hq,hx⟩:=hg
    obtain⟨its,rv,p,hz⟩:=I.tuple hq
    obtain⟨u,hu,ru⟩:=rv.get hx
    obtain⟨f0,f1,f2,f3,f4,f5⟩:=hf it (by simp)
    refine wpAny_pyNext_tuple_item st (show s.heap.IsTuple a its.toArray from p) (x:=u) (by simpa using hu) fun h' st' sb=>?_
    have I1:Inv X pins σ H { s with heap:=h' }:=I.turned (t':=s.toks) (fun b o hb e=>(sb.2 b hb).trans e) f0 f1 f3 f4 f5
    obtain⟨o,e,c,d⟩:=id st'
    exact⟨u,rfl,go_of (s:={ s with heap:=h' }) e c d (by decide) ⟨x,H,I1,ru,⟨rfl,fun ys hy=>by rw[I.tuple_inj hy hq];exact hx⟩,st',fun b hb=>(hf b hb).1⟩⟩
  done:=by
    intro X hP hw hK hc i pins s σ H E I hf st hg
    subst hP hw hK
    obtain⟨xs,hq,hx⟩:=hg
    obtain⟨its,rv,p,hz⟩:=I.tuple hq
    obtain⟨f0,f1,f2,f3,f4,f5⟩:=hf it (by simp)
    have hl:=rv.length
    exact wpAny_pyNext_tuple_end (I.ok.hd hc) st (show s.heap.IsTuple a its.toArray from p) (by simp;lia) fun h' eb=>⟨rfl,I.turned (t':=s.toks) (fun b o hb e=>eb b o hb e) f0 f1 f3 f4 f5⟩
  self:=fun _ _ _ _ _ st h=>wpAny_pyIter_tupleiter st h
theorem turn_range{P:Program}{w:World}{K:PySem.W.Frag}{tg:Expr}(it:Addr)(lo:Int)(n:Nat):Turn P w K tg (Itr lo n) [it] it (fun i h=>IsRangeIter h it (lo+(i:Nat)*1) ((n:Int)-(i:Nat)) 1) where
  mem:=by simp
  obj:=fun i h st b hb=>by
    have e:b=it:=by simpa using hb
    subst e
    exact⟨_,st,fun v z=>by
      have z':Data.fields _=Data.cell v:=z
      cases z'⟩
  keep:=fun i h h' st k=>k it (by simp) _ st
  item:=by
    intro X hP hw hK hc i pins s σ H E I hf st hg
    subst hP hw hK
    obtain⟨f0,f1,f2,f3,f4,f5⟩:=hf it (by simp)
    have W:=Walks.range (prog:=X.prog) (w:=X.w) (I.ok.hd hc) it lo 1 n
    refine W.item i s _ _ hg st fun v h' tk hv st' kk=>?_
    obtain⟨t,rfl⟩:=hv
    have I1:Inv X pins σ H { s with heap:=h',toks:=tk }:=I.turned (fun b o hb e=>kk b o (by simpa using hb) e) f0 f1 f3 f4 f5
    refine⟨_,rfl,go_of (s:={ s with heap:=h',toks:=tk }) (n:="range_iterator") st' rfl rfl (by decide) ⟨.int (lo+i),H,I1,⟨t,?_⟩,⟨rfl,rfl⟩,st',fun b hb=>(hf b hb).1⟩⟩
    rw[Int.mul_one]
  done:=by
    intro X hP hw hK hc i pins s σ H E I hf st hg
    subst hP hw hK
    obtain⟨f0,f1,f2,f3,f4,f5⟩:=hf it (by simp)
    exact wpAny_pyNext_range_end (I.ok.hd hc) st (by have:n≤i:=hg;lia) fun h' eb=>⟨rfl,I.turned (t':=s.toks) (fun b o hb e=>eb b o hb e) f0 f1 f3 f4 f5⟩
  self:=fun _ _ _ _ _ st h=>wpAny_pyIter_rangeiter st h
end L2
namespace L2
open PySem PySem.Spec PyProof.Rows
section
variable {X:Cx}{tg:Expr}
def iList(K:PySem.W.Frag)(tl:TE):TI:=fun σ H R=>tl σ H fun x H1=>∃a,x=.ref a∧(∃xs,SqL K H1 a xs)∧R (Itl K a) H1
def iTup(K:PySem.W.Frag)(tl:TE):TI:=fun σ H R=>tl σ H fun x H1=>∃a,x=.ref a∧(∃xs,SqT K H1 a xs)∧R (Itt K a) H1
theorem pi_list{l:Expr}{tl:TE}(hl:PE X l tl):PI X tg l (iList X.K tl):=by
  intro pins s σ H R I h
  refine thn (hl pins s σ H _ I h) ?_
  rintro v s1 ⟨x,H1,I1,r1,q1⟩
  obtain⟨a,e,⟨xs,hq⟩,q⟩:=q1
  subst e
  cases r1
  obtain⟨its,rv,p,hz⟩:=I1.list hq
  refine wpAny_pyIter_list p.isList ?_
  refine⟨s1.heap.objs.size,[s1.heap.objs.size],_,_,H1,rfl,I1.kept (t':=s1.toks) fun b o e=>Heap.get?_push_of_some _ e,turn_list a _,⟨_,Heap.get?_push_size _ rfl,rfl,rfl⟩,fun b hb=>?_,q⟩
  have e:b=s1.heap.objs.size:=by simpa using hb
  subst e
  exact I1.fpOk (ZG _) (I1.hok.fresh (ZG _))
theorem pi_tup{l:Expr}{tl:TE}(hl:PE X l tl):PI X tg l (iTup X.K tl):=by
  intro pins s σ H R I h
  refine thn (hl pins s σ H _ I h) ?_
  rintro v s1 ⟨x,H1,I1,r1,q1⟩
  obtain⟨a,e,⟨xs,hq⟩,q⟩:=q1
  subst e
  cases r1
  obtain⟨its,rv,p,hz⟩:=I1.tuple hq
  refine wpAny_pyIter_tuple (show s1.heap.IsTuple a its.toArray from p) ?_
  refine⟨s1.heap.objs.size,[s1.heap.objs.size],_,_,H1,rfl,I1.kept (t':=s1.toks) fun b o e=>Heap.get?_push_of_some _ e,turn_tuple a _,⟨_,Heap.get?_push_size _ rfl,rfl,rfl⟩,fun b hb=>?_,q⟩
  have e:b=s1.heap.objs.size:=by simpa using hb
  subst e
  exact I1.fpOk (ZG _) (I1.hok.fresh (ZG _))
theorem range_it{pins:List (Addr×Obj)}{σ:St}{H:Hp}{s:Shared}{R:It→Hp→Prop}{E:Value→Shared→Prop}{lo hi:Int}{t u v:Tok}{tk:Nat}(I:Inv X pins σ H s)(h1:-(2 ^ 62)≤lo)(h2:lo<2 ^ 62)(h3:-(2 ^ 62)≤hi)(h4:hi<2 ^ 62)(q:R (Itr lo (hi-lo).toNat) H):wpAny (model X.prog X.w) X.A (pyIter (.ref s.heap.objs.size)) (PIE X pins σ tg R) E { s with heap:=s.heap.push { cls:=.type "range",data:=.fields #[.int lo t,.int hi u,.int 1 v] },toks:=tk }:=by
  refine wpAny_pyIter_range (IsRange.new ..) (small_one h1 h2 h3 h4) ?_
  have I1:Inv X pins σ H { s with heap:=s.heap.push { cls:=.type "range",data:=.fields #[.int lo t,.int hi u,.int 1 v] },toks:=tk }:=I.kept fun b o e=>Heap.get?_push_of_some _ e
  refine⟨(s.heap.push { cls:=.type "range",data:=.fields #[.int lo t,.int hi u,.int 1 v] }).objs.size,[(s.heap.push { cls:=.type "range",data:=.fields #[.int lo t,.int hi u,.int 1 v] }).objs.size],_,_,H,rfl,
    I1.kept (t':=tk) fun b o e=>Heap.get?_push_of_some _ e,turn_range _ lo (hi-lo).toNat,?_,fun b hb=>?_,q⟩
  · have e1:lo+((0:Nat):Int)*1=lo:=by simp
    have e2:(((hi-lo).toNat:Nat):Int)-((0:Nat):Int)=Builtin.Range.rangeSize lo hi 1:=by rw[rangeSize_one];split<;>lia
    show IsRangeIter _ _ (lo+((0:Nat):Int)*1) ((((hi-lo).toNat:Nat):Int)-((0:Nat):Int)) 1
    rw[e1,e2]
    exact Heap.get?_push_size _ rfl
  · have e:b=(s.heap.push { cls:=.type "range",data:=.fields #[.int lo t,.int hi u,.int 1 v] }).objs.size:=by simpa using hb
    subst e
    exact I1.fpOk (ZG _) (I1.hok.fresh (ZG _))
def iRng1(ta:TA):TI:=fun σ H R=>ta σ H fun vs H1=>∃j:Int,vs=[.int j]∧-(2 ^ 62)≤j∧j<2 ^ 62∧R (Itr 0 j.toNat) H1
def iRng2(ta:TA):TI:=fun σ H R=>ta σ H fun vs H1=>∃i j:Int,vs=[.int i,.int j]∧(-(2 ^ 62)≤i∧i<2 ^ 62∧-(2 ^ 62)≤j∧j<2 ^ 62)∧R (Itr i (j-i).toNat) H1
theorem pi_range1{a:Expr}{ta:TA}{p pos:Pos}(hg:Gl X "range")(hm:X.mg "range"=none)(ha:PA X [a] ta)(hs:starEach [a] X.env=[(false,eval a X.env)]:=by rfl):PI X tg (.Call (.Name "range" p) [a] [] pos) (iRng1 ta):=by
  intro pins s σ H R I h
  refine Call_ (ld_blt I hg hm boot_range (PyProof.Rows.callWith_type1 (thn (ha pos pins s σ H _ I h) fun us s1 ⟨vs,H1,I1,r1,q1⟩=>?_) hs rfl))
  obtain⟨j,e,q1,q2,q⟩:=q1
  subst e
  cases r1 with
  | cons r rr =>
    cases rr
    obtain⟨t,rfl⟩:=r
    exact call_range_1 (range_it I1 (by lia) (by lia) q1 q2 (by simpa using q))
theorem pi_range2(hg:Gl X "range")(hm:X.mg "range"=none)(ha:PA X [a,b] ta)(hs:starEach [a,b] X.env=[(false,eval a X.env),(false,eval b X.env)]:=by rfl)(hs2:starEach [b] X.env=[(false,eval b X.env)]:=by rfl) :
    PI X tg (.Call (.Name "range" p) [a,b] [] pos) (iRng2 ta):=by
  intro pins s σ H R I h
  refine Call_ (ld_blt I hg hm boot_range (PyProof.Rows.callWith_type1 (thn (ha pos pins s σ H _ I h) fun us s1 ⟨vs,H1,I1,r1,q1⟩=>?_) (by rw[hs,hs2]) (by rw[hs2];rfl)))
  obtain⟨i,j,e,⟨q1,q2,q3,q4⟩,q⟩:=q1
  subst e
  cases r1 with
  | cons r rr =>
    cases rr with
    | cons r' rr =>
      cases rr
      obtain⟨t,rfl⟩:=r
      obtain⟨t',rfl⟩:=r'
      exact call_range_2 (range_it I1 q1 q2 q3 q4 q)
def tFor(wi:TI)(g:TG)(tb:TS):TS:=fun D σ H=>wi σ H fun J H1=>∃W:Nat→Nat→St→Hp→Prop,(∃m,W 0 m σ H1)∧∀i m σ H,W i m σ H →
  (J.stop i H∧D.nx σ H)∨(J.go i H∧∃N:St→Hp→Prop,(∀σ' H',N σ' H'→∃m',m'<m∧W (i+1) m' σ' H')∧∀x H',J.yld i H x H'→g x σ H' fun σ2 H2=>tb { D with nx:=N,ct:=N,bk:=D.nx } σ2 H2)
def pinsAt(fp:List Addr)(h:Heap):List (Addr×Obj):=fp.filterMap fun b=>(h.get? b).map fun o=>(b,o)
theorem mem_pinsAt(hb:b∈fp)(e:h.get? b=some o):(b,o)∈pinsAt fp h:=List.mem_filterMap.mpr ⟨b,hb,by rw[e];rfl⟩
theorem of_pinsAt(hp:p∈pinsAt fp h):p.1∈fp∧h.get? p.1=some p.2:=by
  obtain⟨b,hb,e⟩:=List.mem_filterMap.mp hp
  cases q:h.get? b with
  | none=>rw[q] at e;cases e
  | some o =>
    rw[q] at e
    have e':(b,o)=p:=ZO e
    subst e'
    exact⟨hb,q⟩
theorem Inv.pinned(I:Inv X pins σ H s)(hf:∀b∈fp,FpOk X pins H b)(ho:∀b∈fp,∃o,s.heap.get? b=some o∧∀v,o.data≠.cell v):Inv X (pins++pinsAt fp s.heap) σ H s :=
  I.pins_of fun p hp=>(ZI hp).elim (fun z=>I.pin p (ZC _ z)) fun z=>by
    obtain⟨hb,e⟩:=of_pinsAt z
    obtain⟨f0,f1,f2,_⟩:=hf p.1 hb
    obtain⟨o,e',d⟩:=ho p.1 hb
    rw[e] at e';cases e'
    exact⟨e,f0,f1,f2,d⟩
theorem Inv.unpinned(I:Inv X (pins++pl) σ H s):Inv X pins σ H s:=I.pins_of fun p hp=>I.pin p (ZC _ (ZB _ hp))
theorem ps_for(hp:PassesOwn (model X.prog X.w) X.A X.env X.xe)(hc:X.calm=true)(hi:PI X tg iter wi)(hg:PG X tg g)(hb:PSs X body tb)(hs:∀x,foldedSetIterable iter X.env x=pure x:=by intro _;rfl):PS X (.For tg iter body [] pos) (tFor wi g tb):=by
  intro pins s σ H D I h
  refine wpAny_For (thn (hi pins s σ H _ I h) fun v s1 h1=>thn h1 fun itv s2 h2=>?_) hs
  obtain⟨it,fp,tn,J,H2,e,I2,T,st2,f2,W,⟨m0,w0⟩,turn⟩:=h2
  subst e
  have stat:∀{H':Hp},(∀b∈fp,H' b=none)→∀b∈fp,FpOk X pins H' b:=fun hn b hb=>⟨hn b hb,(f2 b hb).2⟩
  refine codeAny_forLoop_any (fun n s'=>∃i σ' H',Inv X pins σ' H' s'∧tn i s'.heap∧(∀b∈fp,H' b=none)∧W i n σ' H') ?_ m0 ⟨0,σ,H2,I2,st2,fun b hb=>(f2 b hb).1,w0⟩
  rintro n s3 ⟨i,σ3,H3,I3,st3,fr3,w3⟩
  rcases turn i n σ3 H3 w3 with⟨stop,qn⟩|⟨go,N,hN,step⟩
  · refine wpAny_passesOwn hp (thn (T.done X rfl rfl rfl hc i pins s3 σ3 H3 X.xe I3 (stat fr3) st3 stop) fun r s4 ⟨hr,I4⟩=>?_)
    subst hr
    exact wpAny_execs_nil ⟨σ3,H3,I4,qn⟩
  · refine wpAny_passesOwn hp (thn (T.item X rfl rfl rfl hc i pins s3 σ3 H3 X.xe I3 (stat fr3) st3 go) fun r s4 ⟨u,hr,h4⟩=>?_)
    subst hr
    refine wpAny_passesOwn hp (thn h4 fun _ s5 ⟨x,H5,I5,r5,y5,st5,fr5⟩=>?_)
    have I5':=I5.pinned (stat fr5) (T.obj _ _ st5)
    refine wpAny_passesOwn hp (thn (hg _ s5 σ3 H5 x u _ I5' r5 (step x H5 y5)) fun _ s6 ⟨σ6,H6,I6,q6⟩=>?_)
    refine wpAny_passesOwn hp (thn (hb _ s6 σ6 H6 _ I6 q6) fun f s7 q7=>?_)
    have again:∀{σ7:St} {H7:Hp},Inv X (pins++pinsAt fp s5.heap) σ7 H7 s7→N σ7 H7→∃m,m<n∧∃i σ' H',Inv X pins σ' H' s7∧tn i s7.heap∧(∀b∈fp,H' b=none)∧W i m σ' H':=fun{σ7 H7} I7 n7=>by
      obtain⟨m',hm,w7⟩:=hN σ7 H7 n7
      refine⟨m',hm,i+1,σ7,H7,I7.unpinned,T.keep _ _ _ st5 fun b hb o e=>(I7.pin (b,o) (ZC _ (ZC _ (mem_pinsAt hb e)))).1,fun b hb=>?_,w7⟩
      obtain⟨o,e,d⟩:=T.obj _ _ st5 b hb
      exact(I7.pin (b,o) (ZC _ (ZC _ (mem_pinsAt hb e)))).2.1
    cases f with
    | next=>obtain⟨σ7,H7,I7,n7⟩:=q7;exact again I7 n7
    | cont=>obtain⟨σ7,H7,I7,n7⟩:=q7;exact again I7 n7
    | brk=>obtain⟨σ7,H7,I7,q7⟩:=q7;exact⟨σ7,H7,I7.unpinned,q7⟩
    | ret v=>obtain⟨x7,σ7,H7,I7,r7,q7⟩:=q7;exact⟨x7,σ7,H7,I7.unpinned,r7,q7⟩
end
theorem for_list{K:PySem.W.Frag}{a:Addr}{xs:List V}{g:TG}{tb:TS}{D:Ends}{σ:St}{H:Hp}(Pv:Nat→St→Hp→Prop)(h0:Pv 0 σ H)(hl:∀i σ H,i≤xs.length→Pv i σ H→SqL K H a xs)(hs:∀i x σ H,xs[i]?=some x→Pv i σ H→g x σ H fun σ2 H2=>tb { D with nx:=Pv (i+1),ct:=Pv (i+1),bk:=D.nx } σ2 H2)(hd:∀σ H,Pv xs.length σ H→D.nx σ H) :
    ∃W:Nat→Nat→St→Hp→Prop,(∃m,W 0 m σ H)∧∀i m σ H,W i m σ H →
      ((Itl K a).stop i H∧D.nx σ H)∨((Itl K a).go i H∧∃N:St→Hp→Prop,(∀σ' H',N σ' H'→∃m',m'<m∧W (i+1) m' σ' H')∧∀x H',(Itl K a).yld i H x H'→g x σ H' fun σ2 H2=>tb { D with nx:=N,ct:=N,bk:=D.nx } σ2 H2):=by
  refine⟨fun i m σ H=>m=xs.length-i∧i≤xs.length∧Pv i σ H,⟨xs.length,by simp,Nat.zero_le _,h0⟩,?_⟩
  rintro i m σ H ⟨rfl,hi,p⟩
  have q:=hl i σ H hi p
  by_cases hlt:i<xs.length
  · refine .inr ⟨⟨xs,xs[i],q,by simp[hlt]⟩,Pv (i+1),fun σ' H' p'=>⟨xs.length-(i+1),by lia,rfl,hlt,p'⟩,fun x H' y=>?_⟩
    obtain⟨e,y⟩:=y
    subst e
    exact hs i x σ _ (y xs q) p
  · have e:i=xs.length:=by lia
    subst e
    exact .inl ⟨⟨xs,q,ZG _⟩,hd σ H p⟩
theorem for_tup{K:PySem.W.Frag}{a:Addr}{xs:List V}{g:TG}{tb:TS}{D:Ends}{σ:St}{H:Hp}(Pv:Nat→St→Hp→Prop)(h0:Pv 0 σ H)(hl:∀i σ H,i≤xs.length→Pv i σ H→SqT K H a xs)(hs:∀i x σ H,xs[i]?=some x→Pv i σ H→g x σ H fun σ2 H2=>tb { D with nx:=Pv (i+1),ct:=Pv (i+1),bk:=D.nx } σ2 H2)(hd:∀σ H,Pv xs.length σ H→D.nx σ H) :
    ∃W:Nat→Nat→St→Hp→Prop,(∃m,W 0 m σ H)∧∀i m σ H,W i m σ H →
      ((Itt K a).stop i H∧D.nx σ H)∨((Itt K a).go i H∧∃N:St→Hp→Prop,(∀σ' H',N σ' H'→∃m',m'<m∧W (i+1) m' σ' H')∧∀x H',(Itt K a).yld i H x H'→g x σ H' fun σ2 H2=>tb { D with nx:=N,ct:=N,bk:=D.nx } σ2 H2):=by
  refine⟨fun i m σ H=>m=xs.length-i∧i≤xs.length∧Pv i σ H,⟨xs.length,by simp,Nat.zero_le _,h0⟩,?_⟩
  rintro i m σ H ⟨rfl,hi,p⟩
  have q:=hl i σ H hi p
  by_cases hlt:i<xs.length
  · refine .inr ⟨⟨xs,xs[i],q,by simp[hlt]⟩,Pv (i+1),fun σ' H' p'=>⟨xs.length-(i+1),by lia,rfl,hlt,p'⟩,fun x H' y=>?_⟩
    obtain⟨e,y⟩:=y
    subst e
    exact hs i x σ _ (y xs q) p
  · have e:i=xs.length:=by lia
    subst e
    exact .inl ⟨⟨xs,q,ZG _⟩,hd σ H p⟩
theorem for_range{lo:Int}{n:Nat}{g:TG}{tb:TS}{D:Ends}{σ:St}{H:Hp}(Pv:Nat→St→Hp→Prop)(h0:Pv 0 σ H)(hs:∀i σ H,i<n→Pv i σ H→g (.int (lo+i)) σ H fun σ2 H2=>tb { D with nx:=Pv (i+1),ct:=Pv (i+1),bk:=D.nx } σ2 H2)(hd:∀σ H,Pv n σ H→D.nx σ H) :
    ∃W:Nat→Nat→St→Hp→Prop,(∃m,W 0 m σ H)∧∀i m σ H,W i m σ H →
      ((Itr lo n).stop i H∧D.nx σ H)∨((Itr lo n).go i H∧∃N:St→Hp→Prop,(∀σ' H',N σ' H'→∃m',m'<m∧W (i+1) m' σ' H')∧∀x H',(Itr lo n).yld i H x H'→g x σ H' fun σ2 H2=>tb { D with nx:=N,ct:=N,bk:=D.nx } σ2 H2):=by
  refine⟨fun i m σ H=>m=n-i∧i≤n∧Pv i σ H,⟨n,by simp,Nat.zero_le _,h0⟩,?_⟩
  rintro i m σ H ⟨rfl,hi,p⟩
  by_cases hlt:i<n
  · refine .inr ⟨hlt,Pv (i+1),fun σ' H' p'=>⟨n-(i+1),by lia,rfl,hlt,p'⟩,fun x H' y=>?_⟩
    obtain⟨e,y⟩:=y
    subst e y
    exact hs i σ _ hlt p
  · have e:i=n:=by lia
    subst e
    exact .inl ⟨ZG _,hd σ H p⟩
end L2
namespace L2
open PySem PySem.Spec PyProof.Rows
abbrev R2:=V→V→Hp→VK→Prop
def OpR(X:Cx)(f:Value→Value→Sem Value)(r:R2):Prop :=
  ∀(pins:List (Addr×Obj))(s:Shared)(σ:St)(H:Hp)(x y:V)(v u:Value)(Q:VK),Inv X pins σ H s→RelV x v→RelV y u→r x y H Q →
    wpAny (model X.prog X.w) X.A (f v u) (EP X pins σ Q) X.xe s
def UnR(X:Cx)(f:Value→Sem Value)(r:V→Hp→VK→Prop):Prop :=
  ∀(pins:List (Addr×Obj))(s:Shared)(σ:St)(H:Hp)(x:V)(v:Value)(Q:VK),Inv X pins σ H s→RelV x v→r x H Q →
    wpAny (model X.prog X.w) X.A (f v) (EP X pins σ Q) X.xe s
def CallR(X:Cx)(f:Value)(r:List V→Hp→VK→Prop):Prop :=
  ∀(pins:List (Addr×Obj))(s:Shared)(σ:St)(H:Hp)(xs:List V)(us:List Value)(Q:VK),Inv X pins σ H s→Vals xs us→r xs H Q →
    wpAny (model X.prog X.w) X.A (call f us) (EP X pins σ Q) X.xe s
def TruR(X:Cx)(r:V→Hp→(Bool→Hp→Prop)→Prop):Prop :=
  ∀(pins:List (Addr×Obj))(s:Shared)(σ:St)(H:Hp)(x:V)(v:Value)(Q:Bool→Hp→Prop),Inv X pins σ H s→RelV x v→r x H Q →
    wpAny (model X.prog X.w) X.A (truthy v) (TP X pins σ Q) X.xe s
def tOp(r:R2)(ta tb:TE):TE:=fun σ H Q=>ta σ H fun x H1=>tb σ H1 fun y H2=>r x y H2 Q
def tUn(r:V→Hp→VK→Prop)(ta:TE):TE:=fun σ H Q=>ta σ H fun x H1=>r x H1 Q
inductive IrI(C:Int→Int→Prop)(g:Int→Int→V)(x:V)(y:V)(H:Hp)(Q:VK):Prop
  | mk (i j) (e0:x=.int i) (e1:y=.int j) (e2:C i j) (e3:Q (g i j) H)
def rI(C:Int→Int→Prop)(g:Int→Int→V):R2:=fun x y H Q=>IrI C g x y H Q
inductive IrI0(g:Int→Int→V)(x:V)(y:V)(H:Hp)(Q:VK):Prop
  | mk (i j) (e0:x=.int i) (e1:y=.int j) (e2:Q (g i j) H)
def rI0(g:Int→Int→V):R2:=fun x y H Q=>IrI0 g x y H Q
inductive IrU(g:Int→V)(x:V)(H:Hp)(Q:VK):Prop
  | mk (i) (e0:x=.int i) (e1:Q (g i) H)
def rU(g:Int→V):V→Hp→VK→Prop:=fun x H Q=>IrU g x H Q
section
variable {X:Cx}{a b c:Expr}{ta tb tc:TE}{pos:Pos}
theorem binT(ha:PE X a ta)(hb:PE X b tb){pins:List (Addr×Obj)}{s:Shared}{σ:St}{H:Hp}{R:V→V→Hp→Prop}(I:Inv X pins σ H s)(h:ta σ H fun x H1=>tb σ H1 fun y H2=>R x y H2){Q:Value→Shared→Prop}{f:Value→Value→Sem Value}(hf:∀v u s2 x y H2,Inv X pins σ H2 s2→RelV x v→RelV y u→R x y H2→wpAny (model X.prog X.w) X.A (f v u) Q X.xe s2) :
    wpAny (model X.prog X.w) X.A (eval a X.env) (fun v s₁=>wpAny (model X.prog X.w) X.A (eval b X.env) (fun u s₂=>wpAny (model X.prog X.w) X.A (f v u) Q X.xe s₂) X.xe s₁) X.xe s:=by
  refine thn (ha pins s σ H _ I h) ?_
  rintro v s1 ⟨x,H1,I1,r1,q1⟩
  refine thn (hb pins s1 σ H1 _ I1 q1) ?_
  rintro u s2 ⟨y,H2,I2,r2,q2⟩
  exact hf v u s2 x y H2 I2 r1 r2 q2
theorem pe_op{op:Operator}{r:R2}(ho:OpR X (binaryOp op) r)(ha:PE X a ta)(hb:PE X b tb):PE X (.BinOp a op b pos) (tOp r ta tb):=by
  intro pins s σ H Q I h
  exact wpAny_BinOp (binT ha hb I h fun v u s2 x y H2 I2 rx ry q=>ho pins s2 σ H2 x y v u Q I2 rx ry q)
theorem pe_un(ho:UnR X (unaryOp op) r)(ha:PE X a ta):PE X (.UnaryOp op a pos) (tUn r ta):=by
  intro pins s σ H Q I h
  exact UnaryOp_ (thn (ha pins s σ H _ I h) fun v s1 ⟨x,H1,I1,r1,q1⟩=>ho pins s1 σ H1 x v Q I1 r1 q1)
theorem opI{f:Value→Value→Sem Value}{C:Int→Int→Prop}{g:Int→Int→Int}(rule:∀(i j:Int) (t u:Tok) (s:Shared) (Q:Value→Shared→Prop) (E:Value→Shared→Prop),C i j→Q (.int (g i j) s.toks) { s with toks:=s.toks+1 }→wpAny (model X.prog X.w) X.A (f (.int i t) (.int j u)) Q E s) :
    OpR X f (rI C fun i j=>.int (g i j)):=by
  intro pins s σ H x y v u Q I rx ry h
  obtain⟨i,j,rfl,rfl,hc,q⟩:=h
  obtain⟨t,rfl⟩:=rx
  obtain⟨t',rfl⟩:=ry
  exact rule i j t t' s _ _ hc ⟨.int (g i j),H,I.tok _,⟨_,rfl⟩,q⟩
theorem opI0{f:Value→Value→Sem Value}{g:Int→Int→Int}(rule:∀(i j:Int) (t u:Tok) (s:Shared) (Q:Value→Shared→Prop) (E:Value→Shared→Prop),Q (.int (g i j) s.toks) { s with toks:=s.toks+1 }→wpAny (model X.prog X.w) X.A (f (.int i t) (.int j u)) Q E s) :
    OpR X f (rI0 fun i j=>.int (g i j)):=by
  intro pins s σ H x y v u Q I rx ry h
  obtain⟨i,j,rfl,rfl,q⟩:=h
  obtain⟨t,rfl⟩:=rx
  obtain⟨t',rfl⟩:=ry
  exact rule i j t t' s _ _ ⟨.int (g i j),H,I.tok _,⟨_,rfl⟩,q⟩
theorem opB0{f:Value→Value→Sem Value}{g:Int→Int→Bool}(rule:∀(i j:Int) (t u:Tok) (s:Shared) (Q:Value→Shared→Prop) (E:Value→Shared→Prop),Q (.bool (g i j)) s→wpAny (model X.prog X.w) X.A (f (.int i t) (.int j u)) Q E s) :
    OpR X f (rI0 fun i j=>.bl (g i j)):=by
  intro pins s σ H x y v u Q I rx ry h
  obtain⟨i,j,rfl,rfl,q⟩:=h
  obtain⟨t,rfl⟩:=rx
  obtain⟨t',rfl⟩:=ry
  exact rule i j t t' s _ _ ⟨.bl (g i j),H,I,rfl,q⟩
def CDiv(i j:Int):Prop:=0<j∧j<1073741824
def CMul(i j:Int):Prop:=(-(2 ^ 64)<i∧i<2 ^ 64)∨(-(2 ^ 64)<j∧j<2 ^ 64)
theorem CMul.ok(h:CMul i j):IntMulOk i j:=by
  rcases h with⟨h1,h2⟩|⟨h1,h2⟩
  · exact .of_left (intBits_le_64 h1 h2)
  · exact .of_right (intBits_le_64 h1 h2)
theorem op_add:OpR X (binaryOp .Add) (rI0 fun i j=>.int (i+j)):=opI0 fun _ _ _ _ _ _ _ q=>add_int q
theorem op_sub:OpR X (binaryOp .Sub) (rI0 fun i j=>.int (i-j)):=opI0 fun _ _ _ _ _ _ _ q=>sub_int q
theorem op_mul:OpR X (binaryOp .Mult) (rI CMul fun i j=>.int (i*j)):=opI fun _ _ _ _ _ _ _ hc q=>mul_int q hc.ok
theorem op_fdiv:OpR X (binaryOp .FloorDiv) (rI CDiv fun i j=>.int (i / j)):=opI fun i j _ _ _ _ _ hc q=>by
  have h1:(0:Int)<j:=hc.1
  have h2:j<1073741824:=hc.2
  exact floordiv_int (by lia) (by rw[Int.fdiv_eq_ediv_of_nonneg i (by lia)];exact q) (.inl (PyProof.noPylong_small (by lia)))
theorem op_mod:OpR X (binaryOp .Mod) (rI (fun _ j=>0<j) fun i j=>.int (i % j)):=opI fun i j _ _ _ _ _ hc q=>by
  have h1:(0:Int)<j:=hc
  exact mod_int' (by lia) (by rw[Int.fmod_eq_emod_of_nonneg i (by lia)];exact q)
theorem unI{f:Value→Sem Value}{g:Int→Int}(rule:∀(i:Int) (t:Tok) (s:Shared) (Q:Value→Shared→Prop) (E:Value→Shared→Prop),Q (.int (g i) s.toks) { s with toks:=s.toks+1 }→wpAny (model X.prog X.w) X.A (f (.int i t)) Q E s) :
    UnR X f (rU fun i=>.int (g i)):=by
  intro pins s σ H x v Q I rx h
  obtain⟨i,rfl,q⟩:=h
  obtain⟨t,rfl⟩:=rx
  exact rule i t s _ _ ⟨.int (g i),H,I.tok _,⟨_,rfl⟩,q⟩
theorem un_neg:UnR X (unaryOp .USub) (rU fun i=>.int (-i)):=unI fun _ _ _ _ _ q=>neg_int q
end
def scal:V→V→Bool
  | .non,.non=>true|.non,.int _=>true|.int _,.non=>true|.non,.bl _=>true|.bl _,.non=>true|.non,.str _=>true|.str _,.non=>true
  | .int _,.int _=>true|.bl _,.bl _=>true|.str _,.str _=>true|.byt _,.byt _=>true
  | .int _,.str _=>true|.str _,.int _=>true|.bl _,.str _=>true|.str _,.bl _=>true
  | _,_=>false
def rEq:R2:=fun x y H Q=>scal x y=true∧Q (.bl (decide (x=y))) H
def rNe:R2:=fun x y H Q=>scal x y=true∧Q (.bl (!decide (x=y))) H
theorem dec_int:decide (V.int i=V.int j)=(i==j):=by
  rw[Bool.eq_iff_iff]
  simp
theorem dec_bl:decide (V.bl i=V.bl j)=(i==j):=by
  rw[Bool.eq_iff_iff]
  simp
theorem dec_str:decide (V.str i=V.str j)=(i==j):=by
  rw[Bool.eq_iff_iff]
  simp
theorem dec_byt:decide (V.byt i=V.byt j)=(i.toList==j.toList):=by
  rw[Bool.eq_iff_iff]
  cases i
  cases j
  simp
section
variable {X:Cx}{a b c:Expr}{ta tb tc:TE}{pos:Pos}
theorem fin_bl(I:Inv X pins σ H s)(q:Q (.bl k) H)(e:k=k'):EP X pins σ Q (.bool k') s:=by
  subst e
  exact⟨.bl k,H,I,rfl,q⟩
theorem op_eq:OpR X (compareOp .Eq) rEq:=by
  intro pins s σ H x y v u Q I rx ry h
  obtain⟨hs,q⟩:=h
  cases x with
  | non =>
    cases rx
    cases y with
    | non=>cases ry;exact PySem.EqNone.eq_none_none (fin_bl I q (by simp))
    | bl j=>cases ry;exact PySem.EqNone.eq_none_bool (fin_bl I q (by simp))
    | int j=>obtain⟨t',rfl⟩:=ry;exact PySem.EqNone.eq_none_int (fin_bl I q (by simp))
    | str j=>obtain⟨t',rfl⟩:=ry;exact PySem.EqNone.eq_none_str (fin_bl I q (by simp))
    | _=>exact absurd (show false=true from hs) Bool.false_ne_true
  | bl i =>
    cases rx
    cases y with
    | non=>cases ry;exact PySem.EqNone.eq_bool_none (fin_bl I q (by simp))
    | bl j=>cases ry;exact eq_bool (fin_bl I q dec_bl)
    | str j=>obtain⟨t',rfl⟩:=ry;exact PySem.EqMixed.eq_bool_str (fin_bl I q (by simp))
    | _=>exact absurd (show false=true from hs) Bool.false_ne_true
  | int i =>
    obtain⟨t,rfl⟩:=rx
    cases y with
    | non=>cases ry;exact PySem.EqNone.eq_int_none (fin_bl I q (by simp))
    | int j=>obtain⟨t',rfl⟩:=ry;exact eq_int (fin_bl I q dec_int)
    | str j=>obtain⟨t',rfl⟩:=ry;exact PySem.EqMixed.eq_int_str (fin_bl I q (by simp))
    | _=>exact absurd (show false=true from hs) Bool.false_ne_true
  | str i =>
    obtain⟨t,rfl⟩:=rx
    cases y with
    | non=>cases ry;exact PySem.EqNone.eq_str_none (fin_bl I q (by simp))
    | bl j=>cases ry;exact PySem.EqMixed.eq_str_bool (fin_bl I q (by simp))
    | int j=>obtain⟨t',rfl⟩:=ry;exact PySem.EqMixed.eq_str_int (fin_bl I q (by simp))
    | str j=>obtain⟨t',rfl⟩:=ry;exact eq_str (fin_bl I q dec_str)
    | _=>exact absurd (show false=true from hs) Bool.false_ne_true
  | byt i =>
    obtain⟨t,rfl⟩:=rx
    cases y with
    | byt j=>obtain⟨t',rfl⟩:=ry;exact PySem.W.eq_bytes (fin_bl I q dec_byt)
    | _=>exact absurd (show false=true from hs) Bool.false_ne_true
  | _=>cases y<;>exact absurd (show false=true from hs) Bool.false_ne_true
theorem op_ne:OpR X (compareOp .NotEq) rNe:=by
  intro pins s σ H x y v u Q I rx ry h
  obtain⟨hs,q⟩:=h
  cases x with
  | non =>
    cases rx
    cases y with
    | non=>cases ry;exact PySem.EqNone.ne_none_none (fin_bl I q (by simp))
    | bl j=>cases ry;exact PySem.EqNone.ne_none_bool (fin_bl I q (by simp))
    | int j=>obtain⟨t',rfl⟩:=ry;exact PySem.EqNone.ne_none_int (fin_bl I q (by simp))
    | str j=>obtain⟨t',rfl⟩:=ry;exact PySem.EqNone.ne_none_str (fin_bl I q (by simp))
    | _=>exact absurd (show false=true from hs) Bool.false_ne_true
  | bl i =>
    cases rx
    cases y with
    | non=>cases ry;exact PySem.EqNone.ne_bool_none (fin_bl I q (by simp))
    | bl j=>cases ry;exact ne_bool (fin_bl I q (congrArg not dec_bl))
    | str j=>obtain⟨t',rfl⟩:=ry;exact PySem.EqMixed.ne_bool_str (fin_bl I q (by simp))
    | _=>exact absurd (show false=true from hs) Bool.false_ne_true
  | int i =>
    obtain⟨t,rfl⟩:=rx
    cases y with
    | non=>cases ry;exact PySem.EqNone.ne_int_none (fin_bl I q (by simp))
    | int j=>obtain⟨t',rfl⟩:=ry;exact ne_int (fin_bl I q (congrArg not dec_int))
    | str j=>obtain⟨t',rfl⟩:=ry;exact PySem.EqMixed.ne_int_str (fin_bl I q (by simp))
    | _=>exact absurd (show false=true from hs) Bool.false_ne_true
  | str i =>
    obtain⟨t,rfl⟩:=rx
    cases y with
    | non=>cases ry;exact PySem.EqNone.ne_str_none (fin_bl I q (by simp))
    | bl j=>cases ry;exact PySem.EqMixed.ne_str_bool (fin_bl I q (by simp))
    | int j=>obtain⟨t',rfl⟩:=ry;exact PySem.EqMixed.ne_str_int (fin_bl I q (by simp))
    | str j=>obtain⟨t',rfl⟩:=ry;exact ne_str (fin_bl I q (congrArg not dec_str))
    | _=>exact absurd (show false=true from hs) Bool.false_ne_true
  | byt i =>
    obtain⟨t,rfl⟩:=rx
    cases y with
    | byt j=>obtain⟨t',rfl⟩:=ry;exact PySem.W.ne_bytes (fin_bl I q (congrArg not dec_byt))
    | _=>exact absurd (show false=true from hs) Bool.false_ne_true
  | _=>cases y<;>exact absurd (show false=true from hs) Bool.false_ne_true
theorem op_lt:OpR X (compareOp .Lt) (rI0 fun i j=>.bl (decide (i<j))):=opB0 fun _ _ _ _ _ _ _ q=>lt_int q
theorem op_gt:OpR X (compareOp .Gt) (rI0 fun i j=>.bl (decide (j<i))):=opB0 fun _ _ _ _ _ _ _ q=>gt_int q
theorem op_ge:OpR X (compareOp .GtE) (rI0 fun i j=>.bl (decide (j≤i))):=opB0 fun _ _ _ _ _ _ _ q=>ge_int q
theorem op_in_str:OpR X (compareOp .In) (fun x y H Q=>∃i j,x=.str i∧y=.str j∧Q (.bl (!(Builtin.Str.occurrences j i 0 j.length 1).isEmpty)) H):=by
  intro pins s σ H x y v u Q I rx ry h
  obtain⟨i,j,rfl,rfl,q⟩:=h
  obtain⟨t,rfl⟩:=rx
  obtain⟨t',rfl⟩:=ry
  exact in_str (fin_bl I q rfl)
theorem op_notin_str:OpR X (compareOp .NotIn) (fun x y H Q=>∃i j,x=.str i∧y=.str j∧Q (.bl (!(!(Builtin.Str.occurrences j i 0 j.length 1).isEmpty))) H):=by
  intro pins s σ H x y v u Q I rx ry h
  obtain⟨i,j,rfl,rfl,q⟩:=h
  obtain⟨t,rfl⟩:=rx
  obtain⟨t',rfl⟩:=ry
  exact notIn_str (fin_bl I q rfl)
theorem nomark(b:Expr)(h:op≠.In:=by decide)(h2:op≠.NotIn:=by decide):behindInMarks op b=false:=by
  have e1:(op==CmpOp.In)=false:=by cases op<;>first|rfl|exact absurd rfl h
  have e2:(op==CmpOp.NotIn)=false:=by cases op<;>first|rfl|exact absurd rfl h2
  cases b<;>simp[behindInMarks,e1,e2]
theorem pe_cmpR{op:CmpOp}{r:R2}(ho:OpR X (compareOp op) r)(ha:PE X a ta)(hb:PE X b tb)(hm:behindInMarks op b=false):PE X (.Compare a [op] [b] pos) (tOp r ta tb):=by
  intro pins s σ H Q I h
  exact wpAny_Compare1 (binT ha hb I h fun v u s2 x y H2 I2 rx ry q=>ho pins s2 σ H2 x y v u Q I2 rx ry q) hm
inductive ItTest  (x:V) (H':Hp) (Q:Bool→Hp→Prop):Prop
  | mk (k) (e0:x=.bl k) (e1:Q k H')
def tTest(t:TE):TT:=fun σ H Q=>t σ H fun x H'=>ItTest  x H' Q
theorem pt_cmpR(ho:OpR X (compareOp op) r)(ha:PE X a ta)(hb:PE X b tb)(hm:behindInMarks op b=false):PT X (.Compare a [op] [b] pos) (tTest (tOp r ta tb)):=by
  intro pins s σ H Q I h
  refine wpAny_isTrue_Compare1 (thn (ha pins s σ H _ I h) fun v s1 ⟨x,H1,I1,r1,q1⟩=>thn (hb pins s1 σ H1 _ I1 q1) fun u s2 ⟨y,H2,I2,r2,q2⟩ =>
    thn (ho pins s2 σ H2 x y v u _ I2 r1 r2 q2) fun c s3 ⟨z,H3,I3,r3,k,e,q3⟩=>?_) hm
  subst e
  cases r3
  exact wpAny_truthy_bool ⟨H3,I3,q3⟩
def TruV(K:PySem.W.Frag)(x:V)(H:Hp)(k:Bool):Prop :=
  match x with
  | .non=>k=false
  | .bl b=>k=b
  | .int i=>k=(i != 0)
  | .str y=>y.length≤sizeLine∧k=((y.length:Int) != 0)
  | .byt y=>y.size≤sizeLine∧k=((y.size:Int) != 0)
  | .ref p=>(∃xs,SqL K H p xs∧k=!xs.isEmpty)∨(∃xs,SqT K H p xs∧k=!xs.isEmpty)∨∃kvs,H p=some (.dK kvs)∧k=!kvs.isEmpty
  | _=>False
theorem isEmpty_kv(r:KV kvs vs):(!vs.isEmpty)=!kvs.isEmpty:=by
  cases r<;>rfl
theorem isEmpty_of(r:Vals xs its):(!its.toArray.isEmpty)=!xs.isEmpty:=by
  cases r<;>simp
theorem line63:(sizeLine:Nat)<2 ^ 63:=by rw[sizeLine_eq];decide
theorem tru_ok:TruR X (fun x H Q=>∃k,TruV X.K x H k∧Q k H):=by
  intro pins s σ H x v Q I rx h
  obtain⟨k,e,q⟩:=h
  have hl:=line63
  have hs:sizeLine=16777216:=sizeLine_eq
  cases x with
  | non =>
    cases rx
    have e':k=false:=e
    subst e'
    exact truthy_none ⟨H,I,q⟩
  | bl b =>
    cases rx
    have e':k=b:=e
    subst e'
    exact wpAny_truthy_bool ⟨H,I,q⟩
  | int i =>
    obtain⟨t,rfl⟩:=rx
    have e':k=(i != 0):=e
    subst e'
    exact PySem.P.truthy_int ⟨H,I,q⟩
  | str y =>
    obtain⟨t,rfl⟩:=rx
    obtain⟨hy,e'⟩:y.length≤sizeLine∧k=((y.length:Int) != 0):=e
    subst e'
    exact PySem.P.truthy_str (by lia) ⟨H,I.tok _,q⟩
  | byt y =>
    obtain⟨t,rfl⟩:=rx
    obtain⟨hy,e'⟩:y.size≤sizeLine∧k=((y.size:Int) != 0):=e
    subst e'
    exact PySem.W.truthy_bytes (by lia) ⟨H,I.tok _,q⟩
  | ref p =>
    cases rx
    have e':(∃xs,SqL X.K H p xs∧k=!xs.isEmpty)∨(∃xs,SqT X.K H p xs∧k=!xs.isEmpty)∨∃kvs,H p=some (.dK kvs)∧k=!kvs.isEmpty:=e
    rcases e' with⟨xs,hx,e'⟩|⟨xs,hx,e'⟩|⟨kvs,hx,e'⟩
    · subst e'
      obtain⟨its,r,pl,hz⟩:=I.list hx
      have hlen:=r.length
      exact wpAny_truthy_list pl.isList (by simp only[List.size_toArray];lia) ⟨H,I.tok _,by rw[isEmpty_of r];exact q⟩
    · subst e'
      obtain⟨its,r,pl,hz⟩:=I.tuple hx
      have hlen:=r.length
      exact truthy_tuple pl (by simp only[List.size_toArray];lia) ⟨H,I.tok _,by rw[isEmpty_of r];exact q⟩
    · subst e'
      obtain⟨hz,hS,vs,r,m⟩:kvs.length≤sizeLine∧(p==sysModules)=false∧∃vs,KV kvs vs∧s.heap.DictOf (mixKind X.prog X.w) p vs:=I.hok p _ hx
      have hlen:kvs.length=vs.length:=Paired.length r
      exact wpAny_truthy_dict hS m (by lia) ⟨H,I.tok _,by rw[isEmpty_kv r];exact q⟩
  | _=>exact(show False from e).elim
theorem pt_truth(ha:PE X a ta)(he:∀whole,isTrue a X.env whole=(do let v ←whole;standAt a.pos;holding [v] (truthy v))) :
    PT X a (fun σ H Q=>ta σ H fun x H'=>∃k,TruV X.K x H' k∧Q k H'):=by
  intro pins s σ H Q I h
  exact isTrue_plain (thn (ha pins s σ H _ I h) fun v s1 ⟨x,H1,I1,r1,q1⟩=>tru_ok pins s1 σ H1 x v Q I1 r1 q1) (he _)
theorem op_add_str:OpR X (binaryOp .Add) (fun x y H Q=>∃i j,x=.str i∧y=.str j∧i.length+j.length≤sizeLine∧Q (.str (i++j)) H):=by
  intro pins s σ H x y v u Q I rx ry h
  obtain⟨i,j,rfl,rfl,hz,q⟩:=h
  obtain⟨t,rfl⟩:=rx
  obtain⟨t',rfl⟩:=ry
  exact add_str (fun t' tk=>⟨.str (i++j),H,I.tok _,⟨_,rfl⟩,q⟩) hz
theorem vals1(r:Vals [x] us):∃u,us=[u]∧RelV x u:=by
  cases r with
  | cons r1 r2=>cases r2;exact⟨_,rfl,r1⟩
theorem call_int1:CallR X (.type "int") (fun xs H Q=>(∃i,xs=[.int i]∧Q (.int i) H)∨∃k,xs=[.bl k]∧Q (.int (if k then 1 else 0)) H):=by
  intro pins s σ H xs us Q I r h
  rcases h with⟨i,rfl,q⟩|⟨k,rfl,q⟩
  · obtain⟨u,rfl,t,rfl⟩:=vals1 r
    exact call_int_int ⟨.int i,H,I,⟨_,rfl⟩,q⟩
  · obtain⟨u,rfl,r1⟩:=vals1 r
    cases r1
    exact call_int_bool ⟨.int (if k then 1 else 0),H,I.tok _,⟨_,rfl⟩,q⟩
inductive Rcall_str_int(xs:List V)(H:Hp)(Q:VK):Prop
  | mk i (_:xs=[.int i]) (_:i.natAbs.log2<1920) (_:Q (.str (toString i)) H)
theorem call_str_int:CallR X (.type "str") Rcall_str_int:=by
  intro pins s σ H xs us Q I r h
  obtain⟨i,rfl,hz,q⟩:=h
  obtain⟨u,rfl,t,rfl⟩:=vals1 r
  exact PySem.P.str_of_int hz ⟨.str _,H,I.tok _,⟨_,rfl⟩,q⟩
end
end L2
namespace L2
open PySem PySem.Spec PyProof.Rows
structure ObjM(h:Heap)(x dx C:Addr)(mA:Str→Option Value):Prop where
  obj:h.get? x=some (PySem.W.instObj C dx)
  ns:h.Ns1 dx mA
  ne:dx≠x
theorem lookIn_ns{h:Heap}{dx:Addr}{mA:Str→Option Value}(n:h.Ns1 dx mA):∃od,h.get? dx=some od∧∀name,PySem.W.lookIn name od=some (mA name):=by
  obtain⟨o,es,ep,ho,hd,hk,_,hm⟩:=n
  refine⟨o,ho,fun name=>?_⟩
  have e:=hm name
  unfold nsFind findBy at e
  rw[←Array.find?_toList] at e
  unfold PySem.W.lookIn
  rw[hd]
  dsimp only
  split
  · rename_i y q
    rw[q] at e
    exact congrArg some e
  · rename_i q
    rw[q] at e
    have a:es.toList.any (·.refKey)=false:=by
      rw[List.any_eq_false]
      intro y hy
      obtain⟨z,t,hkey⟩:=hk y (Array.mem_toList_iff.mp hy)
      simp[DictEntry.refKey,hkey]
    have a':¬es.toList.any (·.refKey)=true:=by rw[a];exact Bool.false_ne_true
    rw[if_neg a']
    exact congrArg some e
theorem ObjM.look(I:ObjM h x dx C mA):∃od,PySem.W.InstAt h x (PySem.W.instObj C dx) C (some od)∧∀name,PySem.W.lookIn name od=some (mA name) :=
  let⟨od,ho,hl⟩:=lookIn_ns I.ns
  ⟨od,⟨I.obj,rfl,rfl,ho⟩,hl⟩
section
variable {prog:Program}{w:World}{A:Around}{E:Value→Shared→Prop}{s:Shared}{K:PySem.W.Frag}{x dx C f:Addr}{mA:Str→Option Value}{name:Str}{v:Value}
theorem get_map{expr:Bool}{Q:Value→Shared→Prop}(X:K.In s.heap)(I:ObjM s.heap x dx C mA)(hg:PySem.W.plainGet K C name=true)(hh:PySem.W.hasDictIn K C=true)(ha:PySem.W.findIn K (.ref C) name=some none)(hv:mA name=some v)(hv':PySem.W.handedIn v=true)(h:Q v { s with toks:=s.toks+1 }) :
    wpAny (model prog w) A (getAttr (.ref x) name expr) Q E s:=by
  obtain⟨od,J,hl⟩:=I.look
  exact PySem.W.get_value X J (PySem.W.plainGet_of hg).1 (PySem.W.findObj_own hh ha rfl (by rw[hl,hv])) hv' h
theorem get_meth{pl:Sem Bool}{Q:Value×List Value→Shared→Prop}(X:K.In s.heap)(I:ObjM s.heap x dx C mA)(hg:PySem.W.plainGet K C name=true)(hf:PySem.W.findIn K (.ref C) name=some (some (.ref f)))(ht:PySem.W.isFn K (.ref f)=true)(hv:mA name=none)(h:Q (.ref f,[.ref x]) s) :
    wpAny (model prog w) A (getMethod (.ref x) name pl) Q E s:=by
  obtain⟨od,J,hl⟩:=I.look
  exact PySem.W.method_fn X J (PySem.W.plainGet_of hg).1 (PySem.W.plainGet_of hg).2 hf (beq_iff_eq.mp ht) (by show(PySem.W.lookIn name od).map (·.isSome)=some false;rw[hl,hv];rfl) h
theorem set_map{ns:List Str}{Q:Unit→Shared→Prop}(X:K.In s.heap)(I:ObjM s.heap x dx C mA)(hs:PySem.W.findIn K (.ref C) "__setattr__"=some (some (.builtin "object.__setattr__")))(hp:PySem.W.plainOver K C=true)(ht:PySem.W.takerIn K C name=some none)(hh:PySem.W.hasDictIn K C=true)(hw:PySem.Within mA ns)(hsz:ns.length≤sizeLine)(h:∀h',ObjM h' x dx C (fun y=>if y=name then some v else mA y)→Heap.SameBut dx s.heap h'→Q () { s with heap:=h',toks:=s.toks+2 }) :
    wpAny (model prog w) A (setAttr (.ref x) name v) Q E s:=by
  obtain⟨od,J,hl⟩:=I.look
  refine PySem.W.set_plain X J hs (PySem.W.osa_open (s:={ s with toks:=s.toks+1 }) (r:=none) X J hp ht fun b=>?_)
  obtain⟨cd,hc,hd'⟩:=PySem.W.any_some hh
  have hx:s.heap.get? x=some ⟨.ref C,some dx,.plain,#[]⟩:=I.obj
  refine wpAny_bind (wpAny_pure (wpAny_bind (wpAny_bind (wpAny_loadPart hx (wpAny_bind (PySem.W.Looks.here (s:={ s with toks:=s.toks+1 }) (PySem.W.looks_clsIn X hc) ?_))))))
  rw[hd']
  refine wpAny_pure (a:=some dx) (wpAny_bind (wpAny_pure (wpAny_bind ?_)))
  refine wpAny_nsSet1 (s:={ s with toks:=s.toks+1 }) I.ns fun h' hn2 hs2=>?_
  obtain⟨oD,esD,epD,hoD,hdD,hcD⟩:=hn2.count (PySem.Within.cons name v hw)
  refine wpAny_bind (wpAny_lookBehind hoD (by rw[hdD];exact pastItsLine_dict (Nat.le_trans hcD (by rw[List.length_cons];lia))) ?_)
  exact wpAny_pure (h _ ⟨(hs2.2 _ (Ne.symm I.ne)).trans I.obj,hn2,I.ne⟩ hs2)
theorem make_map{R:Result→Shared→Prop}{vs:List Value}{kw:List (Str×Value)}(X:K.In s.heap)(hm:PySem.W.makesIn K C=true)(hi:PySem.W.findIn K (.ref C) "__init__"=some (some (.ref f)))(hf:PySem.W.typeIn K (.ref f)=some (.type "function"))(h:codeAny (model prog w) (A.under (.builtin "type.__call__" ⟨.ref C::vs,kw⟩)) (.call (.ref f) ⟨.ref (s.heap.objs.size+1)::vs,kw⟩) (PySem.W.InitBack (s.heap.objs.size+1) R)
      { s with heap:=(s.heap.push PySem.W.emptyDict).push (PySem.W.instObj C s.heap.objs.size) }) :
    codeAny (model prog w) A (.call (.ref C) ⟨vs,kw⟩) R s:=by
  obtain⟨hh,g,d,t,os⟩:=s
  exact PySem.W.make_core (PySem.W.makes_of X hm) (PySem.W.looks_findIn X hi) (fun self=>PySem.W.bind_fn X self hf) (.inl rfl) h
end
def putF(f:Str)(v:V):List (Str×V)→List (Str×V)
  | []=>[(f,v)]
  | (g,x)::r=>if g=f then(g,v)::r else(g,x)::putF f v r
theorem lookup_putF(f g:Str)(v:V):∀fs:List (Str×V),(putF f v fs).lookup g=if g=f then some v else fs.lookup g
  | []=>by
    show List.lookup g [(f,v)]=_
    by_cases h:g=f
    · have hb:(g==f)=true:=beq_iff_eq.mpr h
      simp only[List.lookup,hb,if_pos h]
    · have hb:(g==f)=false:=beq_eq_false_iff_ne.mpr h
      simp only[List.lookup,hb,if_neg h]
  | (k,x)::r=>by
    have ih:=lookup_putF f g v r
    rw[show putF f v ((k,x)::r)=(if k=f then(k,v)::r else(k,x)::putF f v r) from rfl]
    by_cases hk:k=f
    · rw[if_pos hk]
      by_cases h:g=k
      · have hb:(g==k)=true:=beq_iff_eq.mpr h
        simp only[List.lookup,hb,if_pos (h.trans hk)]
      · have hb:(g==k)=false:=beq_eq_false_iff_ne.mpr h
        simp only[List.lookup,hb,if_neg (fun e:g=f=>h (e.trans hk.symm))]
    · rw[if_neg hk]
      by_cases h:g=k
      · have hb:(g==k)=true:=beq_iff_eq.mpr h
        simp only[List.lookup,hb,if_neg (fun e:g=f=>hk (h.symm.trans e))]
      · have hb:(g==k)=false:=beq_eq_false_iff_ne.mpr h
        simp only[List.lookup,hb]
        exact ih
theorem keys_putF(f:Str)(v:V):∀fs:List (Str×V),f∈(putF f v fs).map (·.1)∧∀g,g∈fs.map (·.1)→g∈(putF f v fs).map (·.1)
  | []=>⟨by simp[putF],fun g h=>by simp at h⟩
  | (k,x)::r=>by
    obtain⟨i1,i2⟩:=keys_putF f v r
    rw[show putF f v ((k,x)::r)=(if k=f then(k,v)::r else(k,x)::putF f v r) from rfl]
    by_cases hk:k=f
    · rw[if_pos hk]
      subst hk
      exact⟨by simp,fun g h=>by simpa using h⟩
    · rw[if_neg hk]
      refine⟨?_,fun g h=>?_⟩
      · rw[List.map_cons]
        exact ZD _ i1
      · rw[List.map_cons] at h ⊢
        rcases ZM h with e|e
        · exact List.mem_cons.mpr (.inl e)
        · exact ZD _ (i2 g e)
theorem length_putF(f:Str)(v:V):∀fs:List (Str×V),(putF f v fs).length≤fs.length+1
  | []=>by simp[putF]
  | (k,x)::r=>by
    have ih:=length_putF f v r
    rw[show putF f v ((k,x)::r)=(if k=f then(k,v)::r else(k,x)::putF f v r) from rfl]
    by_cases hk:k=f
    · rw[if_pos hk,List.length_cons,List.length_cons];lia
    · rw[if_neg hk,List.length_cons,List.length_cons];lia
theorem RelO.some_of{v:V}{o:Option Value}(r:RelO (some v) o):∃u,o=some u∧RelV v u:=by
  cases o with
  | none=>exact(show False from r).elim
  | some u=>exact⟨u,rfl,r⟩
theorem RelO.none_of(r:RelO none o):o=none:=by
  cases o with
  | none=>rfl
  | some u=>exact(show False from r).elim
theorem handed_of(r:RelV v u):PySem.W.handedIn u=true:=by
  cases v with
  | non=>cases (show u=Value.none from r);rfl
  | bl b=>cases (show u=Value.bool b from r);rfl
  | int i=>obtain⟨t,e⟩:=(show ∃t,u=Value.int i t from r);cases e;rfl
  | str x=>obtain⟨t,e⟩:=(show ∃t,u=Value.str x t from r);cases e;rfl
  | byt b=>obtain⟨t,e⟩:=(show ∃t,u=Value.bytes b t from r);cases e;rfl
  | flt b=>obtain⟨t,e⟩:=(show ∃t,u=Value.float b t from r);cases e;rfl
  | ref a=>cases (show u=Value.ref a from r);rfl
  | ty n=>cases (show u=Value.type n from r);rfl
section
theorem ins_get(hok:HOk P w H h)(e:H a=some (.ins C dx fs)):∃mA,ObjM h a dx C mA∧(∀f,RelO (fs.lookup f) (mA f))∧PySem.Within mA (fs.map (·.1))∧fs.length≤1000∧H dx=some (.own a):=by
  obtain⟨d,z,ne,ob,mA,n,r,q⟩:=(show ObjOk P w H h a (.ins C dx fs) from hok a _ e)
  exact⟨mA,⟨ob,n,ne⟩,r,q,z,d⟩
end
structure Cls(K:PySem.W.Frag)(C:Addr):Prop where
  pg:PySem.W.plainGet K C Str.empty=true
  hd:PySem.W.hasDictIn K C=true
  po:PySem.W.plainOver K C=true
  sa:PySem.W.findIn K (.ref C) "__setattr__"=some (some (.builtin "object.__setattr__"))
theorem Cls.get{K:PySem.W.Frag}{C:Addr}(c:Cls K C)(f:Str):PySem.W.plainGet K C f=true:=c.pg
def NoAttr(K:PySem.W.Frag)(C:Addr)(f:Str):Prop:=PySem.W.findIn K (.ref C) f=some none
theorem NoAttr.taker{K:PySem.W.Frag}{C:Addr}{f:Str}(n:NoAttr K C f):PySem.W.takerIn K C f=some none:=by
  unfold PySem.W.takerIn
  rw[show PySem.W.findIn K (.ref C) f=some none from n]
  rfl
structure Meth(K:PySem.W.Frag)(C:Addr)(m:Str)(f:Addr):Prop where
  at_:PySem.W.findIn K (.ref C) m=some (some (.ref f))
  fn:PySem.W.isFn K (.ref f)=true
  kp:PySem.W.keepIn K (.ref f)=true
section
theorem getattr_ok(I:Inv X pins σ H s)(e:H a=some (.ins C dx fs))(c:Cls X.K C)(n:NoAttr X.K C f)(l:fs.lookup f=some v)(h:∀u s',Inv X pins σ H s'→RelV v u→Q u s'):wpAny (model X.prog X.w) A (getAttr (.ref a) f b) Q E s:=by
  obtain⟨mA,O,r,_,_,_⟩:=ins_get I.hok e
  obtain⟨u,hu,ru⟩:=RelO.some_of (v:=v) (o:=mA f) (by rw[←l];exact r f)
  exact get_map I.kIn O (c.get f) c.hd n hu (handed_of ru) (h u _ (I.tok _) ru)
theorem getmeth_ok(I:Inv X pins σ H s)(e:H a=some (.ins C dx fs))(c:Cls X.K C)(k:Meth X.K C m g)(l:fs.lookup m=none)(h:Q (.ref g,[.ref a]) s):wpAny (model X.prog X.w) A (getMethod (.ref a) m pl) Q E s:=by
  obtain⟨mA,O,r,_,_,_⟩:=ins_get I.hok e
  have hn:mA m=none:=RelO.none_of (by rw[←l];exact r m)
  exact get_meth I.kIn O (c.get m) k.at_ k.fn hn h
theorem setattr_ok(I:Inv X pins σ H s)(e:H a=some (.ins C dx fs))(c:Cls X.K C)(n:NoAttr X.K C f)(hl:fs.length<1000)(ry:RelV y u)(h:∀s',Inv X pins σ (upd H a (.ins C dx (putF f y fs))) s'→Q () s'):wpAny (model X.prog X.w) A (setAttr (.ref a) f u) Q E s:=by
  obtain⟨mA,O,r,wi,_,ho⟩:=ins_get I.hok e
  have hz:(fs.map (·.1)).length≤sizeLine:=by rw[ZA,sizeLine_eq];lia
  refine set_map I.kIn O c.sa c.po n.taker c.hd wi hz fun h' O' sb=>h _ ?_
  have hd:∃o,h'.get? dx=some o:=let⟨o,_,_,e',_⟩:=O'.ns;⟨o,e'⟩
  refine I.write (x:=a) (e:=dx) (by rw[e];exact True.intro) (.inr ho) (fun b q hb z=>(sb.2 b hb).trans z) hd ?_
  refine⟨by rw[upd_ne O.ne];exact ho,?_,O.ne,O'.obj,_,O'.ns,fun g=>?_,fun g hg=>?_⟩
  · have:=length_putF f y fs;lia
  · show RelO ((putF f y fs).lookup g) (if g=f then some u else mA g)
    rw[lookup_putF]
    by_cases q:g=f
    · rw[if_pos q,if_pos q];exact ry
    · rw[if_neg q,if_neg q];exact r g
  · by_cases q:g=f
    · rw[q];exact(keys_putF f y fs).1
    · refine(keys_putF f y fs).2 g (wi g fun z=>hg ?_)
      show(if g=f then some u else mA g)=none
      rw[if_neg q];exact z
theorem Inv.made(I:Inv X pins σ H s):Inv X pins σ (upd (upd H s.heap.objs.size (.own (s.heap.objs.size+1))) (s.heap.objs.size+1) (.ins C s.heap.objs.size []))
    { s with heap:=(s.heap.push PySem.W.emptyDict).push (PySem.W.instObj C s.heap.objs.size) }:=by
  have e1:(s.heap.push PySem.W.emptyDict).get? s.heap.objs.size=some PySem.W.emptyDict:=Heap.get?_push_size s.heap rfl
  have e2:((s.heap.push PySem.W.emptyDict).push (PySem.W.instObj C s.heap.objs.size)).get? (s.heap.objs.size+1)=some (PySem.W.instObj C s.heap.objs.size):=by
    have:=Heap.get?_push_size (s.heap.push PySem.W.emptyDict) (o:=PySem.W.instObj C s.heap.objs.size) rfl
    rwa [Heap.size_push] at this
  have e3:(s.heap.push PySem.W.emptyDict).Ns s.heap.objs.size (fun _=>none):=⟨PySem.W.emptyDict,#[],_,e1,rfl,(fun e he=>absurd he (by simp)),fun _=>rfl⟩
  have I1:=I.laid (a:=s.heap.objs.size) (o:=.own (s.heap.objs.size+1)) (h':=s.heap.push PySem.W.emptyDict) (t':=s.toks) (fun b u q=>Heap.get?_push_of_some _ q) (ZG _) ⟨_,e1⟩
  refine I1.laid (a:=s.heap.objs.size+1) (o:=.ins C s.heap.objs.size []) (t':=s.toks) (fun b u q=>Heap.get?_push_of_some _ q) (Nat.le_of_eq (Heap.size_push _ _)) ?_
  have ne:s.heap.objs.size≠s.heap.objs.size+1:=Nat.ne_of_lt (Nat.lt_succ_self _)
  refine⟨by rw[upd_ne ne,upd_same],Nat.zero_le _,ne,e2,fun _=>none,(Heap.Ns1.of_empty e3).at fun o q=>Heap.get?_push_of_some _ q,fun _=>True.intro,fun y hy=>absurd rfl hy⟩
theorem attr_of(hb:attributeBase e f env (eval e env)=eval e env)(h:wpAny (model prog w) A (eval e env) (fun o s₁=>wpAny (model prog w) A (getAttr o f true) Q E s₁) E s):wpAny (model prog w) A (eval (.Attribute e f pos) env) Q E s :=
  Attribute_any_ h (by rw[arm_eval_Attribute,hb])
end
inductive ItFld(K:PySem.W.Frag)(f:Str)(x:V)(H1:Hp)(Q:VK):Prop
  | mk (a C dx fs v) (e0:x=.ref a) (e1:H1 a=some (.ins C dx fs)) (e2:Cls K C) (e3:NoAttr K C f) (e4:fs.lookup f=some v) (e5:Q v H1)
def tFld(K:PySem.W.Frag)(ta:TE)(f:Str):TE:=fun σ H Q=>ta σ H fun x H1=>ItFld K f x H1 Q
def sFld(K:PySem.W.Frag)(ta tv:TE)(f:Str):TS:=fun D σ H=>tv σ H fun y H1=>ta σ H1 fun x H2=>∃a C dx fs,x=.ref a∧H2 a=some (.ins C dx fs)∧Cls K C∧NoAttr K C f∧fs.length<1000 ∧
  D.nx σ (upd H2 a (.ins C dx (putF f y fs)))
def InOp(X:Cx)(op:Operator)(rd:V→V→Hp→VK→Prop):Prop :=
  ∀(pins:List (Addr×Obj))(s:Shared)(σ:St)(H:Hp)(x y:V)(u v:Value)(Q:VK),Inv X pins σ H s→RelV x u→RelV y v→rd x y H Q→wpAny (model X.prog X.w) X.A (inplaceOp op u v) (EP X pins σ Q) X.xe s
def sFldAug(K:PySem.W.Frag)(ta tv:TE)(rd:V→V→Hp→VK→Prop)(f:Str):TS:=fun D σ H=>ta σ H fun x H1=>∃a C dx fs v,x=.ref a∧H1 a=some (.ins C dx fs)∧Cls K C∧NoAttr K C f∧fs.lookup f=some v ∧
  tv σ H1 fun y H2=>rd v y H2 fun z H3=>∃dx' fs',H3 a=some (.ins C dx' fs')∧fs'.length<1000∧D.nx σ (upd H3 a (.ins C dx' (putF f z fs')))
section
theorem pe_fld(he:PE X e ta)(hb:attributeBase e f X.env (eval e X.env)=eval e X.env):PE X (.Attribute e f pos) (tFld X.K ta f):=by
  intro pins s σ H Q I h
  refine attr_of hb (thn (he pins s σ H _ I h) fun u s1 ⟨x,H1,I1,rx,a,C,dx,fs,v,ex,ea,c,n,l,q⟩=>?_)
  subst ex
  obtain rfl:u=Value.ref a:=rx
  exact getattr_ok I1 ea c n l fun u' s2 I2 ru=>⟨v,H1,I2,ru,q⟩
theorem ps_fld(ha:PE X o ta)(hv:PE X value tv)(hs:swapsWith value (some (.Attribute o f pos')) pos.line X.env=pure false):PS X (.Assign [.Attribute o f pos'] value pos) (sFld X.K ta tv f):=by
  intro pins s σ H D I h
  refine plainObj_wpAny_Assign_Attribute (thn (hv pins s σ H _ I h) fun u s1 ⟨y,H1,I1,ry,q⟩=>thn (ha pins s1 σ H1 _ I1 q) fun ov s2 ⟨x,H2,I2,rx,a,C,dx,fs,ex,ea,c,n,l,q2⟩=>?_) hs
  subst ex
  obtain rfl:ov=Value.ref a:=rx
  exact setattr_ok I2 ea c n l ry fun s3 I3=>⟨σ,_,I3,q2⟩
theorem ps_fldaug(ha:PE X o ta)(hv:PE X value tv)(hop:InOp X op rd):PS X (.AugAssign (.Attribute o f tpos) op value pos) (sFldAug X.K ta tv rd f):=by
  intro pins s σ H D I h
  refine wpAny_AugAssign_AttributeAny (thn (ha pins s σ H _ I h) fun ov s1 ⟨x,H1,I1,rx,a,C,dx,fs,v,ex,ea,c,n,l,q⟩=>?_)
  subst ex
  obtain rfl:ov=Value.ref a:=rx
  refine getattr_ok I1 ea c n l fun u s2 I2 ru=>thn (hv pins s2 σ H1 _ I2 q) fun w3 s3 ⟨y,H2,I3,ry,q3⟩=>thn (hop pins s3 σ H2 v y u w3 _ I3 ru ry q3) ?_
  rintro w4 s4 ⟨z,H3,I4,rz,dx',fs',ea',l',q4⟩
  exact setattr_ok I4 ea' c n l' rz fun s5 I5=>⟨σ,_,I5,q4⟩
inductive rAdd(x:V)(y:V)(H:Hp)(Q:VK):Prop
  | mk i j (_:x=.int i) (_:y=.int j) (_:Q (.int (i+j)) H)
inductive rSub(x:V)(y:V)(H:Hp)(Q:VK):Prop
  | mk i j (_:x=.int i) (_:y=.int j) (_:Q (.int (i-j)) H)
theorem in_add:InOp X .Add rAdd:=by
  rintro pins s σ H x y u v Q I rx ry ⟨i,j,rfl,rfl,q⟩
  obtain⟨t,rfl⟩:=(show ∃t,u=Value.int i t from rx)
  obtain⟨t',rfl⟩:=(show ∃t',v=Value.int j t' from ry)
  exact PyProof.Rows.iadd_int ⟨.int (i+j),H,I.tok _,⟨_,rfl⟩,q⟩
theorem in_sub:InOp X .Sub rSub:=by
  rintro pins s σ H x y u v Q I rx ry ⟨i,j,rfl,rfl,q⟩
  obtain⟨t,rfl⟩:=(show ∃t,u=Value.int i t from rx)
  obtain⟨t',rfl⟩:=(show ∃t',v=Value.int j t' from ry)
  exact PyProof.Rows.isub_int ⟨.int (i-j),H,I.tok _,⟨_,rfl⟩,q⟩
end
section
end
end L2
namespace L2
open PySem PySem.Spec PyProof.Rows
structure Room(k:Nat)(A:Around):Prop where
  hd:A.handled=none
  dp:A.depth+3*k+5<recursionLimit
  un:A.units+16*k+200<cLine
theorem Room.mono(r:Room k A)(h:j≤k):Room j A:=⟨r.hd,by have:=r.dp;lia,by have:=r.un;lia⟩
theorem Room.deeper(r:Room (k+1) A)(env:Env):Room k (A.deeper env) :=
  ⟨r.hd,by have:=r.dp;show A.depth+1+3*k+5<_;lia,by have:=r.un;show A.units+3+16*k+200<_;lia⟩
theorem make_depth{A:Around}{C:Addr}{us:List Value}{kw:List (Str×Value)}:(A.under (.builtin "type.__call__" ⟨.ref C::us,kw⟩)).depth=A.depth+1:=by
  first|rfl|simp[Around.under,Code.weight,Code.isCreation,Code.isGuard,Code.isCaller,Code.frames,Code.isFrame,guardIds]
theorem make_units{A:Around}{C:Addr}{us:List Value}{kw:List (Str×Value)}:(A.under (.builtin "type.__call__" ⟨.ref C::us,kw⟩)).units=A.units+1:=by
  first|rfl|simp[Around.under,Code.cUnits,Code.frames,Code.isFrame]
theorem Room.make(r:Room (k+1) A)(C:Addr)(us:List Value)(kw:List (Str×Value)):Room k (A.under (.builtin "type.__call__" ⟨.ref C::us,kw⟩)) :=
  ⟨r.hd,by have:=r.dp;rw[make_depth];lia,by have:=r.un;rw[make_units];lia⟩
theorem Room.depth(r:Room k A):A.depth<recursionLimit:=by have:=r.dp;lia
theorem Room.units(r:Room k A):A.units+64<cLine:=by have:=r.un;lia
def tNil:TA:=fun _ H Q=>Q [] H
def tCons(ta:TE)(tr:TA):TA:=fun σ H Q=>ta σ H fun x H1=>tr σ H1 fun xs H2=>Q (x::xs) H2
section
theorem pa_nil:PA X [] tNil:=fun _ _ _ _ H Q I h=>Calls.spliced_nil ⟨[],H,I,.nil,h⟩
theorem pa_cons(ha:PE X e te)(hr:PA X es t)(hs:starEach (e::es) X.env=(false,eval e X.env)::starEach es X.env:=by rfl):PA X (e::es) (tCons te t):=by
  intro pos pins s σ H Q I h
  rw[hs]
  show wpAny _ _ (spliced ((false,eval e X.env)::backTo pos (starEach es X.env))) _ _ s
  refine Calls.spliced_cons (thn (ha pins s σ H _ I h) fun u s1 ⟨x,H1,I1,r1,q1⟩=>?_)
  exact thn (hr pos pins s1 σ H1 _ I1 q1) fun us s2 ⟨xs,H2,I2,r2,q2⟩=>⟨x::xs,H2,I2,.cons r1 r2,q2⟩
inductive ItTup  (xs:List V) (H1:Hp) (Q:VK):Prop
  | mk  (e0:xs.length≤sizeLine) (e1:∀p,H1 p=none→Q (.ref p) (upd H1 p (.tup xs)))
def tTup(t:TA):TE:=fun σ H Q=>t σ H fun xs H1=>ItTup  xs H1 Q
inductive ItLst  (xs:List V) (H1:Hp) (Q:VK):Prop
  | mk  (e0:xs.length≤sizeLine) (e1:∀p,H1 p=none→Q (.ref p) (upd H1 p (.lst xs)))
def tLst(t:TA):TE:=fun σ H Q=>t σ H fun xs H1=>ItLst  xs H1 Q
theorem pe_tup(h:PA X es t):PE X (.Tuple es x1 pos) (tTup t):=by
  intro pins s σ H Q I hq
  refine wpAny_Tuple_spliced (thn (h pos pins s σ H _ I hq) fun us s1 ⟨xs,H1,I1,r,z,q⟩=>⟨by rw[←r.length];exact z,?_⟩)
  have hf:H1 s1.heap.objs.size=none:=I1.hok.fresh (ZG _)
  refine⟨.ref s1.heap.objs.size,upd H1 s1.heap.objs.size (.tup xs),I1.laid (t':=s1.toks) (fun b u e=>Heap.get?_push_of_some _ e) (ZG _) ?_,rfl,q _ hf⟩
  exact⟨z,us,r,⟨_,Heap.get?_push_size _ rfl,rfl,_,rfl⟩⟩
theorem pe_lst(h:PA X es t):PE X (.List es pos) (tLst t):=by
  intro pins s σ H Q I hq
  refine wpAny_List_spliced (thn (h pos pins s σ H _ I hq) fun us s1 ⟨xs,H1,I1,r,z,q⟩=>⟨by rw[←r.length];exact z,?_⟩)
  have hf:H1 s1.heap.objs.size=none:=I1.hok.fresh (ZG _)
  refine⟨.ref s1.heap.objs.size,upd H1 s1.heap.objs.size (.lst xs),I1.laid (t':=s1.toks) (fun b u e=>Heap.get?_push_of_some _ e) (ZG _) ?_,rfl,q _ hf⟩
  exact⟨z,us,0,r,Heap.get?_push_size _ rfl⟩
end
abbrev Sp:=List V→Hp→VK→XK→Prop
abbrev CXT:=List Env→Hp→Shared→XK→Value→Shared→Prop
structure Env0(P:Program)(w:World)(K:PySem.W.Frag)(mg:Str→Option Value)(base:Heap)(A:Around)(outer:List Env)(s:Shared)(H:Hp):Prop where
  frames:A.frames=some outer
  mod:Mod K mg base
  bs:∀b o,base.get? b=some o→s.heap.get? b=some o∧H b=none
  bsz:base.objs.size≤s.heap.objs.size
  funs:s.heap.FunFrames base outer
  frf:∀b∈frs outer,H b=none
  hok:HOk P w H s.heap
  bare:AllBare s.gens
inductive CE(outer:List Env)(P:Program)(w:World)(H:Hp)(s:Shared)(Q:VK)(u:Value)(s':Shared):Prop
  | mk v H' (_:s'.os=s.os) (_:AllBare s'.gens) (_:Un (frs outer) [] H H' s.heap s'.heap) (_:HOk P w H' s'.heap) (_:RelV v u) (_:Q v H')
def CR(CX:CXT)(outer:List Env)(P:Program)(w:World)(H:Hp)(s:Shared)(Q:VK)(E:XK)(r:Result)(s':Shared):Prop :=
  match r with
  | .ok (.ret u)=>CE outer P w H s Q u s'
  | .ok _=>False
  | .error e=>CX outer H s E e s'
structure FnOk(P:Program)(w:World)(K:PySem.W.Frag)(mg:Str→Option Value)(base:Heap)(CX:CXT)(k:Nat)(f:Addr)(fd:FuncData)(ps:List Str)(sp:Sp):Prop where
  len:∀vs H Q E,sp vs H Q E→vs.length=ps.length
  run:∀(A:Around)(outer:List Env)(s:Shared)(H:Hp)(args:Args)(us:List Value)(vs:List V)(Q:VK)(E:XK),Room k A→Env0 P w K mg base A outer s H→BindsTo s fd args (ps.zip us)→Vals vs us→sp vs H Q E →
    codeAny (model P w) A (.call (.ref f) args) (CR CX outer P w H s Q E) s
theorem Env0.make{P:Program}{w:World}{K:PySem.W.Frag}{mg:Str→Option Value}{base:Heap}{A:Around}{outer:List Env}{s:Shared}{H:Hp}(e:Env0 P w K mg base A outer s H)(C:Addr)(us:List Value)(kw:List (Str×Value)) :
    Env0 P w K mg base (A.under (.builtin "type.__call__" ⟨.ref C::us,kw⟩)) outer s H:=⟨by first|exact e.frames|(simpa [Around.under,Code.envs,Code.isFrame,pushEnvs] using e.frames),e.mod,e.bs,e.bsz,e.funs,e.frf,e.hok,e.bare⟩
section
theorem Inv.env0(I:Inv X pins σ H s):Env0 X.prog X.w X.K X.mg X.base X.A X.stack s H :=
  ⟨I.ok.frames,I.ok.mod,I.bs,Nat.le_trans I.ok.bsz I.sz,I.stack,I.stkFree,I.hok,I.bare⟩
theorem Inv.after(I:Inv X pins σ H s)(h:CE X.stack X.prog X.w H s Q u s'):EP X pins σ Q u s':=by
  obtain⟨v,H',os,bare,un,hok,r,q⟩:=h
  obtain⟨hh,g,d,t,os'⟩:=s'
  obtain rfl:os'=s.os:=os
  exact⟨v,H',I.call (h':=hh) (g':=g) (d':=d) (t':=t) (ch:=[]) un hok bare (fun b z=>absurd z (by simp)),r,q⟩
end
def tCall(sp:Sp)(dvs:List V)(E:XK)(t:TA):TE:=fun σ H Q=>t σ H fun vs H1=>sp (vs++dvs) H1 Q E
inductive ItMeth(C:Addr)(m:Str)(sp:Sp)(dvs:List V)(E:XK)(t:TA)(σ:St)(x:V)(H1:Hp)(Q:VK):Prop
  | mk (a dx fs) (e0:x=.ref a) (e1:H1 a=some (.ins C dx fs)) (e2:fs.lookup m=none) (e3:t σ H1 fun vs H2=>sp (x::(vs++dvs)) H2 Q E)
def tMeth(C:Addr)(m:Str)(sp:Sp)(dvs:List V)(E:XK)(ta:TE)(t:TA):TE:=fun σ H Q=>ta σ H fun x H1=>ItMeth C m sp dvs E t σ x H1 Q
def tMake(C:Addr)(sp:Sp)(dvs:List V)(E:XK)(t:TA):TE:=fun σ H Q=>t σ H fun vs H1=>∀x dx,H1 x=none→H1 dx=none→dx≠x →
  sp (.ref x::(vs++dvs)) (upd (upd H1 dx (.own x)) x (.ins C dx [])) (fun v H2=>v=.non∧Q (.ref x) H2) E
def Binds(K:PySem.W.Frag)(fd:FuncData)(ps:List Str)(ds:List Value):Prop :=
  ∀(s:Shared)(us:List Value),K.In s.heap→(us++ds).length=ps.length→BindsTo s fd ⟨us,[]⟩ (ps.zip (us++ds))
theorem Binds.all{K:PySem.W.Frag}{fd:FuncData}{ps:List Str}(h:∀us:List Value,us.length=ps.length→bindArgs fd ⟨us,[]⟩=pure (ps.zip us)):Binds K fd ps []:=fun s us _ hl=>by
  rw[List.append_nil] at hl ⊢
  exact .of_eq (h us hl)
def Passes(CX:CXT)(X:Cx)(E:XK):Prop:=∀(pins:List (Addr×Obj))(σ:St)(H:Hp)(s:Shared)(e:Value)(s':Shared),Inv X pins σ H s→CX X.stack H s E e s'→X.xe e s'
section
theorem run_fn{pins:List (Addr×Obj)}{σ:St}{H:Hp}{s:Shared}{Q:VK}{us:List Value}{vs:List V}(F:FnOk X.prog X.w X.K X.mg X.base CX k f fd ps sp)(hr:Room k X.A)(hb:Binds X.K fd ps ds)(hd:Vals dvs ds)(hx:Passes CX X E)(I:Inv X pins σ H s)(r:Vals vs us)(h:sp (vs++dvs) H Q E):wpAny (model X.prog X.w) X.A (call (.ref f) us) (EP X pins σ Q) X.xe s:=by
  have r2:Vals (vs++dvs) (us++ds):=r.append hd
  have hl:(us++ds).length=ps.length:=by rw[←r2.length];exact F.len _ _ _ _ h
  refine wpAny_call (codeAny_mono (F.run X.A X.stack s H ⟨us,[]⟩ (us++ds) (vs++dvs) Q E hr I.env0 (hb s us I.kIn hl) r2 h) fun r s' hq=>?_)
  cases r with
  | error e=>exact hx pins σ H s e s' I hq
  | ok fl =>
    cases fl with
    | ret u=>exact I.after hq
    | next=>exact False.elim hq
    | brk=>exact False.elim hq
    | cont=>exact False.elim hq
theorem pe_call(F:FnOk X.prog X.w X.K X.mg X.base CX k f fd ps sp)(hr:Room k X.A)(hg:Gl X x)(hm:X.mg x=some (.ref f))(hk:PySem.W.keepIn X.K (.ref f)=true)(hb:Binds X.K fd ps ds)(hd:Vals dvs ds)(hx:Passes CX X E)(ha:PA X (e::es) t)(hdb:(x==("__debug__":Str))=false:=by decide)(he:starEach (e::es) X.env=(false,eval e X.env)::starEach es X.env:=by rfl)(hpl:(backTo pos (starEach es X.env)).any (·.1)=false:=by rfl) :
    PE X (.Call (.Name x p) (e::es) [] pos) (tCall sp dvs E t):=by
  intro pins s σ H Q I h
  refine wpAny_Call_Name_kw (ld_glob I hg hm ?_ hdb)
  refine PySem.W.callWith_K (h₀:=X.base) I.ok.mod.kin hk (thn (ha pos pins s σ H _ I h) fun us s1 ⟨vs,H1,I1,r,q⟩=>⟨I1.kIn,?_⟩) he hpl
  exact run_fn F hr hb hd hx I1 r q
theorem pe_call0(F:FnOk X.prog X.w X.K X.mg X.base CX k f fd ps sp)(hr:Room k X.A)(hg:Gl X x)(hm:X.mg x=some (.ref f))(hk:PySem.W.keepIn X.K (.ref f)=true)(hb:Binds X.K fd ps ds)(hd:Vals dvs ds)(hx:Passes CX X E)(hdb:(x==("__debug__":Str))=false:=by decide):PE X (.Call (.Name x p) [] [] pos) (tCall sp dvs E tNil):=by
  intro pins s σ H Q I h
  refine wpAny_Call_Name_kw (ld_glob I hg hm ?_ hdb)
  exact PySem.W.callWith_K0 I.kIn hk (run_fn (us:=[]) F hr hb hd hx I .nil h)
theorem pe_meth{pl:Sem Bool}(he:PE X o ta)(c:Cls X.K C)(hm:Meth X.K C m f)(F:FnOk X.prog X.w X.K X.mg X.base CX k f fd ps sp)(hr:Room k X.A)(hb:Binds X.K fd ps ds)(hd:Vals dvs ds)(hx:Passes CX X E)(ha:PA X (e::es) t)(hst:starEach (e::es) X.env=(false,eval e X.env)::starEach es X.env:=by rfl)(hpl:(backTo pos (starEach es X.env)).any (·.1)=false:=by rfl)(ht:eval (.Call (.Attribute o m apos) (e::es) [] pos) X.env=(do
      let ov ←eval o X.env
      standAt apos.atName
      let(f,first) ←holding [ov] (getMethod ov m pl)
      callWith pos f first (backTo pos (starEach (e::es) X.env)) (backToKw pos (keywordEach [] X.env))):=by rfl) :
    PE X (.Call (.Attribute o m apos) (e::es) [] pos) (tMeth C m sp dvs E ta t):=by
  intro pins s σ H Q I h
  refine PySem.W.methodCall_KW (pl:=pl) (thn (he pins s σ H _ I h) fun u s1 ⟨x,H1,I1,rx,a,dx,fs,ex,ea,l,q⟩=>?_) ht
  subst ex
  obtain rfl:u=Value.ref a:=rx
  refine getmeth_ok I1 ea c hm l ?_
  refine PySem.W.callWith_K (first:=[.ref a]) (h₀:=X.base) I.ok.mod.kin hm.kp (thn (ha pos pins s1 σ H1 _ I1 q) fun us s2 ⟨vs,H2,I2,r,q2⟩=>⟨I2.kIn,?_⟩) hst hpl
  exact run_fn (us:=.ref a::us) (vs:=.ref a::vs) F hr hb hd hx I2 (.cons rfl r) q2
theorem pe_meth0{pl:Sem Bool}(he:PE X o ta)(c:Cls X.K C)(hm:Meth X.K C m f)(F:FnOk X.prog X.w X.K X.mg X.base CX k f fd ps sp)(hr:Room k X.A)(hb:Binds X.K fd ps ds)(hd:Vals dvs ds)(hx:Passes CX X E)(ht:eval (.Call (.Attribute o m apos) [] [] pos) X.env=(do
      let ov ←eval o X.env
      standAt apos.atName
      let(f,first) ←holding [ov] (getMethod ov m pl)
      callWith pos f first (backTo pos (starEach [] X.env)) (backToKw pos (keywordEach [] X.env))):=by rfl) :
    PE X (.Call (.Attribute o m apos) [] [] pos) (tMeth C m sp dvs E ta tNil):=by
  intro pins s σ H Q I h
  refine PySem.W.methodCall_KW (pl:=pl) (thn (he pins s σ H _ I h) fun u s1 ⟨x,H1,I1,rx,a,dx,fs,ex,ea,l,q⟩=>?_) ht
  subst ex
  obtain rfl:u=Value.ref a:=rx
  refine getmeth_ok I1 ea c hm l ?_
  exact PySem.W.callWith_K0 (first:=[.ref a]) I1.kIn hm.kp (run_fn (us:=[.ref a]) (vs:=[.ref a]) F hr hb hd hx I1 (.cons rfl .nil) q)
structure Mk(K:PySem.W.Frag)(C f:Addr):Prop where
  makes:PySem.W.makesIn K C=true
  init:PySem.W.findIn K (.ref C) "__init__"=some (some (.ref f))
  fn:PySem.W.isFn K (.ref f)=true
  kp:PySem.W.keepIn K (.ref C)=true
theorem run_make{pins:List (Addr×Obj)}{σ:St}{H:Hp}{s:Shared}{Q:VK}{us:List Value}{vs:List V}(M:Mk X.K C f)(F:FnOk X.prog X.w X.K X.mg X.base CX k f fd ps sp)(hr:Room (k+1) X.A)(hb:Binds X.K fd ps ds)(hd:Vals dvs ds)(hx:Passes CX X E)(I:Inv X pins σ H s)(r:Vals vs us)(h:∀x dx,H x=none→H dx=none→dx≠x→sp (.ref x::(vs++dvs)) (upd (upd H dx (.own x)) x (.ins C dx [])) (fun v H2=>v=.non∧Q (.ref x) H2) E) :
    wpAny (model X.prog X.w) X.A (call (.ref C) us) (EP X pins σ Q) X.xe s:=by
  have hq:=h (s.heap.objs.size+1) s.heap.objs.size (I.hok.fresh (Nat.le_succ _)) (I.hok.fresh (ZG _)) (Nat.ne_of_lt (Nat.lt_succ_self _))
  have I2:=Inv.made (C:=C) I
  have r2:Vals (V.ref (s.heap.objs.size+1)::(vs++dvs)) (Value.ref (s.heap.objs.size+1)::(us++ds)):=.cons rfl (r.append hd)
  have hl:(Value.ref (s.heap.objs.size+1)::us++ds).length=ps.length:=by
    have e:=r2.length
    rw[F.len _ _ _ _ hq] at e
    exact e.symm
  refine wpAny_call (make_map (f:=f) I.kIn M.makes M.init (beq_iff_eq.mp M.fn) (codeAny_mono (F.run _ X.stack _ _ ⟨Value.ref (s.heap.objs.size+1)::us,[]⟩ (Value.ref (s.heap.objs.size+1)::(us++ds)) _ _ E (hr.make C us [])
    (I2.env0.make C us []) (hb _ (Value.ref (s.heap.objs.size+1)::us) I2.kIn hl) r2 hq) fun r s' hq'=>?_))
  cases r with
  | error e=>exact hx pins σ _ _ e s' I2 hq'
  | ok fl =>
    cases fl with
    | ret u =>
      obtain⟨v,H',I3,rv,ev,q3⟩:=I2.after hq'
      subst ev
      exact⟨rv,⟨V.ref (s.heap.objs.size+1),H',I3,rfl,q3⟩⟩
    | next=>exact False.elim hq'
    | brk=>exact False.elim hq'
    | cont=>exact False.elim hq'
theorem pe_make(M:Mk X.K C f)(F:FnOk X.prog X.w X.K X.mg X.base CX k f fd ps sp)(hr:Room (k+1) X.A)(hg:Gl X x)(hm:X.mg x=some (.ref C))(hb:Binds X.K fd ps ds)(hd:Vals dvs ds)(hx:Passes CX X E)(ha:PA X (e::es) t)(hdb:(x==("__debug__":Str))=false:=by decide)(he:starEach (e::es) X.env=(false,eval e X.env)::starEach es X.env:=by rfl)(hpl:(backTo pos (starEach es X.env)).any (·.1)=false:=by rfl) :
    PE X (.Call (.Name x p) (e::es) [] pos) (tMake C sp dvs E t):=by
  intro pins s σ H Q I h
  refine wpAny_Call_Name_kw (ld_glob I hg hm ?_ hdb)
  refine PySem.W.callWith_K (h₀:=X.base) I.ok.mod.kin M.kp (thn (ha pos pins s σ H _ I h) fun us s1 ⟨vs,H1,I1,r,q⟩=>⟨I1.kIn,?_⟩) he hpl
  exact run_make M F hr hb hd hx I1 r q
theorem pe_make0(M:Mk X.K C f)(F:FnOk X.prog X.w X.K X.mg X.base CX k f fd ps sp)(hr:Room (k+1) X.A)(hg:Gl X x)(hm:X.mg x=some (.ref C))(hb:Binds X.K fd ps ds)(hd:Vals dvs ds)(hx:Passes CX X E)(hdb:(x==("__debug__":Str))=false:=by decide):PE X (.Call (.Name x p) [] [] pos) (tMake C sp dvs E tNil):=by
  intro pins s σ H Q I h
  refine wpAny_Call_Name_kw (ld_glob I hg hm ?_ hdb)
  exact PySem.W.callWith_K0 I.kIn M.kp (run_make (us:=[]) M F hr hb hd hx I .nil h)
end
section
end
structure FnScope(N P:List Str)(sc:Scope):Prop where
  kind:sc.kind=.function
  co:sc.isCoroutine=false
  gen:sc.isGenerator=false
  nd:N.Nodup
  pre:N.take P.length=P
  par:∀x∈P,sc.names.lookup x=some .local∨sc.names.lookup x=some .cell
  nofree:∀y∈sc.names,y.2≠.free
theorem bindL_out{kindOf:Str→Option NameKind}{x:Str}:∀{binds:List (Str×Value)} {m:Str→Option Value},(∀v,(x,v)∉binds)→bindL kindOf binds m x=m x
  | [],_,_=>rfl
  | (n,v)::r,m,h=>by
    unfold bindL
    rw[bindL_out fun w hw=>h w (ZD _ hw)]
    split
    · have:x≠n:=by rintro rfl;exact h v ZL
      simp[this]
    · rfl
theorem bindC_out{kindOf:Str→Option NameKind}{x:Str}:∀{binds:List (Str×Value)} {m:Str→Option Value},(∀v,(x,v)∉binds)→bindC kindOf binds m x=m x
  | [],_,_=>rfl
  | (n,v)::r,m,h=>by
    unfold bindC
    rw[bindC_out fun w hw=>h w (ZD _ hw)]
    split
    · rfl
    · have:x≠n:=by rintro rfl;exact h v ZL
      simp[this]
theorem bindL_get{kindOf:Str→Option NameKind}{x:Str}{v:Value}:∀{P:List Str} {vs:List Value} {i:Nat} {m:Str→Option Value},P.Nodup→P[i]?=some x→vs[i]?=some v→kindOf x=some .local →
    bindL kindOf (P.zip vs) m x=some v
  | [],_,_,_,_,h,_,_=>by simp at h
  | _::_,[],_,_,_,_,h,_=>by simp at h
  | p::P,w::vs,0,m,nd,h1,h2,hk=>by
    simp at h1 h2;subst h1;subst h2
    show bindL kindOf ((p,w)::P.zip vs) m p=_
    unfold bindL
    rw[bindL_out fun v hv=>(List.nodup_cons.mp nd).1 (List.of_mem_zip hv).1,if_pos hk]
    simp
  | p::P,w::vs,i+1,m,nd,h1,h2,hk=>by
    show bindL kindOf ((p,w)::P.zip vs) m x=_
    unfold bindL
    exact bindL_get (i:=i) (List.nodup_cons.mp nd).2 (by simpa using h1) (by simpa using h2) hk
theorem bindC_get{kindOf:Str→Option NameKind}{x:Str}{v:Value}:∀{P:List Str} {vs:List Value} {i:Nat} {m:Str→Option Value},P.Nodup→P[i]?=some x→vs[i]?=some v→kindOf x≠some .local →
    bindC kindOf (P.zip vs) m x=some v
  | [],_,_,_,_,h,_,_=>by simp at h
  | _::_,[],_,_,_,_,h,_=>by simp at h
  | p::P,w::vs,0,m,nd,h1,h2,hk=>by
    simp at h1 h2;subst h1;subst h2
    show bindC kindOf ((p,w)::P.zip vs) m p=_
    unfold bindC
    rw[bindC_out fun v hv=>(List.nodup_cons.mp nd).1 (List.of_mem_zip hv).1,if_neg hk]
    simp
  | p::P,w::vs,i+1,m,nd,h1,h2,hk=>by
    show bindC kindOf ((p,w)::P.zip vs) m x=_
    unfold bindC
    exact bindC_get (i:=i) (List.nodup_cons.mp nd).2 (by simpa using h1) (by simpa using h2) hk
def start(N:List Str)(vs:List V):St:=vs.map some++List.replicate (N.length-vs.length) none
def cxOf(CX:CXT)(P:Program)(w:World)(K:PySem.W.Frag)(mg:Str→Option Value)(base:Heap)(N:List Str)(qual:Str)(scope:Scope)(f:Addr)(cd:Value)(A:Around)(outer:List Env)(s:Shared)(H:Hp)(E:XK):Cx where
  prog:=P
  w:=w
  K:=K
  mg:=mg
  base:=base
  A:=A.deeper (envOfC qual scope s.heap.objs.size f cd)
  N:=N
  s₀:=s
  H₀:=H
  env:=envOfC qual scope s.heap.objs.size f cd
  outer:=outer
  stack:=envOfC qual scope s.heap.objs.size f cd::outer
  ex:=[]
  calm:=true
  fn:=fun _=>true
  pn:=[]
  xe:=fun e s'=>wpAny (model P w) (A.deeper (envOfC qual scope s.heap.objs.size f cd)) (leaving (envOfC qual scope s.heap.objs.size f cd) e) (fun _ s''=>CX outer H s E e s'') (fun e' s''=>CX outer H s E e' s'') s'
theorem cell_has{sc:Scope}{n:Nat}{x:Str}(h:sc.names.lookup x=some .cell):∃c,(cellsFrom n sc.names []).lookup x=some c:=by
  have q:=PySem.W.cellsFrom_some sc.names n [] (.inl h)
  exact Option.isSome_iff_exists.mp q
theorem inv_start{CX:CXT}{P:Program}{w:World}{K:PySem.W.Frag}{mg:Str→Option Value}{base:Heap}{N ps:List Str}{qual:Str}{scope:Scope}{f:Addr}{cd:Value}{A:Around}{outer:List Env}{s s1:Shared}{H:Hp}{E:XK}{us:List Value}{vs:List V}(S:FnScope N ps scope)(hd:A.handled=none)(e0:Env0 P w K mg base A outer s H)(hl:vs.length=ps.length)(r:Vals vs us)(x:InCallC s s.heap.objs.size (bindL (envOfC qual scope s.heap.objs.size f cd).kindOf (ps.zip us) fun _=>none) (cellsFrom (s.heap.objs.size+1) scope.names []) (bindC (envOfC qual scope s.heap.objs.size f cd).kindOf (ps.zip us) fun _=>none) s1) :
    Inv (cxOf CX P w K mg base N qual scope f cd A outer s H E) [] (start N vs) H s1:=by
  have hpl:ps.length≤N.length:=by have:=congrArg List.length S.pre;rw[List.length_take] at this;lia
  obtain⟨h1,tk,rfl,hk⟩:=x.done
  have noA:∀b:Addr,b∉(cxOf CX P w K mg base N qual scope f cd A outer s H E).ex:=fun b z=>absurd (show b∈([]:List Addr) from z) (by simp)
  refine⟨⟨e0.mod,S.kind,rfl,rfl,ZG _,fun y z c h1 h2=>?_,fun y hy=>?_,fun y c _ h=>?_,fun _=>hd,Around.frames_deeper e0.frames,.inr ⟨rfl,rfl⟩,fun b z=>absurd z (noA b),e0.bs,e0.bsz,fun b _ _=>noA b,fun b z=>absurd z (noA b),e0.funs,e0.frf⟩,
    rfl,e0.bare,Un.kept hk,⟨_,x.toInCall.ns,fun i y v h1 h2 h3=>?_⟩,fun y c h=>⟨_,x.cell y c h⟩,e0.hok.fresh (ZG _),fun y c h=>?_,fun p hp=>absurd (show p∈([]:List (Addr×Obj)) from hp) (by simp),e0.hok.kept hk,?_⟩
  · exact name_of_addr x.apart (PySem.mem_of_lookup h1) (PySem.mem_of_lookup h2)
  · have hy:scope.names.lookup y=some .cell∨scope.names.lookup y=some .free:=hy
    rcases hy with hy|hy
    · exact cell_has hy
    · exact absurd rfl (S.nofree _ (PySem.mem_of_lookup hy))
  · exact Nat.le_of_lt (x.above y c (PySem.mem_of_lookup h))
  · have hi:i<vs.length:=by
      unfold start at h2
      by_cases hi:i<vs.length
      · exact hi
      · rw[List.getElem?_append_right (by simpa using hi)] at h2
        rw[List.getElem?_replicate] at h2
        split at h2<;>cases h2
    have ha:vs[i]?=some v:=by
      unfold start at h2
      rw[List.getElem?_append_left (by simpa using hi),ZH] at h2
      cases e:vs[i]? with
      | none=>rw[e] at h2;cases h2
      | some a=>rw[e] at h2;cases h2;rfl
    obtain⟨u,hu,rv⟩:=r.get ha
    have hp:ps[i]?=some y:=by
      rw[←S.pre,List.getElem?_take_of_lt (by lia)];exact h1
    have ndP:ps.Nodup:=by rw[←S.pre];exact S.nd.sublist (List.take_sublist _ _)
    refine⟨u,rv,?_⟩
    rcases S.par y (ZP hp) with k|k
    · exact .inl ⟨k,bindL_get ndP hp hu k⟩
    · obtain⟨c,e⟩:=cell_has (n:=s.heap.objs.size+1) k
      refine .inr ⟨.inl k,c,e,?_⟩
      have q:=x.cell y c e
      rw[bindC_get ndP hp hu (by show scope.names.lookup y≠_;rw[k];decide)] at q
      exact q
  · exact e0.hok.fresh (Nat.le_of_lt (x.above y c (PySem.mem_of_lookup h)))
  · unfold start
    show _=N.length
    rw[ZE,ZA,List.length_replicate]
    lia
theorem fn_of{CX:CXT}{P:Program}{w:World}{K:PySem.W.Frag}{mg:Str→Option Value}{base:Heap}{k:Nat}{f:Addr}{name qual:Str}{params:Arguments}{body:List Stmt}{scope:Scope}{dV kV doc pm cdv ct oc:Value}{an od:Option Addr}{osl:Array (Option Value)}{N ps:List Str}{sp:Sp}(lk:K.lookup f=some ⟨oc,od,.func (PySem.W.fnOf name qual params body scope dV kV doc pm an cdv ct),osl⟩)(hcd:PySem.W.codeIn K cdv qual=true)(S:FnScope N ps scope)(len:∀vs H Q E,sp vs H Q E→vs.length=ps.length)(hbody:∀(A:Around) (outer:List Env) (s:Shared) (H:Hp) (vs:List V) (Q:VK) (E:XK),Room k (A.deeper (envOfC qual scope s.heap.objs.size f cdv))→sp vs H Q E →
      ∃t,PSs (cxOf CX P w K mg base N qual scope f cdv A outer s H E) body t∧t { nx:=fun _ H'=>Q .non H',rt:=Q } (start N vs) H) :
    FnOk P w K mg base CX (k+1) f (PySem.W.fnOf name qual params body scope dV kV doc pm an cdv ct) ps sp:=by
  refine⟨len,fun A outer s H args us vs Q E hr e0 hb r hsp=>?_⟩
  have hl:=len _ _ _ _ hsp
  have KX:K.In s.heap:=e0.mod.kin.keeps fun b o e=>(e0.bs b o e).1
  have lim:s.heap.NoLimit:=e0.mod.nolimit.keeps fun b o e=>(e0.bs b o e).1
  have hkind:∀y∈ps.zip us,scope.names.lookup y.1=some .local∨(scope.names.lookup y.1=some .cell∧((cellsFrom (s.heap.objs.size+1) scope.names []).lookup y.1).isSome=true):=fun⟨n,v⟩ hy=>by
    rcases S.par n (List.of_mem_zip hy).1 with q|q
    · exact .inl q
    · exact .inr ⟨q,PySem.W.cellsFrom_some _ _ _ (.inl q)⟩
  refine codeAny_call_function hr.depth (KX _ _ lk) rfl S.co S.gen rfl (PySem.W.codeRec_of KX hcd) (hb _ _ _ _ ?_)
  refine wpAny_newFunctionEnv_cells S.kind hkind fun env he s1 x=>?_
  subst he
  refine⟨lim.keeps x.toInCall.keep,codeAny_func ?_⟩
  obtain⟨t,ht,hq⟩:=hbody A outer s H vs Q E (hr.deeper _) hsp
  have I:Inv (cxOf CX P w K mg base N qual scope f cdv A outer s H E) [] (start N vs) H s1:=inv_start S hr.hd e0 hl r x
  refine wpAny_mono (ht [] s1 (start N vs) H _ I hq) (fun fl s' hs=>?_) fun e s' hs=>hs
  have fin:∀{σ':St} {H':Hp} {v:V} {u:Value},Inv (cxOf CX P w K mg base N qual scope f cdv A outer s H E) [] σ' H' s'→RelV v u→Q v H'→CE outer P w H s Q u s' :=
    fun{σ' H' v u} J rv q=>⟨v,H',J.os,J.bare,J.base,J.hok,rv,q⟩
  cases fl with
  | ret u =>
    obtain⟨v,σ',H',J,rv,q⟩:=hs
    exact fin J rv q
  | next =>
    obtain⟨σ',H',J,q⟩:=hs
    exact fin (v:=V.non) (u:=Value.none) J rfl q
  | brk =>
    obtain⟨_,_,_,q⟩:=hs
    exact False.elim q
  | cont =>
    obtain⟨_,_,_,q⟩:=hs
    exact False.elim q
end L2
namespace L2
open PySem PySem.Spec PyProof.Rows
section
variable {X:Cx}{x:Str}{p pos:Pos}{e:Expr}{es:List Expr}{t:TA}{id T:String}{r:List V→Hp→VK→Prop}
def tCB(r:List V→Hp→VK→Prop)(t:TA):TE:=fun σ H Q=>t σ H fun vs H1=>r vs H1 Q
theorem pe_callB(hc:CallR X (.builtin id) r)(hg:Gl X x)(hm:X.mg x=none)(hv:bootBuiltins x=some (.builtin id))(ha:PA X (e::es) t)(hn:x≠"__name__":=by decide)(hdb:(x==("__debug__":Str))=false:=by decide)(he:starEach (e::es) X.env=(false,eval e X.env)::starEach es X.env:=by rfl)(hpl:(backTo pos (starEach es X.env)).any (·.1)=false:=by rfl):PE X (.Call (.Name x p) (e::es) [] pos) (tCB r t):=by
  intro pins s σ H Q I h
  refine wpAny_Call_Name_kw (ld_blt I hg hm hv ?_ hn hdb)
  exact PyProof.Rows.callWith_builtin1 (thn (ha pos pins s σ H _ I h) fun us s1 ⟨vs,H1,I1,r1,q1⟩=>hc pins s1 σ H1 vs us Q I1 r1 q1) he hpl
theorem pe_callTy(hc:CallR X (.type T) r)(hg:Gl X x)(hm:X.mg x=none)(hv:bootBuiltins x=some (.type T))(ha:PA X (e::es) t)(hn:x≠"__name__":=by decide)(hdb:(x==("__debug__":Str))=false:=by decide)(he:starEach (e::es) X.env=(false,eval e X.env)::starEach es X.env:=by rfl)(hpl:(backTo pos (starEach es X.env)).any (·.1)=false:=by rfl):PE X (.Call (.Name x p) (e::es) [] pos) (tCB r t):=by
  intro pins s σ H Q I h
  refine wpAny_Call_Name_kw (ld_blt I hg hm hv ?_ hn hdb)
  exact PyProof.Rows.callWith_type1 (thn (ha pos pins s σ H _ I h) fun us s1 ⟨vs,H1,I1,r1,q1⟩=>hc pins s1 σ H1 vs us Q I1 r1 q1) he hpl
end
end L2
namespace L2
open PySem PySem.Spec PyProof.Rows
section
variable [DecidableEq κ]
def valV(kvs:List (κ×V))(k:κ):Option V:=(kvs.find? fun kv=>decide (kv.1=k)).map (·.2)
def putK(kvs:List (κ×V))(k:κ)(v:V):List (κ×V) :=
  if(kvs.any fun kv=>decide (kv.1=k))=true then kvs.map (fun kv=>if kv.1=k then(kv.1,v) else kv) else kvs++[(k,v)]
def dropK(kvs:List (κ×V))(k:κ):List (κ×V):=kvs.filter fun kv=>decide (kv.1≠k)
theorem valV_pos{p:κ×V}{r:List (κ×V)}{k:κ}(e:p.1=k):valV (p::r) k=some p.2:=by simp[valV,List.find?_cons,e]
theorem valV_neg{p:κ×V}{r:List (κ×V)}{k:κ}(e:¬p.1=k):valV (p::r) k=valV r k:=by simp[valV,List.find?_cons,e]
theorem valV_any(k:κ):∀kvs:List (κ×V),(kvs.any fun kv=>decide (kv.1=k))=(valV kvs k).isSome
  | []=>rfl
  | p::r=>by
    rw[List.any_cons]
    by_cases e:p.1=k
    · simp only[valV_pos e,decide_eq_true e,Bool.true_or,Option.isSome_some]
    · rw[valV_neg e,decide_eq_false e,Bool.false_or];exact valV_any k r
theorem length_putK(kvs:List (κ×V))(k:κ)(v:V):(putK kvs k v).length≤kvs.length+1:=by
  unfold putK
  split
  · rw[ZA];lia
  · rw[ZE,List.length_cons,List.length_nil];lia
theorem putK_new{kvs:List (κ×V)}{k:κ}(v:V)(h:valV kvs k=none):putK kvs k v=kvs++[(k,v)]:=by
  unfold putK
  rw[valV_any,h]
  exact if_neg (by decide)
theorem RelO.isSome_eq(r:RelO o u):o.isSome=u.isSome:=by
  cases o with
  | none=>cases u with
    | none=>rfl
    | some _=>exact(show False from r).elim
  | some _=>cases u with
    | none=>exact(show False from r).elim
    | some _=>rfl
theorem RelO.getD(r:RelO o u)(rd:RelV d d'):RelV (o.getD d) (u.getD d'):=by
  cases o with
  | none=>cases u with
    | none=>exact rd
    | some _=>exact(show False from r).elim
  | some _=>cases u with
    | none=>exact(show False from r).elim
    | some _=>exact r
theorem KV.val(r:KV kvs vs)(k:κ):RelO (valV kvs k) (valueAt vs k):=by
  unfold KV at r
  induction r with
  | nil=>exact True.intro
  | @cons p q ps qs h t ih =>
    obtain⟨h1,h2⟩:=h
    by_cases e:p.1=k
    · have e':q.1=k:=h1.symm.trans e
      have b:valueAt (q::qs) k=some q.2:=by simp[valueAt,List.find?_cons,e']
      rw[valV_pos e,b];exact h2
    · have e':¬q.1=k:=fun z=>e (h1.trans z)
      have b:valueAt (q::qs) k=valueAt qs k:=by simp[valueAt,List.find?_cons,e']
      rw[valV_neg e,b];exact ih
theorem KV.any(r:KV kvs vs)(k:κ):(kvs.any fun kv=>decide (kv.1=k))=vs.any fun kv=>decide (kv.1=k):=by
  unfold KV at r
  induction r with
  | nil=>rfl
  | cons h t ih=>rw[List.any_cons,List.any_cons,ih,h.1]
theorem KV.repl(r:KV kvs vs)(k:κ)(ry:RelV y u) :
    KV (kvs.map fun kv=>if kv.1=k then(kv.1,y) else kv) (vs.map fun kv=>if kv.1=k then(kv.1,u) else kv):=by
  unfold KV at r ⊢
  induction r with
  | nil=>exact .nil
  | @cons p q ps qs h t ih =>
    rw[List.map_cons,List.map_cons]
    refine .cons ?_ ih
    obtain⟨h1,h2⟩:=h
    by_cases e:p.1=k
    · rw[if_pos e,if_pos (h1.symm.trans e)];exact⟨h1,ry⟩
    · rw[if_neg e,if_neg (fun z=>e (h1.trans z))];exact⟨h1,h2⟩
theorem KV.put{kvs:List (κ×V)}{vs:List (κ×Value)}(r:KV kvs vs)(k:κ){y:V}{u:Value}(ry:RelV y u):KV (putK kvs k y) (stored vs k u):=by
  unfold putK stored
  rw[r.any k]
  by_cases e:(vs.any fun kv=>decide (kv.1=k))=true
  · rw[if_pos e,if_pos e];exact r.repl k ry
  · rw[if_neg e,if_neg e];exact Paired.snoc r ⟨rfl,ry⟩
theorem KV.drop{kvs:List (κ×V)}{vs:List (κ×Value)}(r:KV kvs vs)(k:κ):KV (dropK kvs k) (without vs k):=by
  unfold KV at r ⊢
  unfold dropK without
  induction r with
  | nil=>exact .nil
  | @cons p q ps qs h t ih =>
    obtain⟨h1,h2⟩:=h
    rw[List.filter_cons,List.filter_cons]
    by_cases e:p.1=k
    · have a:¬decide (p.1≠k)=true:=by simp[e]
      have b:¬decide (q.1≠k)=true:=by simp[h1.symm.trans e]
      rw[if_neg a,if_neg b];exact ih
    · have e':¬q.1=k:=fun z=>e (h1.trans z)
      have a:decide (p.1≠k)=true:=by simp[e]
      have b:decide (q.1≠k)=true:=by simp[e']
      rw[if_pos a,if_pos b];exact .cons ⟨h1,h2⟩ ih
theorem KV.length(r:KV kvs vs):kvs.length=vs.length:=Paired.length r
theorem dropK_le(kvs:List (κ×V))(k:κ):(dropK kvs k).length≤kvs.length:=List.length_filter_le _ _
end
theorem kV_is(r:RelV (kV k) u):(mixKind P w).is k u=true:=by
  cases k with
  | inl i=>obtain⟨t,e⟩:=(show ∃t,u=Value.int i t from r);subst e;exact mixKind_int P w i t
  | inr x=>obtain⟨t,e⟩:=(show ∃t,u=Value.str x t from r);subst e;exact mixKind_str P w x t
theorem items_are:∀{ks:List Key} {us:List Value},Vals (ks.map kV) us→ItemsAre (mixKind P w) ks us
  | [],_,r=>by rw[List.map_nil] at r;cases r;exact .nil
  | k::ks,_,r=>by
    rw[List.map_cons] at r
    cases r with
    | cons h t=>exact .cons (kV_is h) (items_are t)
abbrev KT(H:Hp):List (List Key×V)→List (List Key×Addr×Value)→Prop:=Paired fun p q=>p.1=q.1∧H q.2.1=some (.tup (p.1.map kV))∧RelV p.2 q.2.2
theorem KT.val(r:KT H kvs xs)(k:List Key):RelO (valV kvs k) ((atKey xs k).map (·.2)):=by
  induction r with
  | nil=>exact True.intro
  | @cons p q ps qs h t ih =>
    obtain⟨h1,_,h2⟩:=h
    by_cases e:p.1=k
    · have e':q.1=k:=h1.symm.trans e
      have b:atKey (q::qs) k=some q.2:=by simp[atKey,List.find?_cons,e']
      rw[valV_pos e,b];exact h2
    · have e':¬q.1=k:=fun z=>e (h1.trans z)
      have b:atKey (q::qs) k=atKey qs k:=by simp[atKey,List.find?_cons,e']
      rw[valV_neg e,b];exact ih
theorem KT.repl(r:KT H kvs xs)(k:List Key)(ry:RelV y u) :
    KT H (kvs.map fun kv=>if kv.1=k then(kv.1,y) else kv) (xs.map (putAt k u)):=by
  induction r with
  | nil=>exact .nil
  | @cons p q ps qs h t ih =>
    rw[List.map_cons,List.map_cons]
    refine .cons ?_ ih
    obtain⟨h1,h2,h3⟩:=h
    unfold putAt
    by_cases e:p.1=k
    · rw[if_pos e,if_pos (h1.symm.trans e)];exact⟨h1,h2,ry⟩
    · rw[if_neg e,if_neg (fun z=>e (h1.trans z))];exact⟨h1,h2,h3⟩
theorem KT.put{H:Hp}{kvs:List (List Key×V)}{xs:List (List Key×Addr×Value)}(r:KT H kvs xs)(k:List Key){b:Addr}{y:V}{u:Value}(hb:H b=some (.tup (k.map kV)))(ry:RelV y u) :
    KT H (putK kvs k y) (storedH xs k b u):=by
  have e:(kvs.any fun kv=>decide (kv.1=k))=(atKey xs k).isSome:=by
    rw[valV_any,(r.val k).isSome_eq,Option.isSome_map]
  unfold putK storedH
  rw[e]
  by_cases q:(atKey xs k).isSome=true
  · rw[if_pos q,if_pos q];exact r.repl k ry
  · rw[if_neg q,if_neg q];exact Paired.snoc r ⟨rfl,hb,ry⟩
theorem KT.keeps(r:KT H kvs xs)(ht:∀b ys,H b=some (.tup ys)→H' b=some (.tup ys)):KT H' kvs xs :=
  Paired.mapP r fun _ _ z=>⟨z.1,ht _ _ z.2.1,z.2.2⟩
section
theorem rd_of(ok:HOk P w H h)(e:Rd H a u):ObjOk P w H h a u:=e.ok ok
theorem dk_rd(ok:HOk P w H h)(e:Rd H a (.dK kvs)):kvs.length≤sizeLine∧(a==sysModules)=false∧∃vs,KV kvs vs∧h.DictOf (mixKind P w) a vs :=
  show ObjOk P w H h a (.dK kvs) from rd_of ok e
theorem dk_of(ok:HOk P w H h)(e:H a=some (.dK kvs)):kvs.length≤sizeLine∧(a==sysModules)=false∧∃vs,KV kvs vs∧h.DictOf (mixKind P w) a vs:=dk_rd ok (.inl e)
theorem key_of(ok:HOk P w H h)(e:H a=some (.tup (ks.map kV))):(tupleKind (mixKind P w)).is h ks a:=by
  obtain⟨_,its,r,o,h1,h2,n,h3⟩:=(show ObjOk P w H h a (.tup (ks.map kV)) from ok a _ e)
  exact⟨o,its.toArray,n,h1,h2,h3,by simpa using items_are r⟩
theorem dt_rd(ok:HOk P w H h)(e:Rd H a (.dT kvs)):kvs.length≤sizeLine∧(a==sysModules)=false ∧
    ∃xs,KT H kvs xs∧h.DictOfH (tupleKind (mixKind P w)) a xs:=by
  obtain⟨z,y,xs,r,o,es,ep,h1,h2,h3,h4,h5⟩:=(show ObjOk P w H h a (.dT kvs) from rd_of ok e)
  refine⟨z,y,xs,r,o,es,ep,h1,h2,h3,h4,fun x hx=>?_,h5⟩
  have all:∀{l:List (List Key×V)} {m:List (List Key×Addr×Value)},KT H l m→∀x∈m,(tupleKind (mixKind P w)).is h x.1 x.2.1:=by
    intro l m q
    induction q with
    | nil=>intro x hx;exact nomatch hx
    | @cons p q ps qs hq t ih =>
      intro x hx
      rcases ZM hx with e|hx
      · subst e
        exact key_of ok (by rw[←hq.1];exact hq.2.1)
      · exact ih x hx
  exact all r x hx
theorem dt_of(ok:HOk P w H h)(e:H a=some (.dT kvs)):kvs.length≤sizeLine∧(a==sysModules)=false ∧
    ∃xs,KT H kvs xs∧h.DictOfH (tupleKind (mixKind P w)) a xs:=dt_rd ok (.inl e)
end
def DGet(H:Hp)(a:Addr)(y:V)(r:Option V):Prop :=
  (∃kvs k,Rd H a (.dK kvs)∧y=kV k∧r=valV kvs k)∨∃kvs k b,Rd H a (.dT kvs)∧y=.ref b∧H b=some (.tup (k.map kV))∧r=valV kvs k
def DPut(H:Hp)(a:Addr)(y v:V)(H':Hp):Prop :=
  (∃kvs k,H a=some (.dK kvs)∧y=kV k∧kvs.length<sizeLine∧H'=upd H a (.dK (putK kvs k v))) ∨
  ∃kvs k b,H a=some (.dT kvs)∧y=.ref b∧H b=some (.tup (k.map kV))∧kvs.length<sizeLine∧H'=upd H a (.dT (putK kvs k v))
theorem DGet.k{H:Hp}{a:Addr}{kvs:List (Key×V)}{k:Key}(e:H a=some (.dK kvs)):DGet H a (kV k) (valV kvs k):=.inl ⟨kvs,k,.inl e,rfl,rfl⟩
theorem DGet.t{H:Hp}{a b:Addr}{kvs:List (List Key×V)}{k:List Key}(e:H a=some (.dT kvs))(eb:H b=some (.tup (k.map kV))):DGet H a (.ref b) (valV kvs k):=.inr ⟨kvs,k,b,.inl e,rfl,eb,rfl⟩
theorem DPut.k{H:Hp}{a:Addr}{kvs:List (Key×V)}{k:Key}{v:V}(e:H a=some (.dK kvs))(hl:kvs.length<sizeLine):DPut H a (kV k) v (upd H a (.dK (putK kvs k v))):=.inl ⟨kvs,k,e,rfl,hl,rfl⟩
theorem DPut.t{H:Hp}{a b:Addr}{kvs:List (List Key×V)}{k:List Key}{v:V}(e:H a=some (.dT kvs))(eb:H b=some (.tup (k.map kV)))(hl:kvs.length<sizeLine) :
    DPut H a (.ref b) v (upd H a (.dT (putK kvs k v))):=.inr ⟨kvs,k,b,e,rfl,eb,hl,rfl⟩
section
theorem Inv.big(I:Inv X pins σ H s):sysModules<s.heap.objs.size:=by
  have h:mainGlobals<s.heap.objs.size:=(I.mod.glob.keeps I.bk).lt
  exact Nat.lt_trans (by decide) h
theorem d_getItem(hu:A.units+1<cLine)(I:Inv X pins σ H s)(g:DGet H a y (some v))(ry:RelV y u)(h:∀w' s',Inv X pins σ H s'→RelV v w'→Q w' s') :
    wpAny (model X.prog X.w) A (getItem (.ref a) u) Q E s:=by
  rcases g with⟨kvs,k,e,ey,l⟩|⟨kvs,k,b,e,ey,eb,l⟩
  · subst ey
    obtain⟨z,hd,vs,rel,dd⟩:=dk_rd I.hok e
    obtain⟨w',hw,rw'⟩:=RelO.some_of (v:=v) (o:=valueAt vs k) (by rw[l];exact rel.val k)
    exact wpAny_getItem_of (kV_is ry) dd.mapOf hw (h w' _ (I.tok _) rw')
  · subst ey
    cases (show u=Value.ref b from ry)
    obtain⟨z,hd,xs,rel,dd⟩:=dt_rd I.hok e
    obtain⟨w',hw,rw'⟩:=RelO.some_of (v:=v) (o:=(atKey xs k).map (·.2)) (by rw[l];exact rel.val k)
    obtain⟨p,hp,hp2⟩:=Option.map_eq_some_iff.mp hw
    refine wpAny_getItem_heap (tupleKind_room_in1 hu) (key_of I.hok eb) dd hp ?_
    rw[hp2]
    exact h w' _ (I.tok _) rw'
theorem d_notIn(hu:A.units+1<cLine)(I:Inv X pins σ H s)(g:DGet H a y o)(ry:RelV y u)(h:∀s',Inv X pins σ H s'→Q (.bool (!o.isSome)) s') :
    wpAny (model X.prog X.w) A (compareOp .NotIn u (.ref a)) Q E s:=by
  rcases g with⟨kvs,k,e,ey,l⟩|⟨kvs,k,b,e,ey,eb,l⟩
  · subst ey
    obtain⟨z,hd,vs,rel,dd⟩:=dk_rd I.hok e
    refine wpAny_notIn_of (kV_is ry) hd dd.mapOf ?_
    rw[←(rel.val k).isSome_eq,←l]
    exact h _ (I.tok _)
  · subst ey
    cases (show u=Value.ref b from ry)
    obtain⟨z,hd,xs,rel,dd⟩:=dt_rd I.hok e
    refine wpAny_notIn_heap (tupleKind_room_in1 hu) (key_of I.hok eb) hd dd ?_
    have q:=(rel.val k).isSome_eq
    rw[Option.isSome_map] at q
    rw[←q,←l]
    exact h _ (I.tok _)
theorem d_write(I:Inv X pins σ H s)(mu:Mut (H a))(hs:Heap.SameBut a s.heap h')(he:∃q,h'.get? a=some q)(new:ObjOk X.prog X.w (upd H a ob) h' a ob) :
    Inv X pins σ (upd H a ob) { s with heap:=h',toks:=t' } :=
  I.write (x:=a) (e:=a) mu (.inl rfl) (fun b q hb z=>(hs.2 b hb).trans z) he new
theorem dk_new(z:kvs.length≤sizeLine)(hd:(a==sysModules)=false)(rel:KV kvs vs)(dd:h'.DictOf (mixKind P w) a vs) :
    ObjOk P w H' h' a (.dK kvs):=⟨z,hd,vs,rel,dd⟩
theorem d_setItem{H':Hp}{Q:Unit→Shared→Prop}(hu:A.units+1<cLine)(I:Inv X pins σ H s)(g:DPut H a y v H')(ry:RelV y u)(rv:RelV v r)(h:∀s',Inv X pins σ H' s'→Q () s') :
    wpAny (model X.prog X.w) A (setItem (.ref a) u r) Q E s:=by
  rcases g with⟨kvs,k,e,ey,l,eH⟩|⟨kvs,k,b,e,ey,eb,l,eH⟩
  · subst ey eH
    obtain⟨z,hd,vs,rel,dd⟩:=dk_of I.hok e
    have hz:vs.length≤sizeLine:=by rw[←rel.length];exact z
    have hl:(putK kvs k v).length≤sizeLine:=by have:=length_putK kvs k v;lia
    refine wpAny_setItem_pairs (hsz:=hz) (kV_is ry) dd fun h' dd' hs=>h _ ?_
    have he:∃q,h'.get? a=some q:=let⟨q,_,_,hq,_⟩:=dd';⟨q,hq⟩
    exact d_write I (by rw[e];exact True.intro) hs he (dk_new hl hd (rel.put k rv) dd')
  · subst ey eH
    cases (show u=Value.ref b from ry)
    obtain⟨z,hd,xs,rel,dd⟩:=dt_of I.hok e
    have hz:xs.length≤sizeLine:=by rw[←Paired.length rel];exact z
    have hl:(putK kvs k v).length≤sizeLine:=by have:=length_putK kvs k v;lia
    refine wpAny_setItem_heap (hsz:=hz) (tupleKind_room_in1 hu) (key_of I.hok eb) dd fun h' dd' hs=>h _ ?_
    obtain⟨q,es,ep,hq,h2,h3,h4,_,h5⟩:=dd'
    refine d_write I (by rw[e];exact True.intro) hs ⟨q,hq⟩ ⟨hl,hd,_,(rel.put k eb rv).keeps fun c ys ec=>?_,q,es,ep,hq,h2,h3,h4,h5⟩
    rw[upd_ne (ne_of ec e (fun z=>nomatch z))]
    exact ec
end
section
theorem d_pop(I:Inv X pins σ H s)(e:H a=some (.dK kvs))(ry:RelV (kV k) u)(l:valV kvs k=some v)(hm:more=[]∨∃x,more=[x])(h:∀w' s',Inv X pins σ (upd H a (.dK (dropK kvs k))) s'→RelV v w'→Q w' s'):wpAny (model X.prog X.w) A (call (.builtin "dict.pop") (.ref a::u::more)) Q E s:=by
  obtain⟨z,hd,vs,rel,dd⟩:=dk_of I.hok e
  obtain⟨w',hw,rw'⟩:=RelO.some_of (v:=v) (o:=valueAt vs k) (by rw[←l];exact rel.val k)
  have hp:(keyPart u).isSome=true:=by
    cases k with
    | inl i=>obtain⟨t,q⟩:=(show ∃t,u=Value.int i t from ry);subst q;rfl
    | inr x=>obtain⟨t,q⟩:=(show ∃t,u=Value.str x t from ry);subst q;rfl
  have ha:argsOk "dict.pop" ⟨.ref a::u::more,[]⟩:=by
    rcases hm with q|⟨x,q⟩
    · subst q;exact PySem.F.args_dict_pop_2 _ _
    · subst q;exact PySem.F.args_dict_pop_3 _ _ _
  refine call_meetsIn PySem.F.slot_dict_pop dd.typeIs PySem.F.entry_dict_pop ha (meets_dict_pop_there (mixKind X.prog X.w) a (kV_is ry) more hm hp)
    ⟨vs,w',dd,by rw[←rel.length];exact z,hw,fun h' dd' hs=>h w' _ ?_ rw'⟩
  have he:∃q,h'.get? a=some q:=let⟨q,_,_,hq,_⟩:=dd';⟨q,hq⟩
  exact d_write I (by rw[e];exact True.intro) hs he (dk_new (Nat.le_trans (dropK_le kvs k) z) hd (rel.drop k) dd')
theorem d_len(I:Inv X pins σ H s)(e:Rd H a (.dK kvs))(h:∀t s',Inv X pins σ H s'→Q (.int kvs.length t) s'):wpAny (model X.prog X.w) A (call (.builtin "len") [.ref a]) Q E s:=by
  obtain⟨z,hd,vs,rel,dd⟩:=dk_rd I.hok e
  refine call_len_dict hd dd (by rw[←rel.length];rw[sizeLine_eq] at z;lia) ?_
  rw[←rel.length]
  exact h _ _ (I.tok _)
end
def NoSl(i:Expr):Prop:=∀ov iv,subscripted i false ov iv=operate [ov,iv] (getItem ov iv)
theorem subD_of{prog:Program}{w:World}{A:Around}{E:Value→Shared→Prop}{s:Shared}{env:Env}{value slice:Expr}{pos:Pos}{T id:String}{Q:Value→Shared→Prop}(hl:typeLookup (.type T) "__getitem__"=pure (some (.builtin id)))(hs:NoSl slice)(h:wpAny (model prog w) A (eval value env) (fun o s₁=>wpAny (model prog w) A (eval slice env) (fun i s₂=>s₂.TypeIs o T∧wpAny (model prog w) A (getItem o i) Q E s₂) E s₁) E s) :
    wpAny (model prog w) A (eval (.Subscript value slice pos) env) Q E s:=by
  refine Subscript_ (wpAny_mono h (fun o s₁ h₁=>wpAny_mono h₁ (fun i s₂ h₂=>?_) fun _ _ x=>x) fun _ _ x=>x)
  obtain⟨hT,h₂⟩:=h₂
  unfold subscriptTail
  refine wpAny_bind ?_
  rw[getitemInPython_of_ne hT.not_modules]
  refine wpAny_bind (wpAny_specialOf hT hl ?_)
  have fin:wpAny (model prog w) A (subscripted slice false o i) (fun r s₃=>wpAny (model prog w) A (letTemporaryGo value o r >>= fun _=>pure r) Q E s₃) E s₂:=by
    rw[hs o i]
    exact wpAny_operating (wpAny_mono h₂ (fun r s₃ h₃=>wpAny_bind (wpAny_letTemporaryGo (wpAny_pure h₃))) fun _ _ x=>x)
  first
    | exact wpAny_pure (wpAny_bind fin)
    | exact wpAny_bind (wpAny_pure (wpAny_bind fin))
    | exact wpAny_bind fin
theorem dict_typeIs(I:Inv X pins σ H s)(g:DGet H a y o):s.TypeIs (.ref a) "dict":=by
  rcases g with⟨kvs,k,e,_,_⟩|⟨kvs,k,b,e,_,_,_⟩
  · obtain⟨_,_,vs,_,dd⟩:=dk_rd I.hok e
    exact dd.typeIs
  · obtain⟨_,_,xs,_,dd⟩:=dt_rd I.hok e
    exact dd.typeIs
inductive ItDGet  (x:V) (y:V) (H2:Hp) (Q:VK):Prop
  | mk (a v) (e0:x=.ref a) (e1:DGet H2 a y (some v)) (e2:Q v H2)
def tDGet(td ty:TE):TE:=fun σ H Q=>td σ H fun x H1=>ty σ H1 fun y H2=>ItDGet  x y H2 Q
inductive ItDNotIn  (x:V) (y:V) (H2:Hp) (Q:VK):Prop
  | mk (a o) (e0:x=.ref a) (e1:DGet H2 a y o) (e2:Q (.bl (!o.isSome)) H2)
def tDNotIn(ty td:TE):TE:=fun σ H Q=>ty σ H fun y H1=>td σ H1 fun x H2=>ItDNotIn  x y H2 Q
inductive IsDPut  (x:V) (y:V) (v:V) (H3:Hp) (σ:St) (D:Ends):Prop
  | mk (a H4) (e0:x=.ref a) (e1:DPut H3 a y v H4) (e2:D.nx σ H4)
def sDPut(td ty tv:TE):TS:=fun D σ H=>tv σ H fun v H1=>td σ H1 fun x H2=>ty σ H2 fun y H3=>IsDPut  x y v H3 σ D
def sDAug(td ty tv:TE)(rd:V→V→Hp→VK→Prop):TS:=fun D σ H=>td σ H fun x H1=>ty σ H1 fun y H2=>∃a v,x=.ref a∧DGet H2 a y (some v) ∧
  tv σ H2 fun y2 H3=>rd v y2 H3 fun z H4=>∃H5,DPut H4 a y z H5∧D.nx σ H5
section
theorem pe_dget(hu:X.A.units+1<cLine)(ho:PE X o td)(hi:PE X i ty)(hs:NoSl i):PE X (.Subscript o i pos) (tDGet td ty):=by
  intro pins s σ H Q I h
  refine subD_of PySem.F.slot_dict_getitem.lookup hs (thn (ho pins s σ H _ I h) fun u s1 ⟨x,H1,I1,rx,q1⟩=>thn (hi pins s1 σ H1 _ I1 q1) fun iv s2 ⟨y,H2,I2,ry,a,v,ex,g,q2⟩=>?_)
  subst ex
  obtain rfl:u=Value.ref a:=rx
  exact⟨dict_typeIs I2 g,d_getItem hu I2 g ry fun w' s3 I3 rw'=>⟨v,H2,I3,rw',q2⟩⟩
theorem pc_dnotin(hu:X.A.units+1<cLine)(hi:PE X i ty)(ho:PE X o td):PC X .NotIn i o (tDNotIn ty td):=by
  intro pins s σ H Q I h
  refine thn (hi pins s σ H _ I h) fun iv s1 ⟨y,H1,I1,ry,q1⟩=>thn (ho pins s1 σ H1 _ I1 q1) ?_
  rintro u s2 ⟨x,H2,I2,rx,a,ov,ex,g,q2⟩
  subst ex
  obtain rfl:u=Value.ref a:=rx
  exact d_notIn hu I2 g ry fun s3 I3=>⟨.bl (!ov.isSome),H2,I3,rfl,q2⟩
theorem ps_dput(hu:X.A.units+1<cLine)(ho:PE X o td)(hi:PE X i ty)(hv:PE X value tv)(hs:swapsWith value (some (.Subscript o i pos')) pos.line X.env=pure false) :
    PS X (.Assign [.Subscript o i pos'] value pos) (sDPut td ty tv):=by
  intro pins s σ H D I h
  refine wpAny_Assign_Subscript (thn (hv pins s σ H _ I h) fun r s1 ⟨v,H1,I1,rv,q1⟩=>thn (ho pins s1 σ H1 _ I1 q1) fun u s2 ⟨x,H2,I2,rx,q2⟩=>thn (hi pins s2 σ H2 _ I2 q2) fun iv s3 ⟨y,H3,I3,ry,a,H4,ex,g,q3⟩=>?_) hs
  subst ex
  obtain rfl:u=Value.ref a:=rx
  exact d_setItem hu I3 g ry rv fun s4 I4=>⟨σ,H4,I4,q3⟩
theorem ps_daug(hu:X.A.units+1<cLine)(ho:PE X o td)(hi:PE X i ty)(hv:PE X value tv)(hop:InOp X op rd)(ha:∀ov iv new,augStore i ov iv new=(do holding [new,ov,iv] (setItem ov iv new);release [new,ov,iv] [];pure .next)):PS X (.AugAssign (.Subscript o i tpos) op value pos) (sDAug td ty tv rd):=by
  intro pins s σ H D I h
  refine wpAny_AugAssign_SubscriptAny (thn (ho pins s σ H _ I h) fun u s1 ⟨x,H1,I1,rx,q1⟩=>thn (hi pins s1 σ H1 _ I1 q1) fun iv s2 ⟨y,H2,I2,ry,a,v,ex,g,q2⟩=>?_) ha
  subst ex
  obtain rfl:u=Value.ref a:=rx
  refine d_getItem hu I2 g ry fun w' s3 I3 rw'=>thn (hv pins s3 σ H2 _ I3 q2) fun w2 s4 ⟨y2,H3,I4,ry2,q3⟩=>thn (hop pins s4 σ H3 v y2 w' w2 _ I4 rw' ry2 q3) ?_
  rintro w3 s5 ⟨z,H4,I5,rz,H5,g5,q4⟩
  exact d_setItem hu I5 g5 ry rz fun s6 I6=>⟨σ,H5,I6,q4⟩
end
theorem dk_empty(h:Heap)(hb:sysModules<h.objs.size):ObjOk P w H (h.push { cls:=.type "dict",data:=.dict #[] }) h.objs.size (.dK []) :=
  ⟨Nat.zero_le _,beq_eq_false_iff_ne.mpr (Ne.symm (Nat.ne_of_lt hb)),[],.nil,Heap.DictOf.new h⟩
theorem dt_empty(h:Heap)(hb:sysModules<h.objs.size):ObjOk P w H (h.push { cls:=.type "dict",data:=.dict #[] }) h.objs.size (.dT []) :=
  ⟨Nat.zero_le _,beq_eq_false_iff_ne.mpr (Ne.symm (Nat.ne_of_lt hb)),[],.nil,_,#[],0,Heap.get?_push_size _ rfl,⟨rfl,rfl,rfl⟩,rfl,rfl,List.nodup_nil⟩
def tDNewK:TE:=fun _ H Q=>∀p,H p=none→Q (.ref p) (upd H p (.dK []))
def tDNewT:TE:=fun _ H Q=>∀p,H p=none→Q (.ref p) (upd H p (.dT []))
section
theorem pe_dnewK:PE X (.Dict [] [] pos) tDNewK:=fun pins s σ H Q I h =>
  wpAny_Dict_empty ⟨.ref s.heap.objs.size,_,I.laid (a:=s.heap.objs.size) (o:=.dK []) (t':=s.toks) (fun _ _ q=>Heap.get?_push_of_some _ q) (ZG _) (dk_empty s.heap I.big),rfl,h _ (I.hok.fresh (ZG _))⟩
theorem pe_dnewT:PE X (.Dict [] [] pos) tDNewT:=fun pins s σ H Q I h =>
  wpAny_Dict_empty ⟨.ref s.heap.objs.size,_,I.laid (a:=s.heap.objs.size) (o:=.dT []) (t':=s.toks) (fun _ _ q=>Heap.get?_push_of_some _ q) (ZG _) (dt_empty s.heap I.big),rfl,h _ (I.hok.fresh (ZG _))⟩
end
abbrev VV:List (V×V)→List (Value×Value)→Prop:=Paired fun p q=>RelV p.1 q.1∧RelV p.2 q.2
structure M1(X:Cx)(o:Expr)(m:Str)(apos:Pos)(e:Expr)(cpos:Pos):Prop where
  base:attributeBase o m X.env (eval o X.env)=eval o X.env
  few:((backTo cpos (starEach [e] X.env)).all (fun x=>!x.1)&&(backToKw cpos (keywordEach [] X.env)).all (fun x=>x.1.isSome)
    && decide (([e]:List Expr).length+([]:List Keyword).length+(if([]:List Keyword).isEmpty then 0 else 1)<30))=true
  line:(apos.endLine==cpos.line)=true
  trees:backTo cpos (starEach [e] X.env)=[(false,eval e X.env)]
structure M2(X:Cx)(o:Expr)(m:Str)(apos:Pos)(e f:Expr)(cpos:Pos):Prop where
  base:attributeBase o m X.env (eval o X.env)=eval o X.env
  few:((backTo cpos (starEach [e,f] X.env)).all (fun x=>!x.1)&&(backToKw cpos (keywordEach [] X.env)).all (fun x=>x.1.isSome)
    && decide (([e,f]:List Expr).length+([]:List Keyword).length+(if([]:List Keyword).isEmpty then 0 else 1)<30))=true
  line:(apos.endLine==cpos.line)=true
  trees:backTo cpos (starEach [e,f] X.env)=[(false,eval e X.env),(false,eval f X.env)]
def IsD(H:Hp)(a:Addr):Prop:=(∃kvs,Rd H a (.dK kvs))∨∃kvs,Rd H a (.dT kvs)
theorem isD_at(I:Inv X pins σ H s)(d:IsD H a) :
    s.TypeIs (.ref a) "dict"∧(∀b,Value.ref a=.ref b→∃ob,s.heap.get? b=some ob∧ob.dict=none)∧(a==sysModules)=false:=by
  rcases d with⟨kvs,e⟩|⟨kvs,e⟩
  · obtain⟨_,hd,vs,_,dd⟩:=dk_rd I.hok e
    refine⟨dd.typeIs,fun b q=>?_,hd⟩
    cases q
    obtain⟨ob,_,_,h1,h2,_⟩:=dd
    exact⟨ob,h1,h2.2.1⟩
  · obtain⟨_,hd,xs,_,dd⟩:=dt_rd I.hok e
    refine⟨dd.typeIs,fun b q=>?_,hd⟩
    cases q
    obtain⟨ob,_,_,h1,h2,_⟩:=dd
    exact⟨ob,h1,h2.2.1⟩
section
theorem d_get1(hu:A.units+1<cLine)(I:Inv X pins σ H s)(g:DGet H a y o)(ry:RelV y u)(h:∀w' s',Inv X pins σ H s'→RelV (o.getD .non) w'→Q w' s') :
    wpAny (model X.prog X.w) A (call (.builtin "dict.get") [.ref a,u]) Q E s:=by
  rcases g with⟨kvs,k,e,ey,l⟩|⟨kvs,k,b,e,ey,eb,l⟩
  · subst ey
    obtain⟨z,hd,vs,rel,dd⟩:=dk_rd I.hok e
    refine call_meetsIn PySem.F.slot_dict_get dd.typeIs PySem.F.entry_dict_get (PySem.F.args_dict_get_2 _ _) (meets_dict_get (mixKind X.prog X.w) a (kV_is ry) hd) ⟨_,dd.mapOf,h _ _ (I.tok _) ?_⟩
    rw[l]
    exact(rel.val k).getD rfl
  · subst ey
    cases (show u=Value.ref b from ry)
    obtain⟨z,hd,xs,rel,dd⟩:=dt_rd I.hok e
    refine call_meetsIn PySem.F.slot_dict_get dd.typeIs PySem.F.entry_dict_get (PySem.F.args_dict_get_2 _ _) (meetsH_dict_get (tupleKind (mixKind X.prog X.w)) a b hd) ⟨tupleKind_room_in1 hu,k,xs,key_of I.hok eb,dd,h _ _ (I.tok _) ?_⟩
    rw[l]
    exact(rel.val k).getD rfl
theorem d_get2(hu:A.units+1<cLine)(I:Inv X pins σ H s)(g:DGet H a y o)(ry:RelV y u)(rd:RelV d r)(h:∀w' s',Inv X pins σ H s'→RelV (o.getD d) w'→Q w' s') :
    wpAny (model X.prog X.w) A (call (.builtin "dict.get") [.ref a,u,r]) Q E s:=by
  rcases g with⟨kvs,k,e,ey,l⟩|⟨kvs,k,b,e,ey,eb,l⟩
  · subst ey
    obtain⟨z,hd,vs,rel,dd⟩:=dk_rd I.hok e
    refine call_meetsIn PySem.F.slot_dict_get dd.typeIs PySem.F.entry_dict_get (PySem.F.args_dict_get_3 _ _ _) (meets_dict_get_default (mixKind X.prog X.w) a (kV_is ry) hd r) ⟨_,dd.mapOf,h _ _ (I.tok _) ?_⟩
    rw[l]
    exact(rel.val k).getD rd
  · subst ey
    cases (show u=Value.ref b from ry)
    obtain⟨z,hd,xs,rel,dd⟩:=dt_rd I.hok e
    refine call_meetsIn PySem.F.slot_dict_get dd.typeIs PySem.F.entry_dict_get (PySem.F.args_dict_get_3 _ _ _) (meetsH_dict_get_default (tupleKind (mixKind X.prog X.w)) a b hd r) ⟨tupleKind_room_in1 hu,k,xs,key_of I.hok eb,dd,h _ _ (I.tok _) ?_⟩
    rw[l]
    exact(rel.val k).getD rd
end
def tDGet1(td ty:TE):TE:=fun σ H Q=>td σ H fun x H1=>∃a,x=.ref a∧IsD H1 a∧ty σ H1 fun y H2=>∃o,DGet H2 a y o∧Q (o.getD .non) H2
inductive ItDGet2(ty tx:TE)(x:V)(H1:Hp)(σ:St)(Q:VK):Prop
  | mk (a) (e0:x=.ref a) (e1:IsD H1 a) (e2:ty σ H1 fun y H2=>tx σ H2 fun z H3=>∃o,DGet H3 a y o∧Q (o.getD z) H3)
def tDGet2(td ty tx:TE):TE:=fun σ H Q=>td σ H fun x H1=>ItDGet2 ty tx x H1 σ Q
def tDPop1(td ty:TE):TE:=fun σ H Q=>td σ H fun x H1=>∃a,x=.ref a∧IsD H1 a∧ty σ H1 fun y H2=>∃kvs k v,H2 a=some (.dK kvs)∧y=kV k∧valV kvs k=some v∧Q v (upd H2 a (.dK (dropK kvs k)))
section
theorem pe_dget1(hu:X.A.units+1<cLine)(ho:PE X o td)(he:PE X e ty)(m:M1 X o "get" apos e cpos):PE X (.Call (.Attribute o "get" apos) [e] [] cpos) (tDGet1 td ty):=by
  intro pins s σ H Q I h
  refine wpAny_Call_method m.base m.few m.line PySem.F.plainAttrs_dict PySem.F.slot_dict_get PySem.F.type_dict_get (thn (ho pins s σ H _ I h) fun u s1 ⟨x,H1,I1,rx,a,ex,d,q1⟩=>?_)
  subst ex
  obtain rfl:u=Value.ref a:=rx
  obtain⟨t1,t2,_⟩:=isD_at I1 d
  refine⟨t1,t2,?_⟩
  rw[m.trees]
  refine Calls.callWith_builtin rfl (Calls.evalArgs_plain (Calls.spliced_cons (thn (he pins s1 σ H1 _ I1 q1) fun iv s2 ⟨y,H2,I2,ry,ov,g,q2⟩=>Calls.spliced_nil ?_)))
  exact d_get1 hu I2 g ry fun w' s3 I3 rw'=>⟨_,H2,I3,rw',q2⟩
theorem pe_dget2(hu:X.A.units+1<cLine)(ho:PE X o td)(he:PE X e ty)(hf:PE X f tx)(m:M2 X o "get" apos e f cpos):PE X (.Call (.Attribute o "get" apos) [e,f] [] cpos) (tDGet2 td ty tx):=by
  intro pins s σ H Q I h
  refine wpAny_Call_method m.base m.few m.line PySem.F.plainAttrs_dict PySem.F.slot_dict_get PySem.F.type_dict_get (thn (ho pins s σ H _ I h) fun u s1 ⟨x,H1,I1,rx,a,ex,d,q1⟩=>?_)
  subst ex
  obtain rfl:u=Value.ref a:=rx
  obtain⟨t1,t2,_⟩:=isD_at I1 d
  refine⟨t1,t2,?_⟩
  rw[m.trees]
  refine Calls.callWith_builtin rfl (Calls.evalArgs_plain (Calls.spliced_cons (thn (he pins s1 σ H1 _ I1 q1) fun iv s2 ⟨y,H2,I2,ry,q2⟩ =>
    Calls.spliced_cons (thn (hf pins s2 σ H2 _ I2 q2) fun fv s3 ⟨z,H3,I3,rz,ov,g,q3⟩=>Calls.spliced_nil ?_))))
  exact d_get2 hu I3 g ry rz fun w' s4 I4 rw'=>⟨_,H3,I4,rw',q3⟩
theorem pe_dpop1(ho:PE X o td)(he:PE X e ty)(m:M1 X o "pop" apos e cpos):PE X (.Call (.Attribute o "pop" apos) [e] [] cpos) (tDPop1 td ty):=by
  intro pins s σ H Q I h
  refine wpAny_Call_method m.base m.few m.line PySem.F.plainAttrs_dict PySem.F.slot_dict_pop PySem.F.type_dict_pop (thn (ho pins s σ H _ I h) fun u s1 ⟨x,H1,I1,rx,a,ex,d,q1⟩=>?_)
  subst ex
  obtain rfl:u=Value.ref a:=rx
  obtain⟨t1,t2,_⟩:=isD_at I1 d
  refine⟨t1,t2,?_⟩
  rw[m.trees]
  refine Calls.callWith_builtin rfl (Calls.evalArgs_plain (Calls.spliced_cons (thn (he pins s1 σ H1 _ I1 q1) fun iv s2 ⟨y,H2,I2,ry,kvs,k,v,ea,ey,l,q2⟩=>Calls.spliced_nil ?_)))
  subst ey
  exact d_pop I2 ea ry l (.inl rfl) fun w' s3 I3 rw'=>⟨v,_,I3,rw',q2⟩
end
section
variable {X:Cx}{pins:List (Addr×Obj)}{σ:St}{H:Hp}{s:Shared}{a:Addr}{kvs:List (Key×V)}{A:Around}{E:Value→Shared→Prop}
end
section
variable {X:Cx}{pins:List (Addr×Obj)}{σ:St}{H:Hp}{s:Shared}{a:Addr}{y:V}{u:Value}{A:Around}{E:Value→Shared→Prop}
end
end L2
namespace HT
open PySem PyProof.Rows
def lexLt:List Int→List Int→Bool
  | [],[]=>false
  | [],_::_=>true
  | _::_,[]=>false
  | x::xs,y::ys=>if x=y then lexLt xs ys else decide (x<y)
theorem lexLt_cons(x y:Int)(xs ys:List Int):lexLt (x::xs) (y::ys)=if x=y then lexLt xs ys else decide (x<y):=rfl
theorem lexLt_nil_nil:lexLt [] []=false:=rfl
theorem lexLt_nil_cons(y:Int)(ys:List Int):lexLt [] (y::ys)=true:=rfl
theorem lexLt_cons_nil(x:Int)(xs:List Int):lexLt (x::xs) []=false:=rfl
theorem eqAt_int(A:Around)(s:Shared)(a:Int)(t:Tok)(c:Int)(u:Tok):∃e,SeqAt.EqAt A s (.int a t) (.int c u) e∧(e=true↔a=c) :=
  ⟨(a==c),SeqAt.EqAt.int_int a t c u,by simp⟩
theorem rcLt_int(A:Around)(s:Shared)(a:Int)(t:Tok)(c:Int)(u:Tok)(prog:Program)(w:World)(E:Value→Shared→Prop)(Q:Value→Shared→Prop)(h:Q (.bool (decide (a<c))) s) :
    wpAny (model prog w) A (richCompare .Lt (.int a t) (.int c u)) Q E s :=
  (PyProof.Rows.lt_int h:wpAny (model prog w) A (compareOp .Lt (.int a t) (.int c u)) Q E s)
section
open PySem.SeqAt
open PySem.AutoSeq1 (wpAny_loadPart')
open PySem.MeetsSeq PySem.MeetsSeq2 PySem.MeetsSeq3
theorem tuple_lt_ints(l b:Addr)(items items2:Array Value)(n n2:Nat)(dd dd2:Option Addr)(sl sl2:Array (Option Value))(ns ms:List Int)(hi:IntsAre items.toList ns)(hj:IntsAre items2.toList ms) :
    Meets (Builtin.«tuple.__lt__» ⟨[.ref l,.ref b],[]⟩)
      (fun _ R s=>s.heap.get? l=some { cls:=.type "tuple",dict:=dd,data:=.seq items n,slots:=sl }∧s.heap.get? b=some { cls:=.type "tuple",dict:=dd2,data:=.seq items2 n2,slots:=sl2 } ∧
        R (.ok (.ret (.bool (lexLt ns ms)))) s) :=
  .of_wp fun prog w A R s h=>by
    obtain⟨hp,g,d,tk,os⟩:=s;obtain⟨hl,hb,h⟩:=h
    have f2:=AutoSeq1.sub_tuple_tuple
    have z1:items.size=ns.length:=by rw[←hi.length];simp
    have z2:items2.size=ms.length:=by rw[←hj.length];simp
    wp_walk using wpAny_loadPart' hl,wpAny_loadPart' hb,wpAny_forIn_list _ (fun rest b s'=>b.1=none∧s'=⟨hp,g,d,tk,os⟩∧∃(vs ws:List Value)(ns' ms':List Int),rest=vs.zip ws ∧
      IntsAre vs ns'∧IntsAre ws ms'∧ns'.length+items2.size=ms'.length+items.size∧R (.ok (.ret (.bool (lexLt ns' ms')))) ⟨hp,g,d,tk,os⟩) _
    case turn =>
      rintro⟨y,x⟩ rest b s' ⟨hb',rfl,vs,ws,ns',ms',hz,hvi,hwi,hlen,hR⟩
      cases hvi with
      | nil=>rw[List.zip_nil_left] at hz;cases hz
      | cons a t hvi' =>
        cases hwi with
        | nil=>rw[List.zip_nil_right] at hz;cases hz
        | cons c u hwi' =>
          rw[List.zip_cons_cons] at hz
          injection hz with hyx hrest
          injection hyx with hy hx
          subst hy hx
          rw[lexLt_cons] at hR
          simp only[List.length_cons] at hlen
          obtain⟨e,he,hiff⟩:=eqAt_int A.in1 ⟨hp,g,d,tk,os⟩ a t c u
          refine wpAny_bind (he prog w _ _ ?_)
          cases e with
          | true =>
            rw[if_pos (hiff.mp rfl)] at hR
            wp_walk
            exact⟨rfl,rfl,_,_,_,_,hrest,hvi',hwi',by lia,hR⟩
          | false =>
            rw[if_neg (fun q=>absurd (hiff.mpr q) Bool.false_ne_true)] at hR
            have hri:=rcLt_int A.in1 ⟨hp,g,d,tk,os⟩ a t c u prog w
            wp_walk using hri
            exact⟨_,rfl,by simpa using hR⟩
    case fin =>
      rintro⟨b1,b2⟩ s' ⟨hb',rfl,vs,ws,ns',ms',hz,hvi,hwi,hlen,hR⟩
      simp only at hb'
      subst hb'
      have hv:lexLt ns' ms'=decide (items.size<items2.size):=by
        cases hvi with
        | nil =>
          cases hwi with
          | nil =>
            simp only[List.length_nil] at hlen
            rw[lexLt_nil_nil]
            exact(decide_eq_false (by lia)).symm
          | cons c u hw =>
            simp only[List.length_nil,List.length_cons] at hlen
            rw[lexLt_nil_cons]
            exact(decide_eq_true (by lia)).symm
        | cons a t hv =>
          cases hwi with
          | nil =>
            simp only[List.length_nil,List.length_cons] at hlen
            rw[lexLt_cons_nil]
            exact(decide_eq_false (by lia)).symm
          | cons c u hw =>
            rw[List.zip_cons_cons] at hz
            cases hz
      rw[hv] at hR
      wp_walk
      exact⟨_,rfl,by simpa [Builtin.Tuple.tupleCompareSizes] using hR⟩
    case h =>
      exact⟨rfl,rfl,items.toList,items2.toList,ns,ms,rfl,hi,hj,by lia,h⟩
end
section
variable {prog:Program}{w:World}{A:Around}{E:Value→Shared→Prop}{s:Shared}
theorem lt_tupInts(hl:IsTup s.heap l items)(hb:IsTup s.heap b items2)(hi:IntsAre items.toList ns)(hj:IntsAre items2.toList ms)(hu:A.units<cLine)(h:Q (.bool (lexLt ns ms)) s):wpAny (model prog w) A (compareOp .Lt (.ref l) (.ref b)) Q E s:=by
  obtain⟨⟨cls,dd,data,sl⟩,ho,hc,n,hd⟩:=id hl
  obtain⟨⟨cls2,dd2,data2,sl2⟩,ho2,hc2,n2,hd2⟩:=id hb
  simp only at hc hd hc2 hd2
  subst hc hd hc2 hd2
  exact richCompare_meets_room (op:=.Lt) ⟨_,ho,rfl⟩ ⟨_,ho2,rfl⟩ PySem.F.slot_tuple_lt PySem.F.entry_tuple_lt (PySem.F.args_tuple_lt_2 _ _) (tuple_lt_ints l b items items2 n n2 dd dd2 sl sl2 ns ms hi hj)
    ⟨ho,ho2,show Value.bool (lexLt ns ms)≠Value.notImplemented∧Q (.bool (lexLt ns ms)) s from⟨(fun x=>nomatch x),h⟩⟩ hu
def sIx(n d:Nat):Option Int→Nat
  | none=>d
  | some v=>if v<0 then(v+(n:Int)).toNat else min v.toNat n
theorem sIx_le(n d:Nat)(hd:d≤n)(o:Option Int):sIx n d o≤n:=by
  cases o with
  | none=>exact hd
  | some v =>
    show(if v<0 then(v+(n:Int)).toNat else min v.toNat n)≤n
    by_cases hv:v<0
    · rw[if_pos hv];lia
    · rw[if_neg hv];exact Nat.min_le_right _ _
theorem clip_eq(v:Int)(n d:Nat):(if v<0 then max (v+(n:Int)) 0 else min v (n:Int))=((sIx n d (some v):Nat):Int):=by
  show(if v<0 then max (v+(n:Int)) 0 else min v (n:Int))=(((if v<0 then(v+(n:Int)).toNat else min v.toNat n):Nat):Int)
  by_cases hv:v<0
  · simp only[if_pos hv];lia
  · simp only[if_neg hv];lia
theorem adjust_gen(lo hi:Option Int)(n:Nat):Builtin.Slice.sliceAdjust lo hi 1 (n:Int)=(((sIx n 0 lo:Nat):Int),((sIx n n hi:Nat):Int)):=by
  have h1:¬((1:Int)<0):=by lia
  unfold Builtin.Slice.sliceAdjust
  simp only[h1,if_false]
  refine Prod.ext ?_ ?_
  · cases lo with
    | none=>rfl
    | some v=>exact clip_eq v n 0
  · cases hi with
    | none=>rfl
    | some v=>exact clip_eq v n n
theorem places_gen(i j:Nat):Builtin.Slice.slicePlaces (i:Int) (j:Int) 1=j-i:=by
  unfold Builtin.Slice.slicePlaces
  have h1:(1:Int) > 0:=by lia
  simp only[h1,if_true,Int.ediv_one]
  split<;>lia
theorem slicePart_(p:IsPart v o)(h:Q o s):wpAny (model prog w) A (Builtin.Slice.slicePartIndex v) Q E s:=by
  cases p with
  | none=>exact slicePart_none h
  | int i t=>exact slicePart_int h
theorem sliceApplied_gen{sl:Addr}{vl vu:Value}{lo hi:Option Int}{n:Nat}{Q:Int×Int×Nat→Shared→Prop}(hs:s.heap.IsSliceOf sl vl vu .none)(pl:IsPart vl lo)(pu:IsPart vu hi)(h:Q (((sIx n 0 lo:Nat):Int),1,sIx n n hi-sIx n 0 lo) s):wpAny (model prog w) A (Builtin.Slice.sliceApplied (.ref sl) (pure (n:Int))) Q E s:=by
  obtain⟨os,hos,hcs,hds⟩:=id hs
  unfold Builtin.Slice.sliceApplied Builtin.Slice.sliceFields
  refine wpAny_bind (wpAny_bind (wpAny_field hos hds (x:=vl) rfl (wpAny_bind (wpAny_field hos hds (x:=vu) rfl (wpAny_bind (wpAny_field hos hds (x:=.none) rfl (wpAny_pure ?_)))))))
  refine wpAny_bind (slicePart_none ?_)
  show wpAny _ _ (if((1:Int)==0)=true then _ else _) _ _ s
  rw[if_neg (by decide)]
  refine wpAny_bind (slicePart_ pl (wpAny_bind (slicePart_ pu (wpAny_bind (wpAny_pure ?_)))))
  show wpAny _ _ (match Builtin.Slice.sliceAdjust lo hi 1 (n:Int) with|(lo,hi)=>pure (lo,(1:Int),Builtin.Slice.slicePlaces lo hi 1)) _ _ s
  rw[adjust_gen lo hi n]
  show wpAny _ _ (pure (((sIx n 0 lo:Nat):Int),(1:Int),Builtin.Slice.slicePlaces ((sIx n 0 lo:Nat):Int) ((sIx n n hi:Nat):Int) 1)) _ _ s
  rw[places_gen]
  exact wpAny_pure h
theorem pick_gen(xs:Array Value)(i k:Nat):((List.range k).filterMap fun(m:Nat)=>xs[((i:Int)+(m:Int)*1).toNat]?).toArray=((xs.toList.drop i).take k).toArray:=by
  have e:(fun(m:Nat)=>xs[((i:Int)+(m:Int)*1).toNat]?)=fun m=>xs[i+m]?:=by
    funext m
    have:((i:Int)+(m:Int)*1).toNat=i+m:=by lia
    rw[this]
  rw[e]
  have:=pick_run xs i k
  rw[List.filterMap_map] at this
  have e2:((fun x=>xs[x]?) ∘ fun x=>i+x)=fun m=>xs[i+m]?:=rfl
  rw[e2] at this
  rw[this]
theorem getItem_tuple_cut{t sl:Addr}{items:Array Value}{vl vu:Value}{lo hi:Option Int}{Q:Value→Shared→Prop}(ht:IsTup s.heap t items)(hs:s.heap.IsSliceOf sl vl vu .none)(pl:IsPart vl lo)(pu:IsPart vu hi)(hw:¬(sIx items.size 0 lo=0∧sIx items.size items.size hi=items.size))(h:Q (.ref s.heap.objs.size) { s with heap:=s.heap.push { cls:=.type "tuple",data:=.seq ((items.toList.drop (sIx items.size 0 lo)).take (sIx items.size items.size hi-sIx items.size 0 lo)).toArray } })(hsz:items.size≤sizeLine):wpAny (model prog w) A (getItem (.ref t) (.ref sl)) Q E s:=by
  have htake:sizeOk (.seq ((items.toList.drop (sIx items.size 0 lo)).take (sIx items.size items.size hi-sIx items.size 0 lo)).toArray):=by
    show((items.toList.drop (sIx items.size 0 lo)).take (sIx items.size items.size hi-sIx items.size 0 lo)).toArray.size≤sizeLine
    rw[List.size_toArray,List.length_take,List.length_drop,Array.length_toList]
    lia
  have hj:sIx items.size items.size hi≤items.size:=sIx_le _ _ (ZG _) hi
  obtain⟨os,hos,hcs,hds⟩:=id hs
  have hTs:s.TypeIs (.ref sl) "slice":=⟨os,hos,hcs⟩
  unfold getItem
  try with_reducible refine wpAny_holding ?_
  first|refine wpAny_bind (wpAny_pure ?_)|skip
  refine wpAny_bind (wpAny_sequenceKey ht.typeIs (by decide) ?_)
  refine wpAny_bind (wpAny_callSpecial?_slot (name:=Str.ofString "__getitem__") ht.typeIs PyProof.Rows.slot_tuple_getitem
    (wpAny_call_entry PyProof.Rows.slot_tuple_getitem ht.typeIs entry_tuple_getitem ?_ (args_tuple_getitem _ _)))
  show wpAny _ _ (Builtin.Tuple.tupleItemsOf (.ref t) >>= _) _ _ s
  refine wpAny_bind (tupleItemsOf_ ht ?_)
  refine wpAny_bind (wpAny_typeOf hTs ?_)
  rw[if_pos (by decide)]
  refine wpAny_bind (sliceApplied_gen hs pl pu ?_)
  have hno:¬((((sIx items.size 0 lo:Nat):Int)==0&&(1:Int)==1&&(sIx items.size items.size hi-sIx items.size 0 lo)==items.size)=true):=by
    intro q
    rw[Bool.and_eq_true,Bool.and_eq_true] at q
    have q1:((sIx items.size 0 lo:Nat):Int)=0:=eq_of_beq q.1.1
    have q2:sIx items.size items.size hi-sIx items.size 0 lo=items.size:=eq_of_beq q.2
    exact hw ⟨by lia,by lia⟩
  show wpAny _ _ (if(((sIx items.size 0 lo:Nat):Int)==0&&(1:Int)==1&&(sIx items.size items.size hi-sIx items.size 0 lo)==items.size)=true then _ else _) _ _ s
  rw[if_neg hno,pick_gen]
  first
    | exact wpAny_bind (m:=Builtin.Tuple.tupleExact _) (wpAny_newObj_type (wpAny_pure ⟨_,rfl,wpAny_pure h⟩) htake)
    | exact wpAny_bind (m:=Builtin.Tuple.tupleExact _) (wpAny_newObj_type (wpAny_bind (wpAny_pure (wpAny_pure ⟨_,rfl,wpAny_pure h⟩))) htake)
    | exact wpAny_bind (wpAny_bind (m:=Builtin.Tuple.tupleExact _) (wpAny_newObj_type (wpAny_pure (wpAny_pure ⟨_,rfl,wpAny_pure h⟩)) htake))
    | exact wpAny_bind (wpAny_bind (m:=Builtin.Tuple.tupleExact _) (wpAny_newObj_type (wpAny_pure ⟨_,rfl,wpAny_pure h⟩) htake))
end
end HT
namespace L2
open PySem PySem.Spec PyProof.Rows
abbrev TO:=St→Hp→(Option Int→Hp→Prop)→Prop
def PO(X:Cx)(e:Option Expr)(t:TO):Prop :=
  ∀(pins:List (Addr×Obj))(s:Shared)(σ:St)(H:Hp)(Q:Option Int→Hp→Prop),Inv X pins σ H s→t σ H Q →
    wpAny (model X.prog X.w) X.A (evalPart e X.env) (fun u s'=>∃o H',Inv X pins σ H' s'∧IsPart u o∧Q o H') X.xe s
def tNoPart:TO:=fun _ H Q=>Q none H
def tPart(t:TE):TO:=fun σ H Q=>t σ H fun x H1=>∃i,x=.int i∧Q (some i) H1
theorem intsAre_of{ns:List Int}:∀{us:List Value},Vals (ns.map V.int) us→IntsAre us ns:=by
  induction ns with
  | nil=>intro us r;rw[List.map_nil] at r;cases r;exact .nil
  | cons n ns ih =>
    intro us r
    rw[List.map_cons] at r
    cases r with
    | cons r1 r2 =>
      obtain⟨t,e⟩:=r1
      subst e
      exact .cons n t (ih r2)
section
variable {X:Cx}{e:Expr}{te:TE}{lo hi:Option Expr}{tl th:TO}{pos p2:Pos}
theorem po_none:PO X none tNoPart:=by
  intro pins s σ H Q I h
  rw[evalPart_none]
  exact wpAny_pure ⟨none,H,I,.none,h⟩
theorem po_some(h:PE X e te):PO X (some e) (tPart te):=by
  intro pins s σ H Q I hw
  rw[evalPart_some]
  refine thn (h pins s σ H _ I hw) ?_
  rintro u s1 ⟨x,H1,I1,r1,q1⟩
  obtain⟨i,rfl,q⟩:=q1
  obtain⟨t,rfl⟩:=r1
  exact⟨some i,H1,I1,.int i t,q⟩
def SlR(X:Cx)(r:V→Option Int→Option Int→Hp→VK→Prop):Prop :=
  ∀(pins:List (Addr×Obj))(s:Shared)(σ:St)(H:Hp)(x:V)(v vl vu:Value)(lo hi:Option Int)(sl:Addr)(Q:VK),Inv X pins σ H s→RelV x v→s.heap.IsSliceOf sl vl vu .none→IsPart vl lo→IsPart vu hi→r x lo hi H Q →
    ∃T id,typeLookup (.type T) "__getitem__"=pure (some (.builtin id))∧s.TypeIs v T∧wpAny (model X.prog X.w) X.A (getItem v (.ref sl)) (EP X pins σ Q) X.xe s
def tSl(r:V→Option Int→Option Int→Hp→VK→Prop)(te:TE)(tl th:TO):TE:=fun σ H Q=>te σ H fun x H1=>tl σ H1 fun l H2=>th σ H2 fun u H3=>r x l u H3 Q
theorem pe_slice{r:V→Option Int→Option Int→Hp→VK→Prop}(hr:SlR X r)(he:PE X e te)(hl:PO X lo tl)(hu:PO X hi th):PE X (.Subscript e (.Slice lo hi none p2) pos) (tSl r te tl th):=by
  intro pins s σ H Q I h
  refine Subscript_ (thn (he pins s σ H _ I h) fun v s1 ⟨x,H1,I1,r1,q1⟩=>?_)
  refine wpAny_Slice (thn (hl pins s1 σ H1 _ I1 q1) fun vl s2 ⟨l,H2,I2,pl,q2⟩=>thn (hu pins s2 σ H2 _ I2 q2) fun vu s3 ⟨u,H3,I3,pu,q3⟩=>?_)
  rw[evalPart_none]
  refine wpAny_pure ?_
  have I4:Inv X pins σ H3 { s3 with heap:=s3.heap.push { cls:=.type "slice",data:=.fields #[vl,vu,.none] } }:=I3.kept (t':=s3.toks) fun b ob q=>Heap.get?_push_of_some _ q
  obtain⟨T,id,hT,ht,hg⟩:=hr pins { s3 with heap:=s3.heap.push { cls:=.type "slice",data:=.fields #[vl,vu,.none] } } σ H3 x v vl vu l u s3.heap.objs.size Q I4 r1 (Heap.IsSliceOf.new ..) pl pu q3
  show wpAny (model X.prog X.w) X.A (subscriptTail e (.Slice lo hi none p2) v (.ref s3.heap.objs.size)) (EP X pins σ Q) X.xe { s3 with heap:=s3.heap.push { cls:=.type "slice",data:=.fields #[vl,vu,.none] } }
  exact tail_any (ops:=[.ref s3.heap.objs.size,v]) ht hT hg (by with_unfolding_all rfl)
def cutV(xs:List V)(lo hi:Option Int):List V:=(xs.drop (HT.sIx xs.length 0 lo)).take (HT.sIx xs.length xs.length hi-HT.sIx xs.length 0 lo)
theorem cutV_length(xs:List V)(lo hi:Option Int):(cutV xs lo hi).length≤xs.length:=by
  unfold cutV
  rw[List.length_take,List.length_drop]
  lia
inductive rSlT(K:PySem.W.Frag)(x:V)(lo:Option Int)(hi:Option Int)(H:Hp)(Q:VK):Prop
  | mk a xs (_:x=.ref a) (_:SqT K H a xs) (_:¬(HT.sIx xs.length 0 lo=0∧HT.sIx xs.length xs.length hi=xs.length)) (_:∀p,H p=none→Q (.ref p) (upd H p (.tup (cutV xs lo hi))))
theorem sl_tup:SlR X (rSlT X.K):=by
  intro pins s σ H x v vl vu lo hi sl Q I rx hs pl pu h
  obtain⟨a,xs,rfl,hx,hw,q⟩:=h
  cases rx
  obtain⟨its,r,ht,hz⟩:=I.tuple hx
  have hlen:its.toArray.size=xs.length:=by rw[List.size_toArray];exact r.length.symm
  refine⟨"tuple",_,PyProof.Rows.slot_tuple_getitem.lookup,ht.typeIs,?_⟩
  refine HT.getItem_tuple_cut ht hs pl pu (by rw[hlen];exact hw) ?_ (by rw[hlen];exact hz)
  rw[hlen]
  refine⟨.ref s.heap.objs.size,_,I.laid (t':=s.toks) (o:=.tup (cutV xs lo hi)) (fun b ob q=>Heap.get?_push_of_some _ q) (ZG _) ?_,rfl,q _ (I.hok.fresh (ZG _))⟩
  exact⟨Nat.le_trans (cutV_length xs lo hi) hz,_,(r.drop (HT.sIx xs.length 0 lo)).take (HT.sIx xs.length xs.length hi-HT.sIx xs.length 0 lo),IsTup.new _ _⟩
end
end L2
namespace L2
open PySem PySem.Spec PyProof.Rows
def ixN(n:Nat)(i:Int):Option Nat:=if 0≤i then(if i<n then some i.toNat else none) else if -(n:Int)≤i then some (i+n).toNat else none
def atI{α:Type}(xs:List α)(i:Int):Option α:=(ixN xs.length i).bind fun j=>xs[j]?
theorem ixN_seq(h:ixN n i=some j):seqIndex? i n=some j∧j<n∧-(n:Int)≤i∧i<n:=by
  unfold ixN at h
  by_cases h0:0≤i
  · rw[if_pos h0] at h
    by_cases h1:i<n
    · rw[if_pos h1] at h
      have e:i.toNat=j:=ZO h
      exact⟨by rw[seqIndex_of h0 h1,e],by lia,by lia,h1⟩
    · rw[if_neg h1] at h;cases h
  · rw[if_neg h0] at h
    by_cases h1:-(n:Int)≤i
    · rw[if_pos h1] at h
      have e:(i+n).toNat=j:=ZO h
      exact⟨by rw[seqIndex_neg (by lia) h1,e],by lia,h1,by lia⟩
    · rw[if_neg h1] at h;cases h
theorem atI_get(h:atI xs i=some v):∃j,seqIndex? i xs.length=some j∧xs[j]?=some v∧j<xs.length∧-(xs.length:Int)≤i∧i<xs.length:=by
  unfold atI at h
  cases e:ixN xs.length i with
  | none=>rw[e] at h;cases h
  | some j =>
    rw[e] at h
    obtain⟨h1,h2,h3,h4⟩:=ixN_seq e
    exact⟨j,h1,h,h2,h3,h4⟩
theorem atI_nat{α:Type}{xs:List α}{j:Nat}{v:α}(h:xs[j]?=some v):atI xs (j:Int)=some v:=by
  have hj:j<xs.length:=(ZJ h).1
  have e:ixN xs.length (j:Int)=some j:=by
    unfold ixN
    rw[if_pos (by lia),if_pos (by lia)];simp
  unfold atI;rw[e];exact h
def PlainIx(b:Expr):Prop:=∀o i,subscripted b false o i=operate [o,i] (getItem o i)
def IxR(X:Cx)(r:R2):Prop :=
  ∀(value slice:Expr)(pins:List (Addr×Obj))(s:Shared)(σ:St)(H:Hp)(x y:V)(v u:Value)(Q:VK),Inv X pins σ H s→RelV x v→RelV y u→r x y H Q →
    subscripted slice false v u=operate [v,u] (getItem v u)→wpAny (model X.prog X.w) X.A (subscriptTail value slice v u) (EP X pins σ Q) X.xe s
def MtR(X:Cx)(id:String)(r:V→List V→Hp→VK→Prop):Prop :=
  ∀(pins:List (Addr×Obj))(s:Shared)(σ:St)(H:Hp)(x:V)(xs:List V)(v:Value)(us:List Value)(Q:VK),Inv X pins σ H s→RelV x v→Vals xs us→r x xs H Q →
    wpAny (model X.prog X.w) X.A (call (.builtin id) (v::us)) (EP X pins σ Q) X.xe s
section
variable {X:Cx}{a b:Expr}{ta tb:TE}{pos:Pos}
theorem pe_ix{r:R2}(hr:IxR X r)(ha:PE X a ta)(hb:PE X b tb)(hs:PlainIx b):PE X (.Subscript a b pos) (tOp r ta tb):=by
  intro pins s σ H Q I h
  exact Subscript_ (binT ha hb I h fun v u s2 x y H2 I2 rx ry q=>hr a b pins s2 σ H2 x y v u Q I2 rx ry q (hs _ _))
inductive IrIxL(K:PySem.W.Frag)(x:V)(y:V)(H:Hp)(Q:VK):Prop
  | mk (p xs i v) (e0:x=.ref p) (e1:y=.int i) (e2:SqL K H p xs) (e3:atI xs i=some v) (e4:Q v H)
def rIxL(K:PySem.W.Frag):R2:=fun x y H Q=>IrIxL K x y H Q
inductive IrIxT(K:PySem.W.Frag)(x:V)(y:V)(H:Hp)(Q:VK):Prop
  | mk (p xs i v) (e0:x=.ref p) (e1:y=.int i) (e2:SqT K H p xs) (e3:atI xs i=some v) (e4:Q v H)
def rIxT(K:PySem.W.Frag):R2:=fun x y H Q=>IrIxT K x y H Q
inductive rIxS(x:V)(y:V)(H:Hp)(Q:VK):Prop
  | mk z i c (_:x=.str z) (_:y=.int i) (_:z.length≤sizeLine) (_:atI z.cps.toList i=some c) (_:Q (.str ⟨#[c]⟩) H)
theorem ix_list:IxR X (rIxL X.K):=by
  intro value slice pins s σ H x y v u Q I rx ry h hs
  obtain⟨p,xs,i,z,rfl,rfl,hq,he,q⟩:=h
  cases rx
  obtain⟨t,rfl⟩:=ry
  obtain⟨its,r,pl,hz⟩:=I.list hq
  obtain⟨j,h1,h2,h3,h4,h5⟩:=atI_get he
  obtain⟨w,ew,rw'⟩:=r.get h2
  have hl:=r.length
  have hn:=line63
  have fin:EP X pins σ Q w s:=⟨z,H,I,rw',q⟩
  by_cases h0:0≤i
  · have hj:i.toNat=j:=by
      rw[seqIndex_of h0 h5] at h1
      exact ZO h1
    exact item_listR pl.isList h0 (by lia) (by rw[hj];simpa using ew) fin hs
  · have hj:(i+(its.toArray.size:Int)).toNat=j:=by
      rw[seqIndex_neg (by lia) h4] at h1
      rw[List.size_toArray,←hl]
      exact ZO h1
    exact subscriptTail_builtinR (x:=w) pl.isList.typeIs slot_list_getitem.lookup
      (wpAny_getItem_list_neg (Q:=fun r s'=>r=w∧EP X pins σ Q r s') pl.isList (by lia) (by rw[List.size_toArray]<;>lia) (by lia) (by rw[hj];simpa using ew) ⟨rfl,fin⟩) hs
theorem ix_tup:IxR X (rIxT X.K):=by
  intro value slice pins s σ H x y v u Q I rx ry h hs
  obtain⟨p,xs,i,z,rfl,rfl,hq,he,q⟩:=h
  cases rx
  obtain⟨t,rfl⟩:=ry
  obtain⟨its,r,pl,hz⟩:=I.tuple hq
  obtain⟨j,h1,h2,h3,h4,h5⟩:=atI_get he
  obtain⟨w,ew,rw'⟩:=r.get h2
  have hl:=r.length
  have hn:=line63
  have fin:EP X pins σ Q w s:=⟨z,H,I,rw',q⟩
  exact subscriptTail_builtinR (x:=w) pl.typeIs slot_tuple_getitem.lookup
    (getItem_tuple (j:=j) (Q:=fun r s'=>r=w∧EP X pins σ Q r s') pl (by lia) (by lia) (by rw[List.size_toArray,←hl];exact h1) (by simpa using ew) ⟨rfl,fin⟩) hs
theorem ix_str:IxR X rIxS:=by
  intro value slice pins s σ H x y v u Q I rx ry h hs
  obtain⟨z,i,c,rfl,rfl,hz,he,q⟩:=h
  obtain⟨t,rfl⟩:=rx
  obtain⟨t',rfl⟩:=ry
  obtain⟨j,h1,h2,h3,h4,h5⟩:=atI_get he
  have hl:z.cps.toList.length=z.length:=by simp[Str.length]
  rw[hl] at h1 h4 h5
  have hn:=line63
  exact tail_any (typeIs_str s z t) slot_str_getitem.lookup (getItem_str (c:=c) (by
    have e1:decide (i < -(2 ^ 63:Int))=false:=decide_eq_false (by lia)
    have e2:decide (i ≥ 2 ^ 63)=false:=decide_eq_false (by lia)
    rw[e1,e2,Bool.or_false]) (by rw[h1];simpa using h2) ⟨.str ⟨#[c]⟩,H,I.tok _,⟨_,rfl⟩,q⟩) hs
theorem slice_bounds(lo hi:Option Int)(n:Nat):(sliceBounds lo hi none n).1=((HT.sIx n 0 lo:Nat):Int)∧(sliceBounds lo hi none n).2.1=((HT.sIx n n hi:Nat):Int)∧(sliceBounds lo hi none n).2.2=1:=by
  refine⟨?_,?_,rfl⟩
  · cases lo with
    | none=>simp[sliceBounds,HT.sIx]
    | some i =>
      simp only[sliceBounds,HT.sIx,Option.getD_none,show(1:Int) > 0 by decide,if_true]
      by_cases h:i<0
      · simp only[h,if_true]<;>lia
      · simp only[h,if_false]<;>lia
  · cases hi with
    | none=>simp[sliceBounds,HT.sIx]
    | some i =>
      simp only[sliceBounds,HT.sIx,Option.getD_none,show(1:Int) > 0 by decide,if_true]
      by_cases h:i<0
      · simp only[h,if_true]<;>lia
      · simp only[h,if_false]<;>lia
theorem slicePick_cut(its:List Value)(lo hi:Option Int):slicePick its.toArray lo hi none=((its.drop (HT.sIx its.length 0 lo)).take (HT.sIx its.length its.length hi-HT.sIx its.length 0 lo)).toArray:=by
  obtain⟨h1,h2,h3⟩:=slice_bounds lo hi its.toArray.size
  unfold slicePick
  rw[h1,h2,h3]
  simp only[sliceRange_one,pick_run,List.size_toArray]<;>rfl
inductive rSlL(K:PySem.W.Frag)(x:V)(lo:Option Int)(hi:Option Int)(H:Hp)(Q:VK):Prop
  | mk a xs (_:x=.ref a) (_:SqL K H a xs) (_:∀p,H p=none→Q (.ref p) (upd H p (.lst (cutV xs lo hi))))
theorem sl_list:SlR X (rSlL X.K):=by
  intro pins s σ H x v vl vu lo hi sl Q I rx hs pl pu h
  obtain⟨a,xs,rfl,hx,q⟩:=h
  cases rx
  obtain⟨its,r,ht,hz⟩:=I.list hx
  have hlen:=r.length
  refine⟨"list",_,slot_list_getitem.lookup,ht.isList.typeIs,?_⟩
  refine wpAny_getItem_list_slice ht.isList hs pl pu .none (by simp) ?_ (by rw[List.size_toArray]<;>lia)
  rw[slicePick_cut,←hlen]
  refine⟨.ref s.heap.objs.size,_,I.laid (t':=s.toks) (o:=.lst (cutV xs lo hi)) (fun b ob q=>Heap.get?_push_of_some _ q) (ZG _) ?_,rfl,q _ (I.hok.fresh (ZG _))⟩
  exact⟨Nat.le_trans (cutV_length xs lo hi) hz,_,0,(r.drop (HT.sIx xs.length 0 lo)).take (HT.sIx xs.length xs.length hi-HT.sIx xs.length 0 lo),Heap.get?_push_size _ rfl⟩
def flatV:V→Bool
  | .non=>true
  | .bl _=>true
  | .int _=>true
  | .str _=>true
  | _=>false
def eqV:V→V→Bool
  | .non,.non=>true
  | .bl a,.bl b=>a==b
  | .bl a,.int b=>(if a then 1 else 0)==b
  | .int a,.bl b=>a==(if b then 1 else 0)
  | .int a,.int b=>a==b
  | .str a,.str b=>a==b
  | _,_=>false
theorem eqAt_V(ry:RelV y u)(rx:RelV x v)(fy:flatV y=true)(fx:flatV x=true):SeqAt.EqAt A s u v (eqV y x):=by
  cases y with
  | non =>
    cases ry
    cases x with
    | non=>cases rx;exact SeqAt.EqAt.same _
    | bl b=>cases rx;exact SeqAt.EqAt.none_bool b
    | int b=>obtain⟨t,rfl⟩:=rx;exact SeqAt.EqAt.none_int b t
    | str b=>obtain⟨t,rfl⟩:=rx;exact SeqAt.EqAt.none_str b t
    | _=>exact absurd (show false=true from fx) Bool.false_ne_true
  | bl a =>
    cases ry
    cases x with
    | non=>cases rx;exact SeqAt.EqAt.bool_none a
    | bl b=>cases rx;exact SeqAt.EqAt.bool_bool a b
    | int b=>obtain⟨t,rfl⟩:=rx;exact SeqAt.EqAt.bool_int a b t
    | str b=>obtain⟨t,rfl⟩:=rx;exact SeqAt.EqAt.bool_str a b t
    | _=>exact absurd (show false=true from fx) Bool.false_ne_true
  | int a =>
    obtain⟨t',rfl⟩:=ry
    cases x with
    | non=>cases rx;exact SeqAt.EqAt.int_none a t'
    | bl b=>cases rx;exact SeqAt.EqAt.int_bool a t' b
    | int b=>obtain⟨t,rfl⟩:=rx;exact SeqAt.EqAt.int_int a t' b t
    | str b=>obtain⟨t,rfl⟩:=rx;exact SeqAt.EqAt.int_str a t' b t
    | _=>exact absurd (show false=true from fx) Bool.false_ne_true
  | str a =>
    obtain⟨t',rfl⟩:=ry
    cases x with
    | non=>cases rx;exact SeqAt.EqAt.str_none a t'
    | bl b=>cases rx;exact SeqAt.EqAt.str_bool a t' b
    | int b=>obtain⟨t,rfl⟩:=rx;exact SeqAt.EqAt.str_int a t' b t
    | str b=>obtain⟨t,rfl⟩:=rx;exact SeqAt.EqAt.str_str a t' b t
    | _=>exact absurd (show false=true from fx) Bool.false_ne_true
  | _=>exact absurd (show false=true from fy) Bool.false_ne_true
def eqU(x:V)(u:Value):Bool:=match u with
  | .none=>eqV .non x
  | .bool b=>eqV (.bl b) x
  | .int i _=>eqV (.int i) x
  | .str z _=>eqV (.str z) x
  | _=>false
theorem eqU_of(r:RelV y u)(f:flatV y=true):eqU x u=eqV y x:=by
  cases y with
  | non=>cases r;rfl
  | bl b=>cases r;rfl
  | int i=>obtain⟨t,rfl⟩:=r;rfl
  | str z=>obtain⟨t,rfl⟩:=r;rfl
  | _=>exact absurd (show false=true from f) Bool.false_ne_true
theorem any_eqU:∀{xs:List V} {us:List Value},Vals xs us→xs.all flatV=true→us.any (eqU x)=xs.any fun y=>eqV y x
  | _,_,.nil,_=>rfl
  | y::xs,u::us,.cons r t,f=>by
    rw[List.all_cons,Bool.and_eq_true] at f
    rw[List.any_cons,List.any_cons,eqU_of r f.1,any_eqU t f.2]
theorem mem_eqAt(rx:RelV x v)(fx:flatV x=true):∀{xs:List V} {us:List Value},Vals xs us→xs.all flatV=true→∀u∈us,SeqAt.EqAt A s u v (eqU x u)
  | _,_,.nil,_=>fun u hu=>by cases hu
  | y::xs,u::us,.cons r t,f=>fun u' hu=>by
    rw[List.all_cons,Bool.and_eq_true] at f
    rcases ZM hu with rfl|hu
    · rw[eqU_of r f.1];exact eqAt_V r rx f.1 fx
    · exact mem_eqAt rx fx t f.2 u' hu
def inV(x:V)(xs:List V):Bool:=xs.any fun y=>eqV y x
inductive rIn(K:PySem.W.Frag)(neg:Bool)(x:V)(y:V)(H:Hp)(Q:VK):Prop
  | mk p xs (_:y=.ref p) (_:(SqL K H p xs∨SqT K H p xs)) (_:flatV x=true) (_:xs.all flatV=true) (_:Q (.bl (if neg then !inV x xs else inV x xs)) H)
theorem op_in_seq:OpR X (compareOp .In) (rIn X.K false):=by
  intro pins s σ H x y v u Q I rx ry h
  obtain⟨p,xs,rfl,hq,fx,fs,q⟩:=h
  cases ry
  rcases hq with hq|hq
  · obtain⟨its,r,pl,hz⟩:=I.list hq
    refine SeqAt.in_listAt (eqU x) pl.isList (fun w hw=>mem_eqAt rx fx r fs w (by simpa using hw)) ⟨.bl _,H,I,rfl,?_⟩
    rw[show its.toArray.any (eqU x)=its.any (eqU x) by simp,any_eqU r fs]
    exact q
  · obtain⟨its,r,pl,hz⟩:=I.tuple hq
    refine SeqAt.in_tupleAt (eqU x) pl (fun w hw=>mem_eqAt rx fx r fs w (by simpa using hw)) ⟨.bl _,H,I,rfl,?_⟩
    rw[show its.toArray.any (eqU x)=its.any (eqU x) by simp,any_eqU r fs]
    exact q
inductive Rcall_len_seq(K:PySem.W.Frag)(xs:List V)(H:Hp)(Q:VK):Prop
  | mk p ys (_:xs=[.ref p]) (_:(SqL K H p ys∨SqT K H p ys)) (_:Q (.int ys.length) H)
theorem call_len_seq:CallR X (.builtin "len") (Rcall_len_seq X.K):=by
  intro pins s σ H xs us Q I r h
  obtain⟨p,ys,rfl,hq,q⟩:=h
  obtain⟨u,rfl,rx⟩:=vals1 r
  cases rx
  have hn:=line63
  rcases hq with hq|hq
  · obtain⟨its,r',pl,hz⟩:=I.list hq
    have hlen:=r'.length
    exact Calls.call_len_list pl.isList (by simp only[List.size_toArray]<;>lia) ⟨.int ys.length,H,I.tok _,⟨s.toks+1,by rw[List.size_toArray,hlen]⟩,q⟩
  · obtain⟨its,r',pl,hz⟩:=I.tuple hq
    have hlen:=r'.length
    exact len_tuple pl (by simp only[List.size_toArray]<;>lia) ⟨.int ys.length,H,I.tok _,⟨s.toks+1,by rw[List.size_toArray,hlen]⟩,q⟩
inductive Rcall_len_str(xs:List V)(H:Hp)(Q:VK):Prop
  | mk z (_:xs=[.str z]) (_:z.length≤sizeLine) (_:Q (.int z.length) H)
theorem call_len_str:CallR X (.builtin "len") Rcall_len_str:=by
  intro pins s σ H xs us Q I r h
  obtain⟨z,rfl,hz,q⟩:=h
  obtain⟨u,rfl,t,rfl⟩:=vals1 r
  have hn:=line63
  exact len_str (by lia) ⟨.int z.length,H,I.tok _,⟨_,rfl⟩,q⟩
theorem CallR.or(h:CallR X f r)(h':CallR X f r'):CallR X f (fun xs H Q=>r xs H Q∨r' xs H Q):=by
  intro pins s σ H xs us Q I rs q
  rcases q with q|q
  · exact h pins s σ H xs us Q I rs q
  · exact h' pins s σ H xs us Q I rs q
inductive Rcall_tuple_of(K:PySem.W.Frag)(xs:List V)(H:Hp)(Q:VK):Prop
  | mk p ys (_:xs=[.ref p]) (_:((SqL K H p ys∧∀l,H l=none→Q (.ref l) (upd H l (.tup ys)))∨(SqT K H p ys∧Q (.ref p) H)))
theorem call_tuple_of:CallR X (.type "tuple") (Rcall_tuple_of X.K):=by
  intro pins s σ H xs us Q I r h
  obtain⟨p,ys,rfl,h⟩:=h
  obtain⟨u,rfl,rx⟩:=vals1 r
  cases rx
  rcases h with⟨hq,q⟩|⟨hq,q⟩
  · obtain⟨its,r',pl,hz⟩:=I.list hq
    have hlen:=r'.length
    refine call_tuple_list pl.isList (fun h' kp=>?_) (by simp only[List.size_toArray]<;>lia)
    have I1:Inv X pins σ H { s with heap:=h' }:=I.kept (t':=s.toks) kp
    have I2:Inv X pins σ (upd H h'.objs.size (.tup ys)) { s with heap:=h'.push { cls:=.type "tuple",data:=.seq its.toArray } } :=
      I1.laid (t':=s.toks) (fun b o e=>Heap.get?_push_of_some _ e) (ZG _) (show ObjOk X.prog X.w _ _ _ (.tup ys) from⟨hz,its,r',IsTup.new _ _⟩)
    exact⟨.ref h'.objs.size,_,I2,rfl,q _ (I1.hok.fresh (ZG _))⟩
  · obtain⟨its,r',pl,hz⟩:=I.tuple hq
    exact call_tuple_same pl ⟨.ref p,H,I,rfl,q⟩
def tyV(K:PySem.W.Frag)(T:String)(x:V)(H:Hp):Prop:=match x with
  | .str _=>T="str"
  | .int _=>T="int"
  | .ref p=>(T="list"∧∃xs,SqL K H p xs)∨(T="tuple"∧∃o,K.lookup p=some o∧o.cls=.type "tuple"∧o.dict=none) ∨
      (T="dict"∧((∃kvs,H p=some (.dK kvs))∨∃kvs,H p=some (.dT kvs)))∨(T="set"∧∃S n,H p=some (.set S n))
  | _=>False
theorem tyV_is(I:Inv X pins σ H s)(r:RelV x v)(ty:tyV X.K T x H) :
    s.TypeIs v T∧∀a,v=.ref a→∃ob,s.heap.get? a=some ob∧ob.dict=none:=by
  cases x with
  | str z =>
    obtain⟨t,rfl⟩:=r
    cases (show T="str" from ty)
    exact⟨typeIs_str s z t,fun _ e=>nomatch e⟩
  | int i =>
    obtain⟨t,rfl⟩:=r
    cases (show T="int" from ty)
    exact⟨typeIs_int s i t,fun _ e=>nomatch e⟩
  | ref p =>
    cases r
    rcases ty with⟨rfl,xs,hq⟩|⟨rfl,o,hk,hc,hd⟩|⟨rfl,hk⟩|⟨rfl,S,n,hk⟩
    · obtain⟨its,_,pl,_⟩:=I.list hq
      refine⟨pl.isList.typeIs,fun a e=>?_⟩
      cases e
      obtain⟨o,n,e,c,hd,_⟩:=pl
      exact⟨o,e,hd⟩
    · refine⟨⟨o,I.kIn p o hk,hc⟩,fun a e=>?_⟩
      cases e
      exact⟨o,I.kIn _ o hk,hd⟩
    · have z:∃o,s.heap.get? p=some o∧o.ExactDict:=by
        rcases hk with⟨kvs,hk⟩|⟨kvs,hk⟩
        · obtain⟨_,_,_,_,o,_,_,e,ex,_⟩:=I.hok p _ hk
          exact⟨o,e,ex⟩
        · obtain⟨_,_,_,_,o,_,_,e,ex,_⟩:=I.hok p _ hk
          exact⟨o,e,ex⟩
      obtain⟨o,e,ex⟩:=z
      refine⟨⟨o,e,ex.1⟩,fun a e2=>?_⟩
      cases e2
      exact⟨o,e,ex.2.1⟩
    · obtain⟨o,_,_,_,e,ex,_⟩:=I.hok p _ hk
      refine⟨⟨o,e,ex.1⟩,fun a e2=>?_⟩
      cases e2
      exact⟨o,e,ex.2.1⟩
  | _=>exact False.elim ty
inductive ItBM0(K:PySem.W.Frag)(T:String)(r:V→List V→Hp→VK→Prop)(x:V)(H1:Hp)(Q:VK):Prop
  | mk  (e0:tyV K T x H1) (e1:r x [] H1 Q)
def tBM0(K:PySem.W.Frag)(T:String)(r:V→List V→Hp→VK→Prop)(to:TE):TE:=fun σ H Q=>to σ H fun x H1=>ItBM0 K T r x H1 Q
inductive ItBM(K:PySem.W.Frag)(T:String)(r:V→List V→Hp→VK→Prop)(t:TA)(σ:St)(x:V)(H1:Hp)(Q:VK):Prop
  | mk  (e0:tyV K T x H1) (e1:t σ H1 fun xs H2=>r x xs H2 Q)
def tBM(K:PySem.W.Frag)(T:String)(r:V→List V→Hp→VK→Prop)(to:TE)(t:TA):TE:=fun σ H Q=>to σ H fun x H1=>ItBM K T r t σ x H1 Q
variable {o e:Expr}{es:List Expr}{to:TE}{t:TA}{name:Str}{apos cpos:Pos}{T id:String}{r:V→List V→Hp→VK→Prop}
theorem pe_bm0(pa:PlainAttrs T)(slot:Slot T name id)(hty:typeOf (.builtin id)=pure (.type "method_descriptor"))(hm:MtR X id r)(ho:PE X o to)(hbase:attributeBase o name X.env (eval o X.env)=eval o X.env:=by rfl)(hline:(apos.endLine==cpos.line)=true:=by rfl):PE X (.Call (.Attribute o name apos) [] [] cpos) (tBM0 X.K T r to):=by
  intro pins s σ H Q I h
  refine wpAny_Call_method0_late hbase hline (thn (ho pins s σ H _ I h) fun v s1 ⟨x,H1,I1,r1,ty,q1⟩=>?_)
  obtain⟨h1,h2⟩:=tyV_is I1 r1 ty
  exact⟨T,id,pa,slot,hty,h1,h2,Calls.callWith_builtin rfl (PySem.evalArgs_none (hm pins s1 σ H1 x [] v [] Q I1 r1 .nil q1))⟩
theorem pe_bm(pa:PlainAttrs T)(slot:Slot T name id)(hty:typeOf (.builtin id)=pure (.type "method_descriptor"))(hm:MtR X id r)(ho:PE X o to)(ha:PA X (e::es) t)(hbase:attributeBase o name X.env (eval o X.env)=eval o X.env:=by rfl)(hfew:((backTo cpos (starEach (e::es) X.env)).all (fun x=>!x.1)&&(backToKw cpos (keywordEach [] X.env)).all (fun x=>x.1.isSome)
      && decide ((e::es).length+([]:List Keyword).length+(if([]:List Keyword).isEmpty then 0 else 1)<30))=true:=by rfl)(hline:(apos.endLine==cpos.line)=true:=by rfl)(hs:starEach (e::es) X.env=(false,eval e X.env)::starEach es X.env:=by rfl)(hplain:(backTo cpos (starEach es X.env)).any (·.1)=false:=by rfl) :
    PE X (.Call (.Attribute o name apos) (e::es) [] cpos) (tBM X.K T r to t):=by
  intro pins s σ H Q I h
  refine wpAny_Call_method_late hbase hfew hline rfl (thn (ho pins s σ H _ I h) fun v s1 ⟨x,H1,I1,r1,ty,q1⟩=>?_)
  obtain⟨h1,h2⟩:=tyV_is I1 r1 ty
  refine⟨T,id,pa,slot,hty,h1,h2,?_⟩
  have hA:=ha cpos pins s1 σ H1 _ I1 q1
  rw[hs] at hA ⊢
  refine Calls.callWith_builtin (by show(false || (backTo cpos (starEach es X.env)).any (·.1))=false;rw[hplain]<;>rfl) (Calls.evalArgs_plain ?_)
  exact thn hA fun us s2 ⟨vs,H2,I2,r2,q2⟩=>hm pins s2 σ H2 x vs v us Q I2 r1 r2 q2
end
end L2
namespace L2
open PySem PySem.Spec PyProof.Rows
def MtM(X:Cx)(id:String)(r:V→List V→Hp→VK→Prop):Prop :=
  ∀(pins:List (Addr×Obj))(s:Shared)(σ:St)(H:Hp)(x:V)(xs:List V)(v:Value)(us:List Value)(Q:VK),Inv X pins σ H s→RelV x v→Vals xs us→r x xs H Q →
    wpAny (model X.prog X.w) X.A (call (.builtin id) (v::us)) (EP X pins σ Q) X.xe s
theorem Vals.one:∀{x:V} {us:List Value},Vals [x] us→∃u,us=[u]∧RelV x u
  | _,_,.cons r .nil=>⟨_,rfl,r⟩
theorem Vals.two:∀{x y:V} {us:List Value},Vals [x,y] us→∃u v,us=[u,v]∧RelV x u∧RelV y v
  | _,_,_,.cons r (.cons q .nil)=>⟨_,_,rfl,r,q⟩
theorem Vals.zero:∀{us:List Value},Vals [] us→us=[]
  | _,.nil=>rfl
section
variable {X:Cx}{pins:List (Addr×Obj)}{σ:St}{H:Hp}{s:Shared}{l b:Addr}{xs ys zs:List V}
theorem Inv.lset{its its':List Value}{n:Nat}{f:Array Value→Array Value}{t':Nat}(I:Inv X pins σ H s)(hH:H l=some (.lst xs))(e:s.heap.get? l=some { cls:=.type "list",data:=.seq its.toArray n })(hf:f its.toArray=its'.toArray)(hv:Vals ys its')(hz:ys.length≤sizeLine) :
    Inv X pins σ (upd H l (.lst ys)) { s with heap:=s.heap.update l (Obj.mapSeq f),toks:=t' }:=by
  have q:=PySem.IsL.update e f
  rw[hf] at q
  refine I.write (x:=l) (e:=l) (by rw[hH];exact trivial) (.inl rfl) (fun b' u hb hu=>(Heap.get?_update_other s.heap (Obj.mapSeq f) (Ne.symm hb)).trans hu) ⟨_,q⟩ ?_
  exact⟨hz,its',_,hv,q⟩
theorem Inv.lnew(I:Inv X pins σ H s)(hv:Vals ys its)(hz:ys.length≤sizeLine) :
    Inv X pins σ (upd H s.heap.objs.size (.lst ys)) { s with heap:=s.heap.push { cls:=.type "list",data:=.seq its.toArray },toks:=t' } :=
  I.laid (fun _ _ q=>Heap.get?_push_of_some _ q) (ZG _) ⟨hz,its,0,hv,Heap.get?_push_size _ rfl⟩
theorem Inv.fresh(I:Inv X pins σ H s):H s.heap.objs.size=none:=I.hok.fresh (ZG _)
theorem Inv.lstM(I:Inv X pins σ H s)(hH:H l=some (.lst xs)):xs.length≤sizeLine∧∃(its:List Value)(n:Nat),Vals xs its∧xs.length=its.length∧s.heap.get? l=some { cls:=.type "list",data:=.seq its.toArray n }:=by
  obtain⟨z,its,n,r,e⟩:=I.hok l _ hH
  exact⟨z,its,n,r,r.length,e⟩
end
section
variable {X:Cx}
inductive IrAppend  (x:V) (vs:List V) (H:Hp) (Q:VK):Prop
  | mk (l xs y) (e0:x=.ref l) (e1:vs=[y]) (e2:H l=some (.lst xs)) (e3:xs.length<sizeLine) (e4:Q .non (upd H l (.lst (xs++[y]))))
def rAppend:V→List V→Hp→VK→Prop:=fun x vs H Q=>IrAppend  x vs H Q
theorem mt_append:MtM X "list.append" rAppend:=by
  intro pins s σ H x vs v us Q I rx rv h
  obtain⟨l,xs,y,rfl,rfl,hH,hz,q⟩:=h
  cases rx
  obtain⟨u,rfl,ru⟩:=rv.one
  obtain⟨z,its,n,r,hl,e⟩:=I.lstM hH
  refine call_meets F.slot_list_append ⟨_,e,rfl⟩ F.entry_list_append (F.args_list_append_2 _ _) (PySem.list_append l its.toArray n u (by rw[List.size_toArray];lia)) ⟨e,?_⟩
  refine⟨.non,_,I.lset (its':=its++[u]) hH e (by simp) (r.append (.cons ru .nil)) ?_,rfl,q⟩
  rw[ZE,List.length_singleton]
  lia
inductive rCat(x:V)(y:V)(H:Hp)(Q:VK):Prop
  | mk l b xs zs (_:x=.ref l) (_:y=.ref b) (_:H l=some (.lst xs)) (_:H b=some (.lst zs)) (_:xs.length+zs.length≤sizeLine) (_:∀p,H p=none→Q (.ref p) (upd H p (.lst (xs++zs))))
theorem op_cat:OpR X (binaryOp .Add) rCat:=by
  intro pins s σ H x y v u Q I rx ry h
  obtain⟨l,b,xs,zs,rfl,rfl,hH,hB,hz,q⟩:=h
  cases rx
  cases ry
  obtain⟨z,its,n,r,hl,e⟩:=I.lstM hH
  obtain⟨z2,its2,n2,r2,hl2,e2⟩:=I.lstM hB
  refine PySem.P.add_list e e2 ?_ (by rw[List.size_toArray,List.size_toArray];lia)
  have ea:its.toArray++its2.toArray=(its++its2).toArray:=by simp
  rw[ea]
  exact⟨.ref _,_,I.lnew (t':=s.toks) (r.append r2) (by rw[ZE];lia),rfl,q _ I.fresh⟩
end
section
end
section
variable {X:Cx}
end
end L2
namespace Att
open PySem PySem.W PySem.Calls PyProof.Rows
theorem ints_of_wellAll:∀(ns:List Int)(vs:List Value),WellAll P h vs (ns.map WData.int)→IntsAre vs ns:=by
  intro ns
  induction ns with
  | nil =>
    intro vs w
    rw[List.map_nil] at w
    cases w
    exact .nil
  | cons n ns ih =>
    intro vs w
    rw[List.map_cons] at w
    cases w with
    | cons a b =>
      cases a
      exact .cons _ _ (ih _ b)
theorem script_of{l:OpenLaw}{n:Nat}(hn:l.most=some n){P:Params}{h:Heap}{args:List WData}{vals:List Value}(hpre:l.row.toRowW.claim.pre args=true)(hwl:WellAll P h vals args) :
    ∃a vs ns,vals=[Value.ref a]∧args=[WData.list (ns.map WData.int)]∧h.get? a=some { cls:=.type "list",data:=.seq vs.toArray }∧IntsAre vs ns∧ns.length≤n:=by
  have hsh:WShape.hasAll [] args [.list .int]=true:=(pre_splitW hpre).1
  have hc:l.pre.holds [] { args:=args }=true:=(pre_splitW hpre).2
  obtain⟨d,r,rfl,h1,h2⟩:=hasAllW_cons hsh
  obtain rfl:=hasAllW_nil h2
  obtain⟨xs,rfl,h3⟩:=hasW_list h1
  obtain⟨ns,rfl⟩:=items_int h3
  have hlen:ns.length≤n:=by
    unfold OpenLaw.pre at hc
    have h4:(WTm.not (.lt (.lit (.int (n:Int))) (.len (.arg 0)))).holds [] { args:=[.list (ns.map .int)] }=true:=by
      have h4:=(holds_andW hc).1
      rw[hn] at h4
      exact h4
    have h5:=condW_of h4 (w_not (w_lt w_lit (w_len_list (w_arg rfl))))
    rw[ZA] at h5
    refine Nat.le_of_not_lt fun q=>?_
    have q':(n:Int)<((ns.length:Nat):Int):=by lia
    first
      | (rw[decide_eq_true q'] at h5;exact absurd h5 (by decide))
      | (simp at h5;lia)
  cases hwl with
  | cons w1 w2 =>
    cases w2
    cases w1 with
    | list ho hall=>exact⟨_,_,ns,rfl,rfl,ho,ints_of_wellAll ns _ hall,hlen⟩
theorem post_true(l:OpenLaw)(args:List WData):l.row.toRowW.claim.post args (.bool true) args=true :=
  postW_of (r:=l.row.toRowW) (X:=(true==true))
    (show WShape.has [] (.bool true) .bool=true by first|rfl|decide|simp[WShape.has,WShape.arms,WShape.armsAll])
    (show(WTm.eq .res (.lit (.bool true))).value [] { args:=args,res:=some (.bool true),after:=args }=some (.bool (true==true)) from w_eq_bool (w_res rfl) w_lit) rfl
theorem attach_call{l:OpenLaw}{n:Nat}{q:Program}{loose:List Str}{XP:(Str→Option Value)→Heap→Prop}{YP:World→Heap→Prop}{d:DefRec}(hn:l.most=some n)(hdf:d.params.defaults=[])(call:∀(w:World) (s₀ s₁:Shared) (mg mb:Str→Option Value) (fa:Addr) (o:Obj) (pm cd doc:Value) (a:Addr) (vs:List Value) (ns:List Int),
      Ground q loose [] XP w s₀ mg mb s₁.heap→YP w s₁.heap →
      s₁.heap.get? fa=some o→o.data=.func (docDef d.name d.params d.body d.scope pm cd doc)→s₁.heap.CodeRec cd d.name→mg d.name=some (.ref fa) →
      s₁.heap.get? a=some { cls:=.type "list",data:=.seq vs.toArray }→IntsAre vs ns→ns.length≤n→s₁.gens=#[] →
      codeAny (model l.prog w) callerA (.call (.ref fa) ⟨[.ref a],[]⟩) (fun r s'=>r=.ok (.ret (.bool true))∧OldK s₁.heap s'.heap∧s'.os=s₁.os∧AllBare s'.gens) s₁) :
    WalkO q loose XP YP l.row.toRowW d [] (fun f vs=>PySem.call f vs):=by
  intro w s₀ s₁ mg mb G Y fa o pm cd doc dV kV ho hd hcd hD hmg hg args vals as hpre hlay hrd hwl hlo
  obtain rfl:dV=.none:=Dflts.none hD hdf
  obtain rfl:kV=.none:=Dflts.noKw hD
  obtain⟨a,vs,ns,rfl,rfl,hobj,hints,hlen⟩:=script_of hn hpre hwl
  refine enter_call (codeAny_mono (call w s₀ s₁ mg mb fa o pm cd doc a vs ns G Y ho (fd_plain hd) hcd hmg hobj hints hlen hg) fun r s' hq=>?_)
  obtain⟨rfl,h2,h3,h4⟩:=hq
  exact⟨.inl ⟨.bool true,.bool true,[],rfl,fun _=>rfl,.bool true,post_true l _,fun _=>⟨List.Pairwise.nil,fun _ hm=>(nomatch hm)⟩⟩,h2,h3,h4⟩
section
variable {prog:Program}{w:World}{A:Around}{E:Value→Shared→Prop}{s:Shared}{K:Frag}
def ledger(h:Heap)(L d:Addr):List (Addr×Obj):=(List.range h.objs.size).filterMap fun a=>if a=L∨a=d then none else(h.get? a).map fun o=>(a,o)
end
end Att
namespace L2
open PySem PySem.Spec PyProof.Rows
theorem vals_ints:∀{vs:List Value} {ns:List Int},IntsAre vs ns→Vals (ns.map V.int) vs
  | _,_,.nil=>.nil
  | _,_,.cons n t h=>.cons ⟨t,rfl⟩ (vals_ints h)
def Only(H:Hp):Prop:=∀b,H b=none∨∃o xs,H b=some (.frz o (.lst xs))
theorem law_call{P:Program}{w:World}{K:PySem.W.Frag}{mg mb:Str→Option Value}{CX:CXT}{k:Nat}{fa a:Addr}{fd:FuncData}{x:Str}{sp:Sp}{s₁:Shared}{vs:List Value}{ns:List Int}(KX:K.In s₁.heap)(hns:s₁.heap.Ns mainGlobals mg)(hb:s₁.heap.Ns builtinsNs mb)(hbb:∀x:Str,x≠"__name__"→mb x=bootBuiltins x)(hlim:s₁.heap.NoLimit)(hg:s₁.gens=#[])(ha:s₁.heap.get? a=some { cls:=.type "list",data:=.seq vs.toArray })(hi:IntsAre vs ns)(hl:ns.length≤sizeLine)(hr:Room k callerA)(F:∀base:Heap,K.In base→base.Ns mainGlobals mg→FnOk P w K mg base CX k fa fd [x] sp)(hbind:∀(s:Shared) (u:Value),BindsTo s fd ⟨[u],[]⟩ [(x,u)])(hsp:∀H:Hp,Only H→SqL K H a (ns.map V.int)→sp [.ref a] H (fun v _=>v=.bl true) fun _ _ _=>False)(hCX:∀H e s',CX [] H s₁ (fun _ _ _=>False) e s'→False) :
    codeAny (model P w) callerA (.call (.ref fa) ⟨[.ref a],[]⟩) (fun r s'=>r=.ok (.ret (.bool true))∧OldK s₁.heap s'.heap∧s'.os=s₁.os∧AllBare s'.gens) s₁:=by
  have rv:=vals_ints hi
  have lenV:=hi.length
  have core:∀H:Hp,Only H→SqL K H a (ns.map V.int)→HOk P w H s₁.heap→(∀b,H b≠none→b=a)→(H a≠none→K.lookup a=none) →
      codeAny (model P w) callerA (.call (.ref fa) ⟨[.ref a],[]⟩) (fun r s'=>r=.ok (.ret (.bool true))∧OldK s₁.heap s'.heap∧s'.os=s₁.os∧AllBare s'.gens) s₁:=by
    intro H hO hS hok hA hK
    have base_of:∀{b:Addr} {o:Obj},s₁.heap.get? b=some o→H b=none→(hidT s₁.heap H).get? b=some o:=fun e n=>hidT_get e n
    have noA:∀{b:Addr} {o:Obj} {es:Array DictEntry} {ep:Nat},s₁.heap.get? b=some o→o.data=.dict es ep→H b=none:=fun{b o es ep} e d=>by
      cases q:H b with
      | none=>rfl
      | some u =>
        have e':b=a:=hA b (by rw[q];simp)
        subst e'
        rw[ha] at e;cases e
        have d':Data.seq vs.toArray _=Data.dict es ep:=d
        cases d'
    have nsK:∀{b:Addr} {m:Str→Option Value},s₁.heap.Ns b m→(hidT s₁.heap H).Ns b m:=fun{b m} ⟨o,es,ep,e,d,r⟩=>⟨o,es,ep,base_of e (noA e d),d,r⟩
    have hKb:K.In (hidT s₁.heap H):=fun b o e=>base_of (KX b o e) (by
      cases q:H b with
      | none=>rfl
      | some u =>
        have e':b=a:=hA b (by rw[q];simp)
        subst e'
        rw[hK (by rw[q];simp)] at e;cases e)
    have hM:Mod K mg (hidT s₁.heap H):=⟨hKb,nsK hns,⟨mb,nsK hb,hbb⟩,let⟨mc,h1,h2⟩:=hlim;⟨mc,nsK h1,h2⟩⟩
    have e0:Env0 P w K mg (hidT s₁.heap H) callerA [] s₁ H:=⟨rfl,hM,fun b o e=>of_hidT e,Nat.le_of_eq (hidT_size _ _),trivial,fun b hb=>absurd (show b∈([]:List Addr) from hb) (by simp),hok,.of_eq hg⟩
    refine codeAny_mono ((F _ hKb (nsK hns)).run callerA [] s₁ H ⟨[.ref a],[]⟩ [.ref a] [.ref a] _ _ hr e0 (hbind s₁ (.ref a)) (.cons rfl .nil) (hsp H hO hS)) fun r s' h=>?_
    cases r with
    | error e=>exact(hCX H e s' h).elim
    | ok fl =>
      cases fl with
      | next=>exact False.elim h
      | brk=>exact False.elim h
      | cont=>exact False.elim h
      | ret u =>
        obtain⟨v,H',os,bare,un,hok',r',q⟩:=h
        have q':v=.bl true:=q
        subst q'
        obtain rfl:u=Value.bool true:=r'
        refine⟨rfl,OldK.of_keep fun b o e=>?_,os,bare⟩
        cases q:H b with
        | none=>exact un.keep b o e q (by intro z;exact absurd (show b∈([]:List Addr) from z) (by simp)) (by simp)
        | some u =>
          rcases hO b with z|⟨ob,xs,z⟩
          · rw[q] at z;cases z
          · have z2:=un.frzs b ob _ z
            obtain⟨e1,_⟩:=hok b _ z
            obtain⟨e2,_⟩:=hok' b _ z2
            rw[e] at e1;cases e1
            exact e2
  cases hk:K.lookup a with
  | some o =>
    have e:=KX a o hk
    rw[ha] at e
    cases e
    refine core (fun _=>none) (fun _=>.inl rfl) (.inr ⟨_,vs.toArray,_,hk,rfl,rfl,rfl,by rw[List.size_toArray,lenV];exact hl,by simpa using rv⟩) (fun b u z=>by have z':(none:Option HO)=some u:=z;cases z') (fun b z=>absurd rfl z) fun z=>absurd rfl z
  | none =>
    refine core (fun b=>if b=a then some (.frz { cls:=.type "list",data:=.seq vs.toArray } (.lst (ns.map V.int))) else none) (fun b=>?_) (.inl (.inr ⟨{ cls:=.type "list",data:=.seq vs.toArray },if_pos rfl⟩)) (fun b u z=>?_) (fun b z=>?_) fun _=>hk
    · by_cases hb:b=a
      · exact .inr ⟨_,_,if_pos hb⟩
      · exact .inl (if_neg hb)
    · by_cases hb:b=a
      · have z':=(if_pos hb).symm.trans z
        cases z'
        subst hb
        exact⟨ha,by rw[ZA];exact hl,vs,_,rv,ha⟩
      · have z':=(if_neg hb).symm.trans z
        cases z'
    · by_cases hb:b=a
      · exact hb
      · exact absurd (if_neg hb) z
end L2
namespace L2
open PySem PySem.Spec PyProof.Rows
abbrev KOf{K:PySem.W.Frag}{h:Heap}(_:K.In h):PySem.W.Frag:=K
theorem walk_of{l:PySem.W.OpenLaw}{n k:Nat}{q:Program}{loose:List Str}{XP:(Str→Option Value)→Heap→Prop}{YP:World→Heap→Prop}{d:DefRec}{K:Params→PySem.W.Frag}{CX:World→CXT}{sp:World→Sp}{x:Str}(hn:l.most=some n)(hn2:n≤sizeLine)(hdf:d.params.defaults=[])(hr:Room k callerA)(hY:∀(w:World) (h:Heap),YP w h→(K w.params).In h)(F:∀(w:World) (mg:Str→Option Value) (fa:Addr) (h:Heap),(K w.params).In h→h.Ns mainGlobals mg→mg d.name=some (.ref fa) →
      ∃fd:FuncData,(∀(s:Shared) (u:Value),BindsTo s fd ⟨[u],[]⟩ [(x,u)]) ∧
        ∀base:Heap,(K w.params).In base→base.Ns mainGlobals mg→FnOk l.prog w (K w.params) mg base (CX w) k fa fd [x] (sp w))(hsp:∀(w:World) (H:Hp) (a:Addr) (ns:List Int),ns.length≤n→Only H→SqL (K w.params) H a (ns.map V.int)→sp w [.ref a] H (fun v _=>v=.bl true) fun _ _ _=>False)(hCX:∀(w:World) (H:Hp) (s:Shared) (e:Value) (s':Shared),CX w [] H s (fun _ _ _=>False) e s'→False) :
    PySem.W.WalkO q loose XP YP l.row.toRowW d [] (fun f vs=>PySem.call f vs):=by
  refine Att.attach_call hn hdf fun w s₀ s₁ mg mb fa o pm cd doc a vs ns G Y ho hd hcd hmg hobj hints hlen hg=>?_
  have KX:=hY w _ Y
  obtain⟨fd,hb,hF⟩:=F w mg fa _ KX G.T.g hmg
  exact law_call KX G.T.g G.T.b G.T.builtins G.T.nolimit hg hobj hints (Nat.le_trans hlen hn2) hr hF hb (fun H hO hS=>hsp w H a ns hlen hO hS) fun H e s'=>hCX w H s₁ e s'
end L2
namespace L2
open PySem PySem.Spec PyProof.Rows
def inClass(s:Stmt)(j:Nat):Stmt:=match s with
  | .ClassDef _ _ _ body _ _ _ _ _ _ _=>body.getD j (.Pass ⟨0,0,0,0⟩)
  | _=>.Pass ⟨0,0,0,0⟩
def defArgs(s:Stmt):Arguments:=match s with
  | .FunctionDef _ a _ _ _ _ _ _ _ _=>a
  | _=>{ posonlyargs:=[],args:=[],vararg:=none,kwonlyargs:=[],kw_defaults:=[],kwarg:=none,defaults:=[] }
def defBody(s:Stmt):List Stmt:=match s with
  | .FunctionDef _ _ b _ _ _ _ _ _ _=>b
  | _=>[]
def defScope(s:Stmt):Scope:=match s with
  | .FunctionDef _ _ _ _ _ _ sc _ _ _=>sc
  | _=>{ kind:=.function,names:=[],isGenerator:=false,isCoroutine:=false }
abbrev CX0:CXT:=fun _ _ _ _ _ _=>False
abbrev E0:XK:=fun _ _ _=>False
theorem pass0:Passes CX0 X E0:=fun _ _ _ _ _ _ _ h=>h.elim
structure Fun(K:PySem.W.Frag)(x qual:Str)(st:Stmt)(f:Addr)(fd:FuncData):Prop where
  ex:∃(oc:Value)(od:Option Addr)(kV doc pm:Value)(an:Option Addr)(cdv ct:Value)(osl:Array (Option Value)),
    fd=PySem.W.fnOf x qual (defArgs st) (defBody st) (defScope st) .none kV doc pm an cdv ct∧K.lookup f=some ⟨oc,od,.func fd,osl⟩∧PySem.W.codeIn K cdv qual=true
  kp:PySem.W.keepIn K (.ref f)=true
section
variable {P:Program}{w:World}{K:PySem.W.Frag}{mg:Str→Option Value}{base:Heap}
theorem Fun.ok{x qual:Str}{st:Stmt}{f:Addr}{fd:FuncData}{N ps:List Str}{k:Nat}{sp:Sp}(F:Fun K x qual st f fd)(S:FnScope N ps (defScope st))(len:∀vs H Q E,sp vs H Q E→vs.length=ps.length)(hbody:∀(cdv:Value) (A:Around) (outer:List Env) (s:Shared) (H:Hp) (vs:List V) (Q:VK) (E:XK),Room k (A.deeper (envOfC qual (defScope st) s.heap.objs.size f cdv))→sp vs H Q E →
      ∃t,PSs (cxOf CX0 P w K mg base N qual (defScope st) f cdv A outer s H E).nox (defBody st) t∧t { nx:=fun _ H'=>Q .non H',rt:=Q } (start N vs) H):FnOk P w K mg base CX0 (k+1) f fd ps sp:=by
  obtain⟨oc,od,kV,doc,pm,an,cdv,ct,osl,rfl,lk,hcd⟩:=F.ex
  refine fn_of lk hcd S len fun A outer s H vs Q E hr hsp=>?_
  obtain⟨t,h,q⟩:=hbody cdv A outer s H vs Q E hr hsp
  exact⟨t,h.nox,q⟩
def Bd(P:Program)(w:World)(K:PySem.W.Frag)(mg:Str→Option Value)(base:Heap)(CX:CXT)(b:Bool)(N ps:List Str)(qual:Str)(st:Stmt)(f:Addr)(k:Nat)(vs:List V)(H:Hp)(Q:VK)(E:XK):Prop :=
  vs.length=ps.length∧∀(cdv:Value)(A:Around)(outer:List Env)(s:Shared),Room k (A.deeper (envOfC qual (defScope st) s.heap.objs.size f cdv)) →
      ∃t,PSs (bif b then(cxOf CX P w K mg base N qual (defScope st) f cdv A outer s H E).nox else cxOf CX P w K mg base N qual (defScope st) f cdv A outer s H E) (defBody st) t∧t { nx:=fun _ H'=>Q .non H',rt:=Q } (start N vs) H
theorem Fun.ok2{x qual:Str}{st:Stmt}{f:Addr}{fd:FuncData}{N ps:List Str}{k:Nat}{sp:Sp}(F:Fun K x qual st f fd)(S:FnScope N ps (defScope st))(h:∀vs H Q E,sp vs H Q E→Bd P w K mg base CX0 true N ps qual st f k vs H Q E):FnOk P w K mg base CX0 (k+1) f fd ps sp :=
  F.ok S (fun vs H Q E z=>(h vs H Q E z).1) fun cdv A outer s H vs Q E hr z=>(h vs H Q E z).2 cdv A outer s hr
theorem Fun.binds{x qual:Str}{st:Stmt}{f:Addr}{fd:FuncData}{ps:List Str}(F:Fun K x qual st f fd)(h:∀(kV doc pm:Value) (an:Option Addr) (cdv ct:Value) (us:List Value),us.length=ps.length→bindArgs (PySem.W.fnOf x qual (defArgs st) (defBody st) (defScope st) .none kV doc pm an cdv ct) ⟨us,[]⟩=pure (ps.zip us)):Binds K fd ps []:=by
  obtain⟨oc,od,kV,doc,pm,an,cdv,ct,osl,rfl,lk,hcd⟩:=F.ex
  exact .all (h kV doc pm an cdv ct)
end
theorem hu_of(hr:Room k A):A.units+1<cLine:=Nat.lt_of_le_of_lt (Nat.add_le_add_left (by decide:1≤64) _) hr.units
theorem small1000(h:n≤1000):n<sizeLine:=Nat.lt_of_le_of_lt h (by decide)
section
variable {X:Cx}
theorem pv(i:Nat)(hN:X.N[i]?=some x:=by rfl)(hv:Vis X.env.scope x:=by first|exact Or.inl rfl|exact Or.inr (Or.inl rfl)|exact Or.inr (Or.inr rfl))(hd:(x==("__debug__":Str))=false:=by decide)(hcd:(x==("__classdict__":Str))=false:=by decide):PE X (.Name x pos) (tVar i):=pe_var hN hv hd hcd
inductive Rcall_lenD(xs:List V)(H:Hp)(Q:VK):Prop
  | mk a kvs (_:xs=[V.ref a]) (_:H a=some (.dK kvs)) (_:Q (.int kvs.length) H)
theorem call_lenD:CallR X (.builtin "len") Rcall_lenD:=by
  intro pins s σ H xs us Q I r h
  obtain⟨a,kvs,rfl,ha,q⟩:=h
  obtain⟨u,rfl,ru⟩:=vals1 r
  cases ru
  exact d_len I (.inl ha) fun t s' I'=>⟨.int kvs.length,H,I',⟨t,rfl⟩,q⟩
end
theorem iteF{A B:Prop}(h:B):if false=true then A else B:=by
  rw[if_neg Bool.false_ne_true]
  exact h
theorem iteT{A B:Prop}(h:A):if true=true then A else B:=by
  rw[if_pos rfl]
  exact h
theorem ite2{c A B:Prop}[Decidable c](h1:c→A)(h2:¬c→B):if c then A else B:=by
  by_cases h:c
  · rw[if_pos h]
    exact h1 h
  · rw[if_neg h]
    exact h2 h
def Same(H H':Hp):Prop:=∀b o,H b=some o→H' b=some o
theorem Same.refl(H:Hp):Same H H:=fun _ _ h=>h
theorem Same.seq{K:PySem.W.Frag}{H H':Hp}{a:Addr}{xs:List V}(e:Same H H')(h:SqL K H a xs):SqL K H' a xs:=by
  rcases h with(h|⟨o,h⟩)|h
  · exact .inl (.inl (e _ _ h))
  · exact .inl (.inr ⟨o,e _ _ h⟩)
  · exact .inr h
section
variable {κ:Type}[DecidableEq κ]
theorem nd_snoc:∀{l:List κ} {k:κ},l.Nodup→¬k∈l→(l++[k]).Nodup
  | [],k,_,_=>by simp
  | a::r,k,h,hk=>by
    obtain⟨h1,h2⟩:=List.nodup_cons.mp h
    show(a::(r++[k])).Nodup
    refine List.nodup_cons.mpr ⟨fun m=>?_,nd_snoc h2 fun m=>hk (List.mem_cons.mpr (Or.inr m))⟩
    rcases ZI m with q|q
    · exact h1 q
    · exact hk (List.mem_cons.mpr (Or.inl (ZK q).symm))
theorem dropK_pos{p:κ×V}{r:List (κ×V)}{k:κ}(e:p.1=k):dropK (p::r) k=dropK r k:=by
  unfold dropK
  rw[List.filter_cons,if_neg (by simp[e])]
theorem dropK_neg{p:κ×V}{r:List (κ×V)}{k:κ}(e:¬p.1=k):dropK (p::r) k=p::dropK r k:=by
  unfold dropK
  rw[List.filter_cons,if_pos (by simp[e])]
theorem dropK_no:∀{kvs:List (κ×V)} {k:κ},¬k∈kvs.map (·.1)→dropK kvs k=kvs
  | [],_,_=>rfl
  | p::r,k,h=>by
    have h':¬k∈r.map (·.1):=fun m=>by
      obtain⟨q,hq,e⟩:=ZN m
      exact h (List.mem_map.mpr ⟨q,List.mem_cons.mpr (Or.inr hq),e⟩)
    rw[dropK_neg fun e=>h (List.mem_map.mpr ⟨p,List.mem_cons.mpr (Or.inl rfl),e⟩),dropK_no h']
end
end L2
set_option maxHeartbeats 4000000
namespace FX
open PySem PySem.Spec PyProof.Rows L2
set_option linter.all false
inductive RepT(K:PySem.W.Frag)(H:Hp):V→PyData→Prop
  | non:RepT K H .non .none
  | bl (b:Bool):RepT K H (.bl b) (.bool b)
  | int (i:Int):RepT K H (.int i) (.int i)
  | str (x:Str):RepT K H (.str x) (.str x)
  | tup {a:Addr} {xs:List V} {ds:List PyData}:SqT K H a xs→xs.length=ds.length→(∀(j:Nat)(x:V)(d:PyData),xs[j]?=some x→ds[j]?=some d→RepT K H x d)→RepT K H (.ref a) (.tuple ds)
inductive Rep(K:PySem.W.Frag)(H:Hp):V→PyData→Prop
  | one {x:V} {d:PyData}:RepT K H x d→Rep K H x d
  | lst {a:Addr} {xs:List V} {ds:List PyData}:SqL K H a xs→Paired (RepT K H) xs ds→Rep K H (.ref a) (.list ds)
theorem paired_get:∀{xs:List α} {ys:List β},Paired R xs ys→∀(j:Nat)(x:α)(y:β),xs[j]?=some x→ys[j]?=some y→R x y
  | _,_,.nil,j,x,y,h,_=>by simp at h
  | _,_,.cons r t,0,x,y,h,h'=>by simp at h h';subst h;subst h';exact r
  | _,_,.cons r t,j+1,x,y,h,h'=>paired_get t j x y (by simpa using h) (by simpa using h')
theorem paired_of:∀{xs:List α} {ys:List β},xs.length=ys.length→(∀(j:Nat)(x:α)(y:β),xs[j]?=some x→ys[j]?=some y→R x y)→Paired R xs ys
  | [],[],_,_=>.nil
  | x::xs,y::ys,hl,h=>.cons (h 0 x y rfl rfl) (paired_of (by simpa using hl) fun j a b e1 e2=>h (j+1) a b (by simpa using e1) (by simpa using e2))
  | [],_::_,hl,_=>by simp at hl
  | _::_,[],hl,_=>by simp at hl
theorem RepT.tupP{K:PySem.W.Frag}{H:Hp}{a:Addr}{xs:List V}{ds:List PyData}(h:SqT K H a xs)(r:Paired (RepT K H) xs ds):RepT K H (.ref a) (.tuple ds) :=
  .tup h (Paired.length r) fun j x d e1 e2=>paired_get r j x d e1 e2
structure KeepT(H H':Hp):Prop where
  tup:∀a xs,H a=some (.tup xs)→H' a=some (.tup xs)
  frz:∀a o u,H a=some (.frz o u)→H' a=some (.frz o u)
theorem KeepT.trans(a:KeepT H H1)(b:KeepT H1 H2):KeepT H H2:=⟨fun c xs e=>b.tup c xs (a.tup c xs e),fun c o u e=>b.frz c o u (a.frz c o u e)⟩
theorem KeepT.of_same(s:Same H H'):KeepT H H':=⟨fun a xs e=>s a _ e,fun a o u e=>s a _ e⟩
theorem KeepT.sq{K:PySem.W.Frag}{H H':Hp}(k:KeepT H H'){a:Addr}{xs:List V}(h:SqT K H a xs):SqT K H' a xs:=by
  rcases h with(e|⟨o,e⟩)|z
  · exact .inl (.inl (k.tup a xs e))
  · exact .inl (.inr ⟨o,k.frz a o _ e⟩)
  · exact .inr z
theorem KeepT.upd(h:∀o',H p=some o'→(∀xs,o'≠.tup xs)∧∀b u,o'≠.frz b u):KeepT H (upd H p o) :=
  ⟨fun a xs e=>by
    have:a≠p:=fun z=>by subst z;exact(h _ e).1 xs rfl
    rw[upd_ne this];exact e,
   fun a b u e=>by
    have:a≠p:=fun z=>by subst z;exact(h _ e).2 b u rfl
    rw[upd_ne this];exact e⟩
theorem RepT.keep{K:PySem.W.Frag}{H H':Hp}(k:KeepT H H'){v:V}{d:PyData}(r:RepT K H v d):RepT K H' v d:=by
  induction r with
  | non=>exact .non
  | bl b=>exact .bl b
  | int i=>exact .int i
  | str x=>exact .str x
  | tup h hl _ ih=>exact .tup (k.sq h) hl fun j x d e1 e2=>ih j x d e1 e2
section
theorem readsAll_of:∀{xs:List V} {us:List Value} {ds:List PyData},Vals xs us→xs.length=ds.length →
    (∀(j:Nat)(x:V)(d:PyData),xs[j]?=some x→ds[j]?=some d→∀u,RelV x u→∃as,Reads h u d as)→∃as,ReadsAll h us ds as
  | _,_,[],.nil,_,_=>⟨[],.nil⟩
  | _,_,d::ds,.cons (a:=x) (b:=u) r t,hl,f=>by
    obtain⟨as,r1⟩:=f 0 x d rfl rfl u r
    obtain⟨bs,r2⟩:=readsAll_of t (by simpa using hl) fun j y e h1 h2=>f (j+1) y e (by simpa using h1) (by simpa using h2)
    exact⟨as++bs,.cons r1 r2⟩
  | _,_,_::_,.nil,hl,_=>by simp at hl
  | _,_,[],.cons _ _,hl,_=>by simp at hl
theorem RepT.reads(I:Inv X pins σ H s)(r:RepT X.K H v d):∀u,RelV v u→∃as,Reads s.heap u d as:=by
  induction r with
  | non=>intro u e;cases e;exact⟨_,.none⟩
  | bl b=>intro u e;cases e;exact⟨_,.bool b⟩
  | int i=>intro u e;obtain⟨t,rfl⟩:=e;exact⟨_,.int i t⟩
  | str x=>intro u e;obtain⟨t,rfl⟩:=e;exact⟨_,.str x t⟩
  | tup h hl _ ih =>
    intro u e
    cases e
    obtain⟨its,rv,⟨o,ho,hc,n,hd⟩,_⟩:=I.tuple h
    obtain⟨as,ra⟩:=readsAll_of rv hl fun j x d e1 e2=>ih j x d e1 e2
    exact⟨as,.tuple ho hc hd (by simpa using ra)⟩
theorem Rep.reads(I:Inv X pins σ H s)(r:Rep X.K H v d)(e:RelV v u):∃as,Reads s.heap u d as:=by
  cases r with
  | one r=>exact r.reads I u e
  | lst h p =>
    cases e
    obtain⟨its,rv,pl,_⟩:=I.list h
    obtain⟨o,ho,hc,n,hd⟩:=pl.isList
    obtain⟨as,ra⟩:=readsAll_of rv (Paired.length p) fun j x d e1 e2=>(paired_get p j x d e1 e2).reads I
    exact⟨_,.list ho hc hd (by simpa using ra)⟩
def Okd(d:PyData):Prop:=d.canLay0=true∧d.depth≤40
inductive IrEqD(K:PySem.W.Frag)(x:V)(y:V)(H:Hp)(Q:VK):Prop
  | mk (d e) (e0:Rep K H x d) (e1:Rep K H y e) (e2:Okd d) (e3:Okd e) (e4:Q (.bl (PyData.eqv d e)) H)
def rEqD(K:PySem.W.Frag):R2:=fun x y H Q=>IrEqD K x y H Q
inductive IrNeD(K:PySem.W.Frag)(x:V)(y:V)(H:Hp)(Q:VK):Prop
  | mk (d e) (e0:Rep K H x d) (e1:Rep K H y e) (e2:Okd d) (e3:Okd e) (e4:Q (.bl (!PyData.eqv d e)) H)
def rNeD(K:PySem.W.Frag):R2:=fun x y H Q=>IrNeD K x y H Q
theorem op_eqD(hu:X.A.units+64<cLine):OpR X (compareOp .Eq) (rEqD X.K):=by
  intro pins s σ H x y v u Q I rx ry h
  obtain⟨d,e,r1,r2,o1,o2,q⟩:=h
  obtain⟨as,g1⟩:=r1.reads I rx
  obtain⟨bs,g2⟩:=r2.reads I ry
  exact PySem.SeqAt.compareEq_reads g1 g2 o1.1 o2.1 (by have:=o1.2;lia) ⟨.bl _,H,I,rfl,q⟩
theorem op_neD(hu:X.A.units+64<cLine):OpR X (compareOp .NotEq) (rNeD X.K):=by
  intro pins s σ H x y v u Q I rx ry h
  obtain⟨d,e,r1,r2,o1,o2,q⟩:=h
  obtain⟨as,g1⟩:=r1.reads I rx
  obtain⟨bs,g2⟩:=r2.reads I ry
  exact PySem.SeqAt.compareNe_reads g1 g2 o1.1 o2.1 (by have:=o1.2;lia) ⟨.bl _,H,I,rfl,q⟩
theorem eqv_same(h:Okd d):PyData.eqv d d=true:=PySem.SeqAt.eqv_refl d h.1
theorem hu64(r:Room k A):A.units+64<cLine:=r.units
end
def viewO(p d:Addr):HO:=.ext fun h=>h.IsValuesView p d
section
theorem kv_vals:∀{kvs:List (κ×V)} {vs:List (κ×Value)},KV kvs vs→Vals (kvs.map (·.2)) (vs.map (·.2))
  | _,_,.nil=>.nil
  | _,_,.cons r t=>.cons r.2 (kv_vals t)
theorem mt_values:MtR X "dict.values" (fun x xs H Q=>∃d kvs,x=.ref d∧xs=[]∧H d=some (.dK kvs)∧∀p,H p=none→Q (.ref p) (upd H p (viewO p d))):=by
  intro pins s σ H x xs v us Q I rx rs h
  obtain⟨d,kvs,rfl,rfl,hd,q⟩:=h
  cases rx
  cases rs
  obtain⟨z,lo,vs,rel,dd⟩:=dk_of I.hok hd
  refine PySem.call_meetsIn PySem.F.slot_dict_values dd.typeIs PySem.F.entry_dict_values (PySem.F.args_dict_values_1 _) (meets_dict_values (mixKind X.prog X.w) d lo) ⟨⟨vs,dd⟩,?_⟩
  have hn:H s.heap.objs.size=none:=I.hok.fresh (ZG _)
  refine⟨.ref s.heap.objs.size,_,I.laid (a:=s.heap.objs.size) (o:=viewO s.heap.objs.size d) (t':=s.toks) (fun b o e=>Heap.get?_push_of_some _ e) (ZG _) ?_,rfl,q _ hn⟩
  have g:(s.heap.push { cls:=.type "dict_values",data:=.fields #[.ref d] }).get? s.heap.objs.size=some { cls:=.type "dict_values",data:=.fields #[.ref d] }:=Heap.get?_push_size _ rfl
  exact⟨⟨_,g,rfl,rfl⟩,⟨_,g⟩,fun h1 h2 ⟨o,e,r⟩ k=>⟨o,k o e,r⟩⟩
inductive Rcall_list_values(xs:List V)(H:Hp)(Q:VK):Prop
  | mk p d kvs (_:xs=[.ref p]) (_:H p=some (viewO p d)) (_:H d=some (.dK kvs)) (_:∀l,H l=none→Q (.ref l) (upd H l (.lst (kvs.map (·.2)))))
theorem call_list_values(hc:X.calm=true):CallR X (.type "list") Rcall_list_values:=by
  intro pins s σ H xs us Q I r h
  obtain⟨p,d,kvs,rfl,hp,hd,q⟩:=h
  obtain⟨u,rfl,rx⟩:=vals1 r
  cases rx
  obtain⟨z,lo,vs,rel,dd⟩:=dk_of I.hok hd
  obtain⟨ep,da⟩:=dd.dictAt
  have hv:s.heap.IsValuesView p d:=(I.hok p _ hp).1
  refine PySem.W.kdl_call (PySem.W.kdl_values (knd:=mixKind X.prog X.w) (r:=p) (d:=d) (kvs:=vs) (ep:=ep)) (I.ok.hd hc) ⟨hv,da⟩ (by rw[←rel.length];exact z) fun h' tk acc' c' kp e ha=>?_
  have hn:H s.heap.objs.size=none:=I.hok.fresh (ZG _)
  have e1:acc'.toList=vs.map (·.2):=PySem.W.kdl_vals_eq acc'.toList (by rw[Array.length_toList];exact ha.1) fun j v hj=>ha.2 j v (by rw[←Array.getElem?_toList];exact hj)
  refine⟨.ref s.heap.objs.size,_,I.laid (t':=tk) kp (ZG _) (show ObjOk X.prog X.w _ h' _ (.lst (kvs.map (·.2))) from⟨by rw[ZA];exact z,acc'.toList,c',?_,by simpa using e⟩),rfl,q _ hn⟩
  rw[e1]
  exact kv_vals rel
end
end FX
namespace FX
open PySem PySem.Spec PyProof.Rows L2
section
end
theorem same_new(hp:H p=none):Same H (upd H p o):=fun b u e=>by rw[upd_ne (ne_of_none e hp)];exact e
theorem same_trans(a:Same H H1)(b:Same H1 H2):Same H H2:=fun c o h=>b c o (a c o h)
theorem same_free(e:Same H H')(h:H' l=none):H l=none:=by
  cases q:H l with
  | none=>rfl
  | some o=>rw[e l o q] at h;cases h
theorem paired_erase:∀{xs:List α} {ys:List β} (j:Nat),Paired R xs ys→Paired R (xs.eraseIdx j) (ys.eraseIdx j)
  | _,_,_,.nil=>.nil
  | _,_,0,.cons _ t=>t
  | _,_,j+1,.cons r t=>.cons r (paired_erase j t)
theorem paired_snoc{α β:Type}{R:α→β→Prop}{x:α}{y:β}(r:R x y):∀{xs:List α} {ys:List β},Paired R xs ys→Paired R (xs++[x]) (ys++[y])
  | _,_,.nil=>.cons r .nil
  | _,_,.cons q t=>.cons q (paired_snoc r t)
theorem paired_mono{α β:Type}{R S:α→β→Prop}(f:∀a b,R a b→S a b):∀{xs:List α} {ys:List β},Paired R xs ys→Paired S xs ys
  | _,_,.nil=>.nil
  | _,_,.cons q t=>.cons (f _ _ q) (paired_mono f t)
theorem atI_at(h0:0≤i)(h:xs[i.toNat]?=some v):atI xs i=some v:=by
  have:=atI_nat h
  rwa [Int.toNat_of_nonneg h0] at this
theorem get_of_lt{α:Type}{xs:List α}{j:Nat}(h:j<xs.length):∃x,xs[j]?=some x:=⟨xs[j],List.getElem?_eq_some_iff.mpr ⟨h,rfl⟩⟩
theorem okAll(h:∀d∈ds,d.canLay0=true∧d.depth≤20):PyData.canLayAll0 ds=true∧PyData.depthAll ds≤20:=by
  induction ds with
  | nil=>exact⟨by simp[PyData.canLayAll0],by simp[PyData.depthAll]⟩
  | cons d ds ih =>
    obtain⟨a,b⟩:=ih fun e he=>h e (ZD _ he)
    obtain⟨c,g⟩:=h d (ZL ..)
    exact⟨by simp[PyData.canLayAll0,a,c],by simp only[PyData.depthAll];lia⟩
theorem okd_list(h:∀d∈ds,d.canLay0=true∧d.depth≤20):Okd (.list ds):=by
  obtain⟨a,b⟩:=okAll h
  exact⟨by simp only[PyData.canLay0];exact a,by simp only[PyData.depth];lia⟩
theorem okd_tuple(h:∀d∈ds,d.canLay0=true∧d.depth≤20):Okd (.tuple ds):=by
  obtain⟨a,b⟩:=okAll h
  exact⟨by simp only[PyData.canLay0];exact a,by simp only[PyData.depth];lia⟩
end FX
namespace FX
open PySem PySem.Spec PyProof.Rows L2
section
end
end FX
namespace FX
open PySem PySem.Spec PyProof.Rows L2
def Scr(K:PySem.W.Frag)(H:Hp)(a:Addr)(xs:List V):Prop:=(∃o,H a=some (.frz o (.lst xs)))∨∀H':Hp,SqL K H' a xs
theorem Scr.sq{K:PySem.W.Frag}{H:Hp}{a:Addr}{xs:List V}(h:Scr K H a xs):SqL K H a xs:=h.elim (fun⟨o,e⟩=>.inl (.inr ⟨o,e⟩)) fun z=>z H
theorem Scr.keep{K:PySem.W.Frag}{H H':Hp}{a:Addr}{xs:List V}(h:Scr K H a xs)(kt:KeepT H H'):Scr K H' a xs:=h.elim (fun⟨o,e⟩=>.inl ⟨o,kt.frz _ _ _ e⟩) fun z=>.inr z
theorem Scr.of{K:PySem.W.Frag}{H:Hp}{a:Addr}{xs:List V}(hO:Only H)(h:SqL K H a xs):Scr K H a xs:=by
  rcases h with(e|⟨o,e⟩)|z
  · rcases hO a with q|⟨o,ys,q⟩
    · rw[q] at e;cases e
    · rw[q] at e;cases e
  · exact .inl ⟨o,e⟩
  · exact .inr fun H'=>.inr z
end FX
namespace FX
open PySem PySem.Spec PyProof.Rows L2
theorem comp_loop{prog:Program}{w:World}{A:Around}{R:Result→Shared→Prop}{s:Shared}{elt target iter:Expr}{ifs:List Expr}{scope:Scope}{pos:Pos}{it acc:Value}{env:Env}(J:Nat→Shared→Prop)(turn:∀k s0,J k s0→wpAny (model prog w) A (pyNext it) (fun r s1=>match r with
      | none=>R (.ok .next) s1
      | some v=>wpAny (model prog w) A (letOwnedTupleGo target it v) (fun _ sg=>wpAny (model prog w) A (assign target env v) (fun _ s2 =>
          wpAny (model prog w) A (forIn ifs true fun c r=>if r=true then do let ok ←isTrue c env (eval c env);pure (ForInStep.yield ok) else pure (ForInStep.yield r)) (fun ok s3 =>
            if ok=true then wpAny (model prog w) A (eval elt env) (fun x s4 =>
              wpAny (model prog w) A (call (.builtin "list.append") [acc,x]) (fun _ s5=>∃m,m<k∧J m s5) (fun _ _=>False) s4) (fun _ _=>False) s3
            else ∃m,m<k∧J m s3) (fun _ _=>False) s2) (fun _ _=>False) sg) (fun _ _=>False) s1) (fun _ _=>False) s0)(k:Nat)(h:J k s):codeAny (model prog w) A (.compLoop (.ListComp elt [⟨target,iter,ifs,0⟩] scope pos) 0 it acc env) R s:=by
  refine codeAny_loop rfl J (fun k s0 hI=>?_) k h
  show wpAny _ A ((compTurn (.ListComp elt [⟨target,iter,ifs,0⟩] scope pos) 0 it acc env).onRaise (fun x=>do noteFrame x env;theTreesLotGoes x)) _ _ s0
  have no:∀{E:Value→Shared→Prop} (e:Value) (s':Shared),False→notedBy (model prog w) A env E e s':=fun _ _ z=>z.elim
  refine wpAny_noted ?_
  rw[compTurn_list]
  refine wpAny_bind (wpAny_standAt (wpAny_bind (wpAny_mono (turn k s0 hI) (fun r s1 h1=>?_) no)))
  cases r with
  | none=>exact wpAny_pure h1
  | some v =>
    refine wpAny_bind (wpAny_mono h1 (fun _ sg hg=>wpAny_bind (wpAny_mono hg (fun _ s2 h2=>wpAny_bind (wpAny_mono h2 (fun ok s3 h3=>?_) no)) no)) no)
    cases ok with
    | false =>
      simp only[Bool.false_eq_true,if_false] at h3 ⊢
      exact wpAny_pure ⟨rfl,h3⟩
    | true =>
      simp only[if_true] at h3 ⊢
      exact wpAny_bind (wpAny_bind (wpAny_mono h3 (fun x s4 h4=>wpAny_bind (wpAny_mono h4 (fun _ s5 h5=>wpAny_pure (wpAny_pure ⟨rfl,h5⟩)) no)) no))
def blk(X:Cx)(sc:Scope)(cl:List (Str×Addr))(C:Addr)(N:List Str)(s1:Shared)(H1:Hp)(fp:List Addr)(pins:List (Addr×Obj)):Cx where
  prog:=X.prog
  w:=X.w
  K:=X.K
  mg:=X.mg
  base:=X.base
  A:=X.A
  N:=N
  s₀:=s1
  H₀:=H1
  env:=compEnvC sc cl C X.env
  outer:=X.stack
  stack:=X.stack
  ex:=fp
  fn:=fun _=>false
  calm:=X.calm
  pn:=X.pn++pins
  xe:=fun _ _=>False
def InCells(cells:List (Str×Addr)):List (Str×Addr)→Prop
  | []=>True
  | (x,c)::r=>cells.lookup x=some c∧InCells cells r
theorem InCells.look{cells:List (Str×Addr)}:∀{cl:List (Str×Addr)} {x:Str} {c:Addr},InCells cells cl→cl.lookup x=some c→cells.lookup x=some c
  | [],_,_,_,e=>by simp at e
  | (y,d)::r,x,c,h,e=>by
    rw[List.lookup_cons] at e
    cases q:x==y with
    | true =>
      rw[q] at e
      have e1:x=y:=eq_of_beq q
      cases e
      rw[e1];exact h.1
    | false =>
      rw[q] at e
      exact InCells.look h.2 e
structure CapOk(X:Cx)(sc:Scope)(cl:List (Str×Addr))(p:Str×Nat):Prop where
  n:X.N[p.2]?=some p.1
  k:X.env.scope.names.lookup p.1=some .cell
  l:cl.lookup p.1=X.env.cells.lookup p.1
  f:(relabel sc X.env).names.lookup p.1=some .cell
def CapsOk(X:Cx)(sc:Scope)(cl:List (Str×Addr)):List (Str×Nat)→Prop
  | []=>True
  | p::r=>CapOk X sc cl p∧CapsOk X sc cl r
theorem CapsOk.at{X:Cx}{sc:Scope}{cl:List (Str×Addr)}:∀{caps:List (Str×Nat)} {j:Nat} {p:Str×Nat},CapsOk X sc cl caps→caps[j]?=some p→CapOk X sc cl p
  | [],_,_,_,e=>by simp at e
  | q::r,0,p,h,e=>by simp at e;subst e;exact h.1
  | q::r,j+1,p,h,e=>CapsOk.at h.2 (by simpa using e)
abbrev capn(caps:List (Str×Nat)):List Str:=caps.map fun p=>p.1
def capv(σ:L2.St)(caps:List (Str×Nat)):L2.St:=caps.map fun p=>(σ[p.2]?).join
section
variable {X:Cx}{sc:Scope}{cl:List (Str×Addr)}{pins:List (Addr×Obj)}{σ:L2.St}{H1:Hp}{s1:Shared}{fp:List Addr}{N:List Str}
theorem blk_ok(I:Inv X pins σ H1 s1)(hf:∀b∈fp,FpOk X pins H1 b)(ho:∀b∈fp,∃o,s1.heap.get? b=some o)(hk:sc.kind=.function)(hin:InCells X.env.cells cl)(has:∀x,((relabel sc X.env).names.lookup x=some .cell∨(relabel sc X.env).names.lookup x=some .free)→∃c,cl.lookup x=some c):(blk X sc cl s1.heap.objs.size N s1 H1 fp pins).Ok where
  mod:=I.ok.mod
  kind:=hk
  glob:=I.ok.glob
  blt:=I.ok.blt
  above:=ZG _
  inj:=fun x y c e1 e2=>I.ok.inj x y c (hin.look e1) (hin.look e2)
  has:=has
  cab:=fun x c e _=>by cases e
  hd:=I.ok.hd
  frames:=I.ok.frames
  stk:=.inl rfl
  exf:=fun b hb=>⟨fun z=>by
    obtain⟨o,e⟩:=ho b hb
    exact Nat.ne_of_lt (Heap.lt_size e) z,fun x c e=>(hf b hb).2.2.2.2.1 x c (hin.look e)⟩
  bs:=fun b o e=>I.bs b o e
  bsz:=Nat.le_trans I.ok.bsz I.sz
  noex:=fun b o e hb=>by
    rcases(hf b hb).2.2.2.1 with z|z
    · exact I.ok.noex b o e z
    · exact absurd (Nat.lt_of_lt_of_le (Nat.lt_of_lt_of_le (Heap.lt_size e) I.ok.bsz) z) (Nat.lt_irrefl _)
  exfs:=fun b hb z=>by
    rcases ZM (I.stkSub b z) with q|q
    · exact(hf b hb).2.1 q
    · exact(hf b hb).2.2.1 q
  funs:=I.stack
  frf:=fun b hb=>I.stkFree b hb
theorem blk_in{x:Str}{caps:List (Str×Nat)}{h':Heap}{m:Str→Option Value}{t':Nat}{o:Obj}(I:Inv X pins σ H1 s1)(ok:(blk X sc cl s1.heap.objs.size (x::capn caps) s1 H1 fp pins).Ok)(hin:InCells X.env.cells cl)(hcap:CapsOk X sc cl caps)(hx:(relabel sc X.env).names.lookup x=some .local)(hn:h'.Ns s1.heap.objs.size m)(hs:Heap.SameBut s1.heap.objs.size (s1.heap.push o) h') :
    Inv (blk X sc cl s1.heap.objs.size (x::capn caps) s1 H1 fp pins) [] (none::capv σ caps) H1 { s1 with heap:=h',toks:=t' }:=by
  have kp:∀b u,s1.heap.get? b=some u→h'.get? b=some u:=fun b u e=>(hs.2 b (Nat.ne_of_lt (Heap.lt_size e))).trans (Heap.get?_push_of_some _ e)
  have hfree:H1 s1.heap.objs.size=none:=I.hok.fresh (ZG _)
  refine⟨ok,rfl,I.bare,Un.kept kp,⟨m,hn,fun i y v e1 e2 e3=>?_⟩,fun y c e=>?_,hfree,fun y c e=>I.freeC y c (hin.look e),fun p hp=>?_,I.hok.kept kp,?_⟩
  · cases i with
    | zero=>simp at e2
    | succ j =>
      have e1':(x::capn caps)[j+1]?=some y:=e1
      rw[List.getElem?_cons_succ] at e1'
      have e2':(capv σ caps)[j]?=some (some v):=by simpa using e2
      rw[ZH] at e1'
      unfold capv at e2'
      rw[ZH] at e2'
      cases q:caps[j]? with
      | none=>rw[q] at e1';cases e1'
      | some p =>
        rw[q] at e1' e2'
        have e4:p.1=y:=ZO e1'
        have e5:(σ[p.2]?).join=some v:=ZO e2'
        have hc:=hcap.at q
        have e6:σ[p.2]?=some (some v):=by
          cases z:σ[p.2]? with
          | none=>rw[z] at e5;cases e5
          | some w' =>
            rw[z] at e5
            have:w'=some v:=e5
            rw[this]
        obtain⟨mm,hnn,hl⟩:=I.loc
        obtain⟨u,r,lk⟩:=hl p.2 p.1 v hc.n e6 (.inr (.inl hc.k))
        refine⟨u,r,.inr ⟨.inl (by rw[←e4];exact hc.f),?_⟩⟩
        rcases lk with⟨k1,_⟩|⟨_,c,hcl,ce⟩
        · have:X.env.scope.names.lookup p.1=some .local:=k1
          rw[hc.k] at this;cases this
        · obtain⟨oc,hoc,hd⟩:=ce
          exact⟨c,by rw[←e4];exact hc.l.trans hcl,oc,kp _ _ hoc,hd⟩
  · obtain⟨v,oc,hoc,hd⟩:=I.cell y c (hin.look e)
    exact⟨v,oc,kp _ _ hoc,hd⟩
  · have hp':p∈(X.pn++pins)++[]:=hp
    rw[List.append_nil] at hp'
    obtain⟨a1,a2,a3,a4,a5⟩:=I.pin p hp'
    refine⟨kp _ _ a1,a2,Nat.ne_of_lt (Heap.lt_size a1),fun z=>?_,a5⟩
    rcases ZM (I.stkSub _ z) with q|q
    · exact a3 q
    · exact a4 q
  · simp[capv,blk]
theorem blk_out{pins':List (Addr×Obj)}{σ':L2.St}{H':Hp}{s':Shared}(I:Inv X pins σ H1 s1)(hf:∀b∈fp,FpOk X pins H1 b)(I':Inv (blk X sc cl s1.heap.objs.size N s1 H1 fp pins) pins' σ' H' s'):Inv X pins σ H' s' :=
  I.call' (ch:=fp) I'.os I'.base I'.hok I'.bare fun b hb=>⟨(hf b hb).2.2.2.1,(hf b hb).2.1,(hf b hb).2.2.2.2.1,(hf b hb).2.2.2.2.2⟩
theorem blk_let{H':Hp}{s':Shared}{h':Heap}{σ2:L2.St}{sA:Shared}(I:Inv X pins σ H1 s1)(I2:Inv X pins σ2 H' sA)(hn:H' s1.heap.objs.size=none)(hs:Heap.SameBut s1.heap.objs.size sA.heap h'):Inv X pins σ2 H' { sA with heap:=h' } :=
  I2.turned (it:=s1.heap.objs.size) (t':=sA.toks) (fun b o hb e=>(hs.2 b hb).trans e) hn (Nat.ne_of_gt I.lt) (.inr I.sz) (fun x c e z=>by
    obtain⟨v,q⟩:=I.cell x c e
    exact absurd q.lt (by rw[z];exact Nat.lt_irrefl _)) fun p hp z=>by
    have:=Heap.lt_size (I.pin p hp).1
    rw[z] at this
    exact absurd this (Nat.lt_irrefl _)
end
def PTs(X:Cx)(ifs:List Expr)(t:TT):Prop :=
  ∀(pins:List (Addr×Obj))(s:Shared)(σ:L2.St)(H:Hp)(Q:Bool→Hp→Prop),Inv X pins σ H s→t σ H Q →
    wpAny (model X.prog X.w) X.A (forIn ifs true fun c r=>if r=true then do let ok ←isTrue c X.env (eval c X.env);pure (ForInStep.yield ok) else pure (ForInStep.yield r)) (TP X pins σ Q) X.xe s
theorem pts_nil{X:Cx}:PTs X [] (fun _ H Q=>Q true H):=fun pins s σ H Q I h=>wpAny_tests_nil ⟨H,I,h⟩
theorem pts_one{X:Cx}{c:Expr}{t:TT}(h:PT X c t):PTs X [c] t:=fun pins s σ H Q I hw=>wpAny_tests_one (h pins s σ H Q I hw)
def tComp(wi:TI)(caps:List (Str×Nat))(tt:TT)(te:TE):TE:=fun σ H Q=>wi σ H fun J H1=>∀p,H1 p=none→∃W:Nat→Nat→List V→Hp→Prop,(∃m,W 0 m [] (upd H1 p (.lst [])))∧∀i m ys H2,W i m ys H2→H2 p=some (.lst ys) ∧
  ((J.stop i H2∧Q (.ref p) H2)∨(J.go i H2∧∀x H3,J.yld i H2 x H3→tt (some x::capv σ caps) H3 fun b H4 =>
    if b=true then te (some x::capv σ caps) H4 fun v H5=>H5 p=some (.lst ys)∧ys.length<sizeLine∧∃m',m'<m∧W (i+1) m' (ys++[v]) (upd H5 p (.lst (ys++[v])))
    else ∃m',m'<m∧W (i+1) m' ys H4))
section
variable {X:Cx}{elt iter:Expr}{x:Str}{px pos:Pos}{ifs:List Expr}{sc:Scope}{cl:List (Str×Addr)}{caps:List (Str×Nat)}{wi:TI}{tt:TT}{te:TE}
theorem comp_core{pins:List (Addr×Obj)}{σ:L2.St}{H:Hp}{s:Shared}{Q:VK}{use:Option (Value→Sem Unit)}{RQ:Value→Shared→Prop}(hc:X.calm=true)(hi:PI X (.Name x px) iter wi)(hclos:closureFor sc X.env=pure cl)(hcell:∀y∈sc.names,y.2≠.cell)(hkind:sc.kind=.function)(hnames:∀y∈sc.names,y.2=.local→sc.names.lookup y.1=some .local)(hx:sc.names.lookup x=some .local)(hin:InCells X.env.cells cl)(has:∀y,((relabel sc X.env).names.lookup y=some .cell∨(relabel sc X.env).names.lookup y=some .free)→∃c,cl.lookup y=some c)(hcap:CapsOk X sc cl caps)(hN:(x::capn caps).Nodup)(ht:∀C s1 H1 fp pins,PTs (blk X sc cl C (x::capn caps) s1 H1 fp pins) ifs tt)(he:∀C s1 H1 fp pins,PE (blk X sc cl C (x::capn caps) s1 H1 fp pins) elt te)(I:Inv X pins σ H s)(h:tComp wi caps tt te σ H Q)(fin:∀(C D:Addr) (H':Hp) (s1 s':Shared) (H1:Hp),C=s1.heap.objs.size→Inv X pins σ H1 s1→Inv X pins σ H' s'→H' C=none→(∃m,s'.heap.Ns C m)→Q (.ref D) H'→compPost (model X.prog X.w) X.A X.xe use RQ (.ref D) C (.ok .next) s')(hs:∀v,foldedSetIterable iter X.env v=pure v) :
    wpAny (model X.prog X.w) X.A (comprehension (.ListComp elt [⟨.Name x px,iter,ifs,0⟩] sc pos) sc X.env (firstIterPos [⟨.Name x px,iter,ifs,0⟩] pos) (newList []) false (eval iter X.env) use) RQ X.xe s:=by
  refine wpAny_comprehension_free rfl hs hclos hkind hnames (thn (hi pins s σ H _ I h) fun v s1 h1=>thn h1 fun itv s2 h2=>?_)
  obtain⟨it,fp,tn,J,H2,e,I2,T,st2,f2,hW⟩:=h2
  subst e
  refine wpAny_newObj_type ?_
  have hfresh:H2 s2.heap.objs.size=none:=I2.hok.fresh (ZG _)
  have I3:Inv X pins σ (upd H2 s2.heap.objs.size (.lst [])) { s2 with heap:=s2.heap.push { cls:=.type "list",dict:=none,data:=.seq ([]:List Value).toArray } }:=I2.lnew (t':=s2.toks) (its:=[]) .nil (Nat.zero_le _)
  obtain⟨W,⟨m0,w0⟩,turn⟩:=hW s2.heap.objs.size hfresh
  have fpn:∀b∈fp,b≠s2.heap.objs.size:=fun b hb z=>by
    obtain⟨o,e,_⟩:=T.obj 0 _ st2 b hb
    exact absurd (Heap.lt_size e) (by rw[z];exact Nat.lt_irrefl _)
  have f3:∀b∈fp,FpOk X pins (upd H2 s2.heap.objs.size (.lst [])) b:=fun b hb=>⟨by rw[upd_ne (fpn b hb)];exact(f2 b hb).1,(f2 b hb).2⟩
  have st3:tn 0 (s2.heap.push { cls:=.type "list",dict:=none,data:=.seq ([]:List Value).toArray }):=T.keep 0 _ _ st2 fun b hb o e=>Heap.get?_push_of_some _ e
  obtain⟨D,hD⟩:∃D,D=s2.heap.objs.size:=⟨_,rfl⟩
  obtain⟨H3,hH3⟩:∃H3,H3=upd H2 s2.heap.objs.size (.lst []):=⟨_,rfl⟩
  obtain⟨s3,hs3⟩:∃s3:Shared,s3={ s2 with heap:=s2.heap.push { cls:=.type "list",dict:=none,data:=.seq ([]:List Value).toArray } }:=⟨_,rfl⟩
  have st3':tn 0 s3.heap:=by rw[hs3];exact st3
  rw[←hH3] at I3 f3 w0
  rw[←hs3] at I3
  rw[←hD] at turn
  show wpAny _ _ _ _ _ ({ s2 with heap:=s2.heap.push { cls:=.type "list",dict:=none,data:=.seq ([]:List Value).toArray } }:Shared)
  rw[←hs3,←hD]
  refine wpAny_newFunctionEnv hcell (by intro y hy;simp at hy) (fun h1 hn1 hs1=>?_) hkind
  have ok:=blk_ok (N:=x::capn caps) I3 f3 (fun b hb=>let⟨o,e,_⟩:=T.obj 0 _ st3' b hb;⟨o,e⟩) hkind hin has
  have hx':(relabel sc X.env).names.lookup x=some .local:=lookup_relabel_local hx
  have J4:=blk_in (t':=s3.toks+([]:List (Str×Value)).length) I3 ok hin hcap hx' hn1 hs1
  have st4:tn 0 h1:=T.keep 0 _ _ st3' fun b hb o e=>(hs1.2 b (Nat.ne_of_lt (Heap.lt_size e))).trans (Heap.get?_push_of_some _ e)
  have stat:∀{H':Hp},(∀b∈fp,H' b=none)→∀b∈fp,FpOk (blk X sc cl s3.heap.objs.size (x::capn caps) s3 H3 fp pins) [] H' b:=fun hn b hb=>by
    refine⟨hn b hb,?_,fun z=>ok.exfs b hb z,.inl hb,fun y c e=>(f3 b hb).2.2.2.2.1 y c (hin.look e),fun p hp=>?_⟩
    · exact(ok.exf b hb).1
    · have hp':p∈(X.pn++pins)++[]:=hp
      rw[List.append_nil] at hp'
      exact(f3 b hb).2.2.2.2.2 p hp'
  have loop:∀s4:Shared,s4={ s3 with heap:=h1,toks:=s3.toks+([]:List (Str×Value)).length } →
      codeAny (model X.prog X.w) X.A (.compLoop (.ListComp elt [⟨.Name x px,iter,ifs,0⟩] sc pos) 0 (.ref it) (.ref D) (compEnvC sc cl s3.heap.objs.size X.env)) (compPost (model X.prog X.w) X.A X.xe use RQ (.ref D) s3.heap.objs.size) s4:=by
    rintro s4 rfl
    refine comp_loop (fun k s'=>∃i v0 ys H',Inv (blk X sc cl s3.heap.objs.size (x::capn caps) s3 H3 fp pins) [] (v0::capv σ caps) H' s'∧tn i s'.heap∧(∀b∈fp,H' b=none)∧W i k ys H') ?_ m0
      ⟨0,none,[],H3,J4,st4,fun b hb=>(f3 b hb).1,w0⟩
    rintro k s5 ⟨i,v0,ys,H5,I5,st5,fr5,w5⟩
    obtain⟨hD5,stop|⟨go,step⟩⟩:=turn i k ys H5 w5
    · obtain⟨stop,q⟩:=stop
      refine thn (T.done (blk X sc cl s3.heap.objs.size (x::capn caps) s3 H3 fp pins) rfl rfl rfl hc i [] s5 _ H5 (fun _ _=>False) I5 (stat fr5) st5 stop) ?_
      rintro r s6 ⟨hr,I6⟩
      subst hr
      obtain⟨mm,hnn,_⟩:=I6.loc
      exact fin _ D H5 s3 s6 H3 rfl I3 (blk_out I3 f3 I6) I6.free ⟨mm,hnn⟩ q
    · refine thn (T.item (blk X sc cl s3.heap.objs.size (x::capn caps) s3 H3 fp pins) rfl rfl rfl hc i [] s5 _ H5 (fun _ _=>False) I5 (stat fr5) st5 go) ?_
      rintro r s6 ⟨u,hr,h6⟩
      subst hr
      refine thn h6 ?_
      rintro _ s7 ⟨y,H7,I7,r7,y7,st7,fr7⟩
      have I7':=I7.pinned (stat fr7) (T.obj _ _ st7)
      refine thn (pg_name (X:=blk X sc cl s3.heap.objs.size (x::capn caps) s3 H3 fp pins) (i:=0) hN rfl (.inl hx') (.inr hx') _ s7 (v0::capv σ caps) H7 y u (fun σ' H'=>σ'=some y::capv σ caps∧H'=H7) I7' r7 ⟨rfl,rfl⟩) ?_
      rintro _ s8 ⟨σ8,H8,I8,e8,e8'⟩
      subst e8
      subst e8'
      have back:∀{σ9:L2.St} {H9:Hp} {s9:Shared},Inv (blk X sc cl s3.heap.objs.size (x::capn caps) s3 H3 fp pins) ([]++pinsAt fp s7.heap) σ9 H9 s9→tn (i+1) s9.heap∧∀b∈fp,H9 b=none:=fun{σ9 H9 s9} I9=>by
        refine⟨T.keep _ _ _ st7 fun b hb o e=>(I9.pin (b,o) (ZC _ (ZC _ (mem_pinsAt hb e)))).1,fun b hb=>?_⟩
        obtain⟨o,e,d⟩:=T.obj _ _ st7 b hb
        exact(I9.pin (b,o) (ZC _ (ZC _ (mem_pinsAt hb e)))).2.1
      refine thn (ht _ _ _ _ _ _ s8 _ _ _ I8 (step y _ y7)) ?_
      rintro ok s9 ⟨H9,I9,q9⟩
      cases ok with
      | false =>
        simp only[Bool.false_eq_true,if_false] at q9 ⊢
        obtain⟨m',hm,w9⟩:=q9
        exact⟨m',hm,i+1,some y,ys,H9,I9.unpinned,(back I9).1,(back I9).2,w9⟩
      | true =>
        simp only[if_true] at q9 ⊢
        refine thn (he _ _ _ _ _ _ s9 _ _ _ I9 q9) ?_
        rintro xv s10 ⟨v,H10,I10,r10,hD10,hlt,m',hm,w10⟩
        refine thn (mt_append (X:=blk X sc cl s3.heap.objs.size (x::capn caps) s3 H3 fp pins) _ s10 _ H10 (.ref D) [v] (.ref D) [xv] (fun _ H'=>H'=upd H10 D (.lst (ys++[v]))) I10 rfl (.cons r10 .nil) ⟨D,ys,v,rfl,rfl,hD10,hlt,rfl⟩) ?_
        rintro _ s11 ⟨_,H11,I11,_,e11⟩
        subst e11
        exact⟨m',hm,i+1,some y,ys++[v],_,I11.unpinned,(back I11).1,(back I11).2,w10⟩
  exact codeAny_compStart_list (loop _ rfl) (T.self _ 0 _ _ _ st4 (loop _ rfl))
theorem pe_comp(hc:X.calm=true)(hi:PI X (.Name x px) iter wi)(hclos:closureFor sc X.env=pure cl)(hcell:∀y∈sc.names,y.2≠.cell)(hkind:sc.kind=.function)(hnames:∀y∈sc.names,y.2=.local→sc.names.lookup y.1=some .local)(hx:sc.names.lookup x=some .local)(hin:InCells X.env.cells cl)(has:∀y,((relabel sc X.env).names.lookup y=some .cell∨(relabel sc X.env).names.lookup y=some .free)→∃c,cl.lookup y=some c)(hcap:CapsOk X sc cl caps)(hN:(x::capn caps).Nodup)(ht:∀C s1 H1 fp pins,PTs (blk X sc cl C (x::capn caps) s1 H1 fp pins) ifs tt)(he:∀C s1 H1 fp pins,PE (blk X sc cl C (x::capn caps) s1 H1 fp pins) elt te)(hs:∀v,foldedSetIterable iter X.env v=pure v:=by intro _;rfl):PE X (.ListComp elt [⟨.Name x px,iter,ifs,0⟩] sc pos) (tComp wi caps tt te):=by
  intro pins s σ H Q I h
  rw[eval_ListComp]
  refine comp_core (use:=none) hc hi hclos hcell hkind hnames hx hin has hcap hN ht he I h (fun C D H' s1 s' H1 hC I1 I' hn ⟨m,hm⟩ q=>?_) hs
  subst hC
  exact⟨m,hm,fun h' hs'=>⟨.ref D,H',blk_let (s':=s') I1 I' hn hs',rfl,q⟩⟩
theorem ps_comp{i:Nat}{y:Str}{py spos:Pos}(hN':X.N.Nodup)(hi':X.N[i]?=some y)(hy:X.env.scope.names.lookup y=some .local)(hsw:swapsWith (.ListComp elt [⟨.Name x px,iter,ifs,0⟩] sc pos) (some (.Name y py)) spos.line X.env=pure true)(hc:X.calm=true)(hi:PI X (.Name x px) iter wi)(hclos:closureFor sc X.env=pure cl)(hcell:∀y∈sc.names,y.2≠.cell)(hkind:sc.kind=.function)(hnames:∀y∈sc.names,y.2=.local→sc.names.lookup y.1=some .local)(hx:sc.names.lookup x=some .local)(hin:InCells X.env.cells cl)(has:∀y,((relabel sc X.env).names.lookup y=some .cell∨(relabel sc X.env).names.lookup y=some .free)→∃c,cl.lookup y=some c)(hcap:CapsOk X sc cl caps)(hN:(x::capn caps).Nodup)(ht:∀C s1 H1 fp pins,PTs (blk X sc cl C (x::capn caps) s1 H1 fp pins) ifs tt)(he:∀C s1 H1 fp pins,PE (blk X sc cl C (x::capn caps) s1 H1 fp pins) elt te)(hs:∀v,foldedSetIterable iter X.env v=pure v:=by intro _;rfl) :
    PS X (.Assign [.Name y py] (.ListComp elt [⟨.Name x px,iter,ifs,0⟩] sc pos) spos) (fun D σ H=>tComp wi caps tt te σ H fun v H'=>D.nx (σ.set i (some v)) H'):=by
  intro pins s σ H D I h
  rw[exec_Assign_Name_used _ _ _ _ hsw]
  refine wpAny_bind (wpAny_standAt (wpAny_bind ?_))
  show wpAny _ X.A (do let _ ←comprehension (.ListComp elt [⟨.Name x px,iter,ifs,0⟩] sc pos) sc X.env _ (newList []) false (eval iter X.env) (some (assign (.Name y py) X.env))) _ _ s
  refine wpAny_bind (wpAny_mono (comp_core (use:=some (assign (.Name y py) X.env)) (RQ:=fun _ s'=>SP X pins D .next s') hc hi hclos hcell hkind hnames hx hin has hcap hN ht he I h (fun C Dd H' s1 s' H1 hC I1 I' hn ⟨m,hm⟩ q=>?_) hs) (fun _ s' hq=>wpAny_pure (wpAny_pure hq)) fun _ _ e=>e)
  subst hC
  show wpAny _ _ (assign (.Name y py) X.env (.ref Dd)) _ _ _
  refine wpAny_assign_Name (store_ok2 I' hN' hi' (.inl hy) (show RelV (.ref Dd) (.ref Dd) from rfl) (fun s2 I2 ⟨a,hs2,ha⟩=>?_) (.inr hy))
  have hCa:s1.heap.objs.size≠a:=by
    rcases ha with z|z
    · rw[z];exact Nat.ne_of_gt I1.lt
    · intro z2
      obtain⟨v,qc⟩:=I1.cell y a z
      exact absurd qc.lt (by rw[←z2];exact Nat.lt_irrefl _)
  exact⟨m,hm.sameBut hs2 hCa,fun h' hs'=>⟨_,H',blk_let (s':=s') I1 I2 hn hs',q⟩⟩
end
end FX
namespace FX
open PySem PySem.Spec PyProof.Rows L2
def RawD(h:Heap)(d:Addr)(es:Array DictEntry)(ep:Nat):Prop:=∃o,h.get? d=some o∧o.ExactDict∧o.data=.dict es ep
theorem RawD.at(x:RawD h d es ep)(k:∀o,h.get? d=some o→h'.get? d=some o):RawD h' d es ep:=let⟨o,e,r⟩:=x;⟨o,k o e,r⟩
section
theorem raw_iter(nos:(d==sysModules)=false)(hm:RawD s.heap d es ep)(hQ:Q (.ref s.heap.objs.size) { s with heap:=s.heap.push { cls:=.type "dict_keyiterator",data:=.fields #[.ref d,.int 0 0,.int es.size 0,.int ep 0] } }):wpAny (model prog w) A (pyIter (.ref d)) Q E s:=by
  obtain⟨ob,g1,g2,g3⟩:=id hm
  have tD:s.TypeIs (.ref d) "dict":=⟨ob,g1,g2.1⟩
  refine wpAny_pyIter_slot tD F.slot_dict_iter (wpAny_call_entry F.slot_dict_iter tD F.entry_dict_iter ?_ (F.args_dict_iter_1 _))
  unfold Builtin.«dict.__iter__»
  refine wpAny_bind ?_
  unfold Builtin.Dict.dictSlotNone
  refine wpAny_bind (wpAny_notOrdered_dict tD ?_)
  show wpAny _ _ (pure (Value.ref d)) _ _ s
  refine wpAny_pure ?_
  show wpAny _ _ (Builtin.Dict.showsAll d >>= _) _ _ s
  unfold Builtin.Dict.showsAll
  rw[if_neg (by rw[nos];exact Bool.false_ne_true)]
  refine wpAny_bind (wpAny_pure ?_)
  refine wpAny_bind (wpAny_dictEntries g1 g3 (wpAny_bind (wpAny_dictEpoch g1 g3 ?_)))
  refine wpAny_bind (wpAny_newObj_type (wpAny_pure ⟨_,rfl,"dict_keyiterator",_,⟨_,Heap.get?_push_size _ rfl,rfl⟩,F.slot_dict_keyiterator_next.lookup,by simpa [rawInt] using hQ⟩))
theorem raw_next(hit:s.heap.IsKeyIter it d i es.size ep)(hm:RawD s.heap d es ep)(hx:es[i]?=some e)(hQ:∀h',h'.IsKeyIter it d (i+1) es.size ep→Heap.SameBut it s.heap h'→Q (some e.key) { s with heap:=h' }):wpAny (model prog w) A (pyNext (.ref it)) Q E s:=by
  obtain⟨oi,i1,i2,i3⟩:=id hit
  obtain⟨ob,g1,g2,g3⟩:=id hm
  have tI:=hit.typeIs
  unfold pyNext
  refine wpAny_bind (wpAny_attempt (wpAny_callSpecial?_slot (name:=Str.ofString "__next__") tI F.slot_dict_keyiterator_next (wpAny_call_entry F.slot_dict_keyiterator_next tI F.entry_dict_keyiterator_next ?_ (F.args_dict_keyiterator_next_1 _))))
  refine wpAny_bind (wpAny_pure (wpAny_bind (wpAny_bind ?_)))
  first|refine wpAny_bind (wpAny_typeNameOfWhole_keyiter tI (wpAny_pure ?_))|refine wpAny_bind (wpAny_typeNameOf_keyiter tI (wpAny_pure ?_))
  refine wpAny_bind (wpAny_fieldsOf i1 i3 ?_)
  have notOwn:Builtin.Dict_items.ownsTuple "dict_keyiterator"=false:=by decide
  simp only[notOwn,Bool.false_eq_true,if_false]
  show wpAny _ _ (if(Value.ref d==Value.none)=true then _ else _) _ _ s
  rw[if_neg (show ¬((Value.ref d==Value.none)=true) from Bool.false_ne_true)]
  refine wpAny_bind (wpAny_pure (wpAny_bind (wpAny_dictEntries g1 g3 ?_)))
  rw[if_neg (by simp)]
  refine wpAny_bind (wpAny_pure (wpAny_bind (wpAny_dictEpoch g1 g3 ?_)))
  rw[if_neg (by simp)]
  refine wpAny_pure ?_
  have lt:i<es.size:=(Array.getElem?_eq_some_iff.mp hx).1
  have ee:es[i]=e:=(Array.getElem?_eq_some_iff.mp hx).2
  simp only[show ¬((i:Int)<0) from by lia,if_false,Int.toNat_natCast,Array.getElem?_eq_getElem lt]
  refine wpAny_bind ?_
  first|refine wpAny_bind (wpAny_typeNameOfWhole_keyiter tI (wpAny_pure ?_))|refine wpAny_bind (wpAny_typeNameOf_keyiter tI (wpAny_pure ?_))
  refine wpAny_bind (wpAny_isOneOf_keyiter tI ?_)
  show wpAny _ _ (setField (.ref it) 1 (rawInt ((i:Int)+1)) >>= _) _ _ s
  refine wpAny_bind (wpAny_setField i1 i3 (by simp) ?_)
  have hit':(s.heap.update it (Obj.mapFields (·.setIfInBounds 1 (rawInt ((i:Int)+1))))).IsKeyIter it d (i+1) es.size ep :=
    ⟨_,Heap.get?_update_self _ i1 (Obj.isFreed_of_fields (Obj.data_mapFields i3 _)),(Obj.cls_mapFields ..).trans i2,by rw[Obj.data_mapFields i3];simp[rawInt]⟩
  refine wpAny_bind (wpAny_holding ?_)
  refine wpAny_bind (wpAny_isOneOf_keyiter (s:={ s with heap:=s.heap.update it (Obj.mapFields (·.setIfInBounds 1 (rawInt ((i:Int)+1)))) }) hit'.typeIs ?_)
  show wpAny _ _ (pure es[i].key) _ _ _
  rw[ee]
  exact wpAny_pure (wpAny_pure ⟨_,rfl,wpAny_pure (hQ _ hit' (Heap.SameBut.update ..))⟩)
theorem raw_end(hh:A.handled=none)(hit:s.heap.IsKeyIter it d i es.size ep)(hm:RawD s.heap d es ep)(hx:es.size≤i)(hQ:∀h',Heap.ExtBut it s.heap h'→Q none { s with heap:=h' }):wpAny (model prog w) A (pyNext (.ref it)) Q E s:=by
  obtain⟨oi,i1,i2,i3⟩:=id hit
  obtain⟨ob,g1,g2,g3⟩:=id hm
  have tI:=hit.typeIs
  unfold pyNext
  refine wpAny_bind (wpAny_attempt (wpAny_callSpecial?_slot (name:=Str.ofString "__next__") tI F.slot_dict_keyiterator_next (wpAny_call_entry F.slot_dict_keyiterator_next tI F.entry_dict_keyiterator_next ?_ (F.args_dict_keyiterator_next_1 _))))
  refine wpAny_bind (wpAny_pure (wpAny_bind (wpAny_bind ?_)))
  first|refine wpAny_bind (wpAny_typeNameOfWhole_keyiter tI (wpAny_pure ?_))|refine wpAny_bind (wpAny_typeNameOf_keyiter tI (wpAny_pure ?_))
  refine wpAny_bind (wpAny_fieldsOf i1 i3 ?_)
  have notOwn:Builtin.Dict_items.ownsTuple "dict_keyiterator"=false:=by decide
  simp only[notOwn,Bool.false_eq_true,if_false]
  show wpAny _ _ (if(Value.ref d==Value.none)=true then _ else _) _ _ s
  rw[if_neg (show ¬((Value.ref d==Value.none)=true) from Bool.false_ne_true)]
  refine wpAny_bind (wpAny_pure (wpAny_bind (wpAny_dictEntries g1 g3 ?_)))
  rw[if_neg (by simp)]
  refine wpAny_bind (wpAny_pure (wpAny_bind (wpAny_dictEpoch g1 g3 ?_)))
  rw[if_neg (by simp)]
  refine wpAny_pure ?_
  simp only[show ¬((i:Int)<0) from by lia,if_false,Int.toNat_natCast,Array.getElem?_eq_none hx]
  refine wpAny_bind ?_
  first|refine wpAny_bind (wpAny_typeNameOfWhole_keyiter tI (wpAny_pure ?_))|refine wpAny_bind (wpAny_typeNameOf_keyiter tI (wpAny_pure ?_))
  show wpAny _ _ (setField (.ref it) 0 .none >>= _) _ _ s
  refine wpAny_bind (wpAny_setField i1 i3 (by simp) ?_)
  show wpAny _ _ (newExc (.type "StopIteration") [] >>= _) _ _ _
  refine wpAny_bind ?_
  simp only[newExc,newTuple]
  refine wpAny_bind (wpAny_newObj_type ?_ (by size_fits))
  refine wpAny_bind (m:=firstArgMember _ _) (wpAny_of_eq (a:=Value.none) (by first|rfl|(simp only[firstArgMember];rfl)) ?_)
  refine wpAny_newObj_type ?_ (by size_fits)
  simp only[raiseNew]
  refine wpAny_bind (wpAny_handled ?_)
  rw[show A.in1.handled=none from hh]
  refine wpAny_bind (wpAny_pure (wpAny_throw ?_))
  refine wpAny_bind (wpAny_isInstance (T:="StopIteration") (b:=true) ⟨_,Heap.get?_push_size _ rfl,rfl⟩ isSubtype_stop ?_)
  exact wpAny_pure (hQ _ (((Heap.SameBut.update ..).extBut.push _).push _))
end
def Kys(H:Hp)(kvs:List (List Key×V))(as:List Addr):Prop:=Paired (fun(p:List Key×V)(a:Addr)=>H a=some (.tup (p.1.map kV))) kvs as
section
theorem kt_keys:∀{kvs:List (List Key×V)} {xs:List (List Key×Addr×Value)},KT H kvs xs→Kys H kvs (xs.map (·.2.1))
  | _,_,.nil=>.nil
  | _,_,.cons r t=>.cons r.2.1 (kt_keys t)
theorem dt_raw(I:Inv X pins σ H s)(e:Rd H d (.dT kvs)):kvs.length≤sizeLine∧(d==sysModules)=false∧∃(es:Array DictEntry)(ep:Nat)(as:List Addr),RawD s.heap d es ep∧es.size=kvs.length∧Kys H kvs as∧∀j (h:j<es.size),∃a,as[j]?=some a∧es[j].key=.ref a:=by
  obtain⟨z,lo,xs,rel,o,es,ep,g1,g2,g3,g4,g5⟩:=(show ObjOk X.prog X.w H s.heap d (.dT kvs) from e.ok I.hok)
  have hl:es.size=xs.length:=by
    have:=congrArg List.length g4
    simpa using this
  refine⟨z,lo,es,ep,xs.map (·.2.1),⟨o,g1,g2,g3⟩,by rw[hl];exact(Paired.length rel).symm,kt_keys rel,fun j h=>?_⟩
  have hj:j<xs.length:=by lia
  have e1:es.toList[j]?=some es[j]:=by simp[h]
  rw[g4,ZH] at e1
  have e2:xs[j]?=some xs[j]:=by simp[hj]
  rw[e2] at e1
  refine⟨xs[j].2.1,by rw[ZH,e2];rfl,?_⟩
  have e3:entryOfKey (tupleKind (mixKind X.prog X.w)) xs[j]=es[j]:=ZO e1
  rw[←e3];rfl
end
section
end
section
end
end FX
namespace FhS
open PySem PyProof.Rows PySem.W
def Asks(cmp:Nat→Nat→(Bool→Shared→Prop)→Shared→Prop)(lt:Nat→Nat→Bool)(n:Nat)(s:Shared):Prop :=
  ∀i j,i<n→j<n→∀C:Bool→Shared→Prop,C (lt i j) s→cmp i j C s
structure Ordr(lt:Nat→Nat→Bool)(n:Nat):Prop where
  tr:∀i j k,i<n→j<n→k<n→lt i j=true→lt j k=true→lt i k=true
  tot:∀i j,i<n→j<n→i≠j→lt i j=false→lt j i=true
structure Pm(p:Array Nat)(n:Nat):Prop where
  pm:p.toList.Perm (List.range n)
theorem Pm.size(h:Pm p n):p.size=n:=by
  have:=h.pm.length_eq
  simpa using this
theorem Pm.lt(h:Pm p n)(hi:i<n):p.getD i 0<n:=by
  have hs:=h.size
  have hi':i<p.size:=by lia
  have e:p.getD i 0=p[i]:=by simp[Array.getD,hi']
  rw[e]
  have:p[i]∈List.range n:=h.pm.mem_iff.mp (by simp)
  exact List.mem_range.mp this
theorem Pm.inj(h:Pm p n)(hi:i<n)(hj:j<n)(e:p.getD i 0=p.getD j 0):i=j:=by
  have hs:=h.size
  have hi':i<p.size:=by lia
  have hj':j<p.size:=by lia
  have nd:p.toList.Nodup:=h.pm.nodup_iff.mpr List.nodup_range
  have e1:p.getD i 0=p[i]:=by simp[Array.getD,hi']
  have e2:p.getD j 0=p[j]:=by simp[Array.getD,hj']
  rw[e1,e2] at e
  have:=(List.getElem_inj (xs:=p.toList) (i:=i) (j:=j) (h₀:=by simpa using hi') (h₁:=by simpa using hj') nd).mp (by simpa using e)
  exact this
theorem Pm.of_perm(h:Pm p n)(hq:q.Perm p):Pm q n:=⟨(Array.perm_iff_toList_perm.mp hq).trans h.pm⟩
theorem pm_range(n:Nat):Pm (List.toArray (List.range n)) n:=⟨by simp⟩
def Up(lt:Nat→Nat→Bool)(p:Array Nat)(m:Nat):Prop:=∀i j,i<j→j<m→lt (p.getD i 0) (p.getD j 0)=true
def Dn(lt:Nat→Nat→Bool)(p:Array Nat)(m:Nat):Prop:=∀i j,i<j→j<m→lt (p.getD j 0) (p.getD i 0)=true
section
variable (O:Ordr lt n)
include O
theorem other(h:Pm p n)(hi:i<n)(hj:j<n)(hij:i≠j)(e:lt (p.getD i 0) (p.getD j 0)=false):lt (p.getD j 0) (p.getD i 0)=true :=
  O.tot _ _ (h.lt hi) (h.lt hj) (fun z=>hij (h.inj hi hj z)) e
theorem Up.snoc(h:Pm p n)(h1:1≤a)(ha:a<n)(u:Up lt p a)(e:lt (p.getD (a-1) 0) (p.getD a 0)=true):Up lt p (a+1):=by
  intro i j hij hj
  by_cases hja:j=a
  · subst hja
    by_cases hi:i=j-1
    · rw[hi];exact e
    · exact O.tr _ _ _ (h.lt (by lia)) (h.lt (by lia)) (h.lt ha) (u i (j-1) (by lia) (by lia)) e
  · exact u i j hij (by lia)
theorem Dn.snoc(h:Pm p n)(h1:1≤a)(ha:a<n)(u:Dn lt p a)(e:lt (p.getD a 0) (p.getD (a-1) 0)=true):Dn lt p (a+1):=by
  intro i j hij hj
  by_cases hja:j=a
  · subst hja
    by_cases hi:i=j-1
    · rw[hi];exact e
    · exact O.tr _ _ _ (h.lt ha) (h.lt (by lia)) (h.lt (by lia)) e (u i (j-1) (by lia) (by lia))
  · exact u i j hij (by lia)
theorem asc_wp(K:Asks cmp lt n s)(h:Pm p n):∀(f a:Nat)(G:Nat→Shared→Prop),1≤a→a+f≤n→Up lt p a →
    (∀m,a≤m→m≤a+f→Up lt p m→(m=a+f∨lt (p.getD m 0) (p.getD (m-1) 0)=true)→G m s)→(kas_asc p f a).kasWp cmp G s
  | 0,a,G,_,_,u,k=>k a (ZG _) (ZG _) u (.inl rfl)
  | f+1,a,G,h1,hn,u,k=>by
    unfold kas_asc
    refine K _ _ (h.lt (by lia)) (h.lt (by lia)) _ ?_
    cases e:lt (p.getD a 0) (p.getD (a-1) 0) with
    | true =>
      simp only[if_true]
      exact k a (ZG _) (by lia) u (.inr e)
    | false =>
      simp only[Bool.false_eq_true,if_false]
      exact asc_wp K h f (a+1) G (by lia) (by lia) (Up.snoc O h h1 (by lia) u (other O h (by lia) (by lia) (by lia) e)) fun m a1 a2 a3 a4=>k m (by lia) (by lia) a3 (a4.imp (fun z=>by lia) fun z=>z)
theorem desc_wp(K:Asks cmp lt n s)(h:Pm p n):∀(f a:Nat)(G:Array Nat×Nat×Nat→Shared→Prop),1≤a→a+f≤n→Dn lt p a →
    (∀m,a≤m→m≤a+f→Dn lt p m→G (p,m,0) s)→(kas_desc f p a 0).kasWp cmp G s
  | 0,a,G,_,_,u,k=>k a (ZG _) (ZG _) u
  | f+1,a,G,h1,hn,u,k=>by
    unfold kas_desc
    refine K _ _ (h.lt (by lia)) (h.lt (by lia)) _ ?_
    cases e:lt (p.getD a 0) (p.getD (a-1) 0) with
    | true =>
      simp only[if_true,Nat.lt_irrefl,gt_iff_lt,if_false]
      exact desc_wp K h f (a+1) G (by lia) (by lia) (Dn.snoc O h h1 (by lia) u e) fun m a1 a2 a3=>k m (by lia) (by lia) a3
    | false =>
      simp only[Bool.false_eq_true,if_false]
      refine K _ _ (h.lt (by lia)) (h.lt (by lia)) _ ?_
      simp only[other O h (by lia) (by lia) (by lia) e,if_true]
      exact k a (ZG _) (by lia) u
omit O in
theorem getD_of{p q:Array Nat}{i j:Nat}(e:p[i]?=q[j]?):p.getD i 0=q.getD j 0:=by
  rw[Array.getD_eq_getD_getElem?,Array.getD_eq_getD_getElem?,e]
omit O in
theorem rev_up{p:Array Nat}{m:Nat}(hm:m≤p.size)(d:Dn lt p m):Up lt (kas_rev p 0 m) m:=by
  intro i j hij hj
  have g:∀k,k<m→(kas_rev p 0 m).getD k 0=p.getD (m-1-k) 0:=fun k hk=>by
    refine getD_of ?_
    unfold kas_rev
    rw[getElem?_mirror_all hm,if_pos ⟨Nat.zero_le _,hk⟩]
    congr 1;lia
  rw[g i (by lia),g j hj]
  exact d _ _ (by lia) (by lia)
theorem count_wp(K:Asks cmp lt n s)(hn:1≤n)(h:Pm p n)(G:Nat×Array Nat→Shared→Prop)(k:∀m q,1≤m→m≤n→Pm q n→Up lt q m→G (m,q) s):(kas_count n p).kasWp cmp G s:=by
  unfold kas_count
  rw[KasT.kasWp_bind]
  have up1:Up lt p 1:=fun i j h1 h2=>by lia
  refine asc_wp O K h (n-1) 1 _ (ZG _) (by lia) up1 fun a a1 a2 a3 a4=>?_
  by_cases ha:(a==n)=true
  · rw[if_pos ha]
    exact k a p a1 (by lia) h a3
  · rw[if_neg ha]
    have ha':a≠n:=by simpa using ha
    by_cases h1:a > 1
    · rw[if_pos h1]
      refine K _ _ (h.lt (by lia)) (h.lt (by lia)) _ ?_
      simp only[a3 0 (a-1) (by lia) (by lia),if_true]
      exact k a p a1 (by lia) h a3
    · rw[if_neg h1]
      have e1:a=1:=by lia
      subst e1
      unfold kas_descPart
      rw[KasT.kasWp_bind]
      have e2:lt (p.getD 1 0) (p.getD 0 0)=true:=a4.elim (fun z=>by lia) fun z=>z
      have d2:Dn lt p (1+1):=by
        intro i j hij hj
        have e3:i=0:=by lia
        have e4:j=1:=by lia
        rw[e3,e4];exact e2
      refine desc_wp O K h (n-(1+1)) (1+1) _ (by lia) (by lia) d2 fun m q2 q3 q4=>?_
      simp only[gt_iff_lt,Nat.lt_irrefl,if_false]
      unfold kas_tail3
      rw[KasT.kasWp_bind]
      have hr:Pm (kas_rev p 0 m) n:=h.of_perm (mirror_perm _ _ _ _)
      refine asc_wp O K hr (n-m) m _ (by lia) (by lia) (rev_up (by rw[h.size];lia) q4) fun b b1 b2 b3 _=>?_
      exact k b _ (by lia) (by lia) hr b3
theorem place_wp(K:Asks cmp lt n s)(h:Pm p n)(hk:k<n)(u:Up lt p k):∀(f l r:Nat)(G:Nat→Shared→Prop),l≤r→r≤k→r-l≤f→(∀i,i<l→lt (p.getD i 0) (p.getD k 0)=true)→(∀i,r≤i→i<k→lt (p.getD k 0) (p.getD i 0)=true) →
    (∀m,m≤k→(∀i,i<m→lt (p.getD i 0) (p.getD k 0)=true)→(∀i,m≤i→i<k→lt (p.getD k 0) (p.getD i 0)=true)→G m s)→(kas_place p k f l r).kasWp cmp G s
  | 0,l,r,G,h1,h2,h3,lo,hi,g=>g l (by lia) lo fun i a b=>hi i (by lia) b
  | f+1,l,r,G,h1,h2,h3,lo,hi,g=>by
    unfold kas_place
    by_cases q:l ≥ r
    · rw[if_pos q]
      exact g l (by lia) lo fun i a b=>hi i (by lia) b
    · rw[if_neg q]
      refine K _ _ (h.lt hk) (h.lt (by lia)) _ ?_
      cases e:lt (p.getD k 0) (p.getD ((l+r) / 2) 0) with
      | true =>
        simp only[if_true]
        refine place_wp K h hk u f l ((l+r) / 2) G (by lia) (by lia) (by lia) lo (fun i a b=>?_) g
        by_cases z:i=(l+r) / 2
        · rw[z];exact e
        · exact O.tr _ _ _ (h.lt hk) (h.lt (by lia)) (h.lt (by lia)) e (u _ _ (by lia) b)
      | false =>
        simp only[Bool.false_eq_true,if_false]
        have e':=other O h hk (by lia) (by lia) e
        refine place_wp K h hk u f ((l+r) / 2+1) r G (by lia) h2 (by lia) (fun i a=>?_) hi g
        by_cases z:i=(l+r) / 2
        · rw[z];exact e'
        · exact O.tr _ _ _ (h.lt (by lia)) (h.lt (by lia)) (h.lt hk) (u _ _ (by lia) (by lia)) e'
omit O in
theorem bub_up{p:Array Nat}(h:Pm p n){k l:Nat}(hk:k<n)(hl:l≤k)(u:Up lt p k)(lo:∀i,i<l→lt (p.getD i 0) (p.getD k 0)=true)(hi:∀i,l≤i→i<k→lt (p.getD k 0) (p.getD i 0)=true) :
    Up lt (bubble p k (k-l)) (k+1):=by
  have g:∀j,j<k+1→(bubble p k (k-l)).getD j 0=if j=l then p.getD k 0 else if l<j then p.getD (j-1) 0 else p.getD j 0:=fun j hj=>by
    have e:=getElem?_bubble (xs:=p) (src:=k) (by rw[h.size];exact hk) (k-l) (by lia) j
    rw[show k-(k-l)=l by lia] at e
    by_cases c1:j=l
    · rw[if_pos c1] at e ⊢;exact getD_of e
    · rw[if_neg c1] at e ⊢
      by_cases c2:l<j
      · rw[if_pos ⟨c2,by lia⟩] at e;rw[if_pos c2];exact getD_of e
      · rw[if_neg (by lia)] at e;rw[if_neg c2];exact getD_of e
  intro i j hij hj
  rw[g i (by lia),g j hj]
  repeat' split
  all_goals first
    | (exfalso;lia)
    | exact lo _ (by lia)
    | exact hi _ (by lia) (by lia)
    | exact u _ _ (by lia) (by lia)
theorem bin_wp(K:Asks cmp lt n s):∀(f:Nat)(p:Array Nat)(k:Nat)(G:Array Nat→Shared→Prop),Pm p n→k+f=n→Up lt p k→(∀q,Pm q n→Up lt q n→G q s)→(kas_bin f p k).kasWp cmp G s
  | 0,p,k,G,h,hk,u,g=>by
    have e:k=n:=by lia
    subst e;exact g p h u
  | f+1,p,k,G,h,hk,u,g=>by
    unfold kas_bin
    rw[KasT.kasWp_bind]
    exact place_wp O K h (k:=k) (by lia) u k 0 k _ (Nat.zero_le _) (ZG _) (by lia) (fun i a=>by lia) (fun i a b=>by lia) fun m c1 c2 c3 =>
      bin_wp K f _ (k+1) G (h.of_perm (bubble_perm _ _ _)) (by lia) (bub_up h (by lia) c1 u c2 c3) g
theorem sort_wp(K:Asks cmp lt n s)(hn:1≤n)(G:Array Nat→Shared→Prop)(g:∀q,Pm q n→Up lt q n→G q s):(kas_sort n).kasWp cmp G s:=by
  unfold kas_sort
  rw[KasT.kasWp_bind]
  refine count_wp O K hn (pm_range n) _ fun m q h1 h2 h3 h4=>?_
  by_cases c:m<n
  · rw[if_pos c]
    have e2:max m 1=m:=by lia
    show(kas_bin (n-max m 1) q (max m 1)).kasWp cmp G s
    rw[e2]
    exact bin_wp O K _ q m G h3 (by lia) h4 g
  · rw[if_neg c]
    have e2:m=n:=by lia
    subst e2;exact g q h3 h4
end
end FhS
namespace FX
open PySem PySem.Spec PyProof.Rows L2
section
theorem raw_walks(hh:A.handled=none)(I d:Addr)(hne:d≠I)(es:Array DictEntry)(ep:Nat):Walks prog w A I [I,d] [I] es.size (fun i v=>∃e,es[i]?=some e∧v=e.key) (fun i h=>h.IsKeyIter I d i es.size ep∧RawD h d es ep) where
  sub:=fun b hb=>by simp at hb;simp[hb]
  frame:=fun _ _ _ st hk=>⟨let⟨o,e,r⟩:=st.1;⟨o,hk I (by simp) o e,r⟩,st.2.at fun o e=>hk d (by simp) o e⟩
  item:=fun i s0 Q E0 hi st hQ=>raw_next st.1 st.2 (e:=es[i]) (by simp[hi]) fun h' it' sb =>
    hQ _ h' s0.toks ⟨es[i],by simp[hi],rfl⟩ ⟨it',st.2.at fun o e=>(sb.2 d hne).trans e⟩ fun b o hb e=>(sb.2 b fun z=>hb (by simp[z])).trans e
  done:=fun s0 Q E0 st hQ=>raw_end hh st.1 st.2 (ZG _) fun h' eb=>hQ h' s0.toks fun b o hb e=>eb b o (fun z=>hb (by simp[z])) e
  self:=fun _ _ _ _ st hQ=>wpAny_pyIter_keyiter st.1 hQ
theorem raw_src(lo:(d==sysModules)=false):PySem.W.KdlSrc prog w "dict" d d es.size (fun i v=>∃e,es[i]?=some e∧v=e.key) (fun h=>RawD h d es ep) where
  type:=fun _ ⟨o,e,x,_⟩=>⟨o,e,x.1⟩
  there:=fun _ ⟨o,e,_⟩=>⟨Heap.lt_size e,Heap.lt_size e⟩
  keep:=fun _ _ hm hk=>hm.at fun o e=>hk d (.inl rfl) o e
  notList:=by decide
  notTuple:=by decide
  hint:=fun _ _ _ _ ⟨o,e,x,_⟩ hq=>PySem.W.kdl_hint_dict ⟨o,e,x.1⟩ hq
  iter:=fun _ s0 hh hm=>⟨_,_,(fun _ _ hq=>raw_iter lo hm hq),raw_walks hh _ d (let⟨o,e,_⟩:=hm;Nat.ne_of_lt (Heap.lt_size e)) es ep,⟨⟨_,Heap.get?_push_size _ rfl,rfl,rfl⟩,hm.at fun o e=>Heap.get?_push_of_some _ e⟩⟩
end
theorem refs_vals:∀as:List Addr,Vals (as.map V.ref) (as.map Value.ref)
  | []=>.nil
  | _::as=>.cons rfl (refs_vals as)
theorem acc_refs{es:Array DictEntry}{acc:Array Value}{as:List Addr}(ha:ItemsOf (fun i v=>∃e,es[i]?=some e∧v=e.key) acc es.size)(hla:as.length=es.size)(at_:∀j (h:j<es.size),∃a,as[j]?=some a∧es[j].key=.ref a):acc.toList=as.map Value.ref:=by
  refine List.ext_getElem? fun j=>?_
  by_cases hj:j<es.size
  · have h1:j<acc.size:=by rw[ha.1];exact hj
    obtain⟨e2,e3,e4⟩:=ha.2 j acc[j] (by simp[h1])
    obtain⟨a,e5,e6⟩:=at_ j hj
    have e7:e2=es[j]:=by
      have:es[j]?=some es[j]:=by simp[hj]
      rw[this] at e3;exact(ZO e3).symm
    rw[ZH,e5]
    have:acc.toList[j]?=some acc[j]:=by simp[h1]
    rw[this,e4,e7,e6]
    rfl
  · have h1:acc.toList.length≤j:=by rw[Array.length_toList,ha.1];lia
    have h2:(as.map Value.ref).length≤j:=by rw[ZA];lia
    rw[List.getElem?_eq_none h1,List.getElem?_eq_none h2]
section
variable {X:Cx}
end
theorem lex_irr:∀xs:List Int,HT.lexLt xs xs=false
  | []=>rfl
  | x::xs=>by rw[HT.lexLt_cons,if_pos rfl];exact lex_irr xs
theorem lex_tr:∀{xs ys zs:List Int},HT.lexLt xs ys=true→HT.lexLt ys zs=true→HT.lexLt xs zs=true
  | [],[],_,h,_=>by cases h
  | [],_::_,[],_,h=>by cases h
  | [],_::_,_::_,_,_=>rfl
  | _::_,[],_,h,_=>by cases h
  | _::_,_::_,[],_,h=>by cases h
  | x::xs,y::ys,z::zs,h1,h2=>by
    rw[HT.lexLt_cons] at h1 h2 ⊢
    by_cases e1:x=y
    · rw[if_pos e1] at h1
      by_cases e2:y=z
      · rw[if_pos e2] at h2
        rw[if_pos (e1.trans e2)];exact lex_tr h1 h2
      · rw[if_neg e2] at h2
        rw[if_neg (by rw[e1];exact e2),e1];exact h2
    · rw[if_neg e1] at h1
      have h1:=of_decide_eq_true h1
      by_cases e2:y=z
      · rw[if_neg (by rw[←e2];exact e1),←e2];exact decide_eq_true h1
      · rw[if_neg e2] at h2
        have h2:=of_decide_eq_true h2
        rw[if_neg (by lia)];exact decide_eq_true (by lia)
theorem lex_tot:∀{xs ys:List Int},xs≠ys→HT.lexLt xs ys=false→HT.lexLt ys xs=true
  | [],[],h,_=>absurd rfl h
  | [],_::_,_,h=>by cases h
  | _::_,[],_,_=>rfl
  | x::xs,y::ys,hne,h=>by
    rw[HT.lexLt_cons] at h ⊢
    by_cases e:x=y
    · rw[if_pos e] at h
      rw[if_pos e.symm]
      exact lex_tot (fun z=>hne (by rw[e,z])) h
    · rw[if_neg e] at h
      have h:=of_decide_eq_false h
      rw[if_neg (Ne.symm e)];exact decide_eq_true (by lia)
theorem sorted_one{α:Type}{lt:α→α→Prop}(irr:∀a,¬lt a a)(asym:∀a b,lt a b→¬lt b a):∀{l₁ l₂:List α},l₁.Perm l₂→l₁.Pairwise lt→l₂.Pairwise lt→l₁=l₂
  | [],l₂,p,_,_=>(List.Perm.nil_eq p)
  | a::l₁,[],p,_,_=>by have:=p.length_eq;simp at this
  | a::l₁,b::l₂,p,h1,h2=>by
    have h1':=List.pairwise_cons.mp h1
    have h2':=List.pairwise_cons.mp h2
    have e:a=b:=by
      have ha:a∈b::l₂:=p.mem_iff.mp (ZL ..)
      have hb:b∈a::l₁:=p.mem_iff.mpr (ZL ..)
      rcases ZM ha with e|ha
      · exact e
      · rcases ZM hb with e|hb
        · exact e.symm
        · exact absurd (h2'.1 a ha) (asym _ _ (h1'.1 b hb))
    subst e
    rw[sorted_one irr asym (List.Perm.cons_inv p) h1'.2 h2'.2]
section
theorem lsort_raw(ho:s.heap.get? a=some (seqObj "list" vs.toArray n))(h64:vs.length<64)(O:FhS.Ordr lt vs.length)(K:2≤vs.length→∀h',(∀b o,b≠a→s.heap.get? b=some o→h'.get? b=some o)→∀Q:SortKind→Shared→Prop,(∀κ,FhS.Asks (PySem.W.kas_ask prog w A κ vs) lt vs.length { s with heap:=h' }→Q κ { s with heap:=h' })→wpAny (model prog w) A (keyKind' vs.toArray) Q E { s with heap:=h' })(h:∀q:List Nat,q.Perm (List.range vs.length)→q.Pairwise (fun i j=>lt i j=true)→∀h' c,(∀b o,b≠a→s.heap.get? b=some o→h'.get? b=some o)→h'.get? a=some (seqObj "list" (q.map fun i=>vs.getD i .none).toArray c)→P (.done (.ret .none)) { s with heap:=h' }) :
    wpAny (model prog w) A (Builtin.«list.sort» ⟨[.ref a],[]⟩) P E s:=by
  rw[list_sort_plain]
  have al:a<s.heap.objs.size:=Heap.lt_size ho
  have small:∀{k:Nat},k≤63→k≤sizeLine:=fun hk=>by rw[sizeLine_eq];lia
  refine wpAny_bind (listItems_at ho rfl (wpAny_bind (listUpdate_at ho rfl ?_ (by rw[List.size_toArray];exact small (by lia)) (Nat.zero_le _))))
  obtain⟨e1,g1⟩:∃e1,(s.heap.update a (Obj.mapSeq fun _=>(#[]:Array Value))).get? a=some (seqObj "list" #[] e1):=⟨_,get?_update_seq ho fun _=>#[]⟩
  refine wpAny_bind (seqEpoch_at g1 rfl (wpAny_bind (wpAny_newTuple (wpAny_bind (wpAny_newList (wpAny_holding ?_) (Nat.zero_le _))) (by show vs.length≤_;exact small (by lia)))))
  have g2:(((s.heap.update a (Obj.mapSeq fun _=>(#[]:Array Value))).push (seqObj "tuple" vs.toArray 0)).push (seqObj "list" #[] 0)).get? a=some (seqObj "list" #[] e1):=Heap.get?_push_of_some _ (Heap.get?_push_of_some _ g1)
  have kp:∀b o,b≠a→s.heap.get? b=some o→(((s.heap.update a (Obj.mapSeq fun _=>(#[]:Array Value))).push (seqObj "tuple" vs.toArray 0)).push (seqObj "list" #[] 0)).get? b=some o:=fun b o hb e =>
    Heap.get?_push_of_some _ (Heap.get?_push_of_some _ ((Heap.get?_update_other _ _ (Ne.symm hb)).trans e))
  show wpAny (model prog w) A _ P E { s with heap:=((s.heap.update a (Obj.mapSeq fun _=>(#[]:Array Value))).push (seqObj "tuple" vs.toArray 0)).push (seqObj "list" #[] 0) }
  generalize ((s.heap.update a (Obj.mapSeq fun _=>(#[]:Array Value))).push (seqObj "tuple" vs.toArray 0)).push (seqObj "list" #[] 0)=hh at g2 kp
  dsimp only
  have fin:∀(st:SortSt)(q:List Nat),(arrOf st).map (·.2)=(q.map fun i=>vs.getD i .none).toArray→failedOf st=none→q.Perm (List.range vs.length)→q.Pairwise (fun i j=>lt i j=true) →
      wpAny (model prog w) A (do
        let touched:=(←seqEpoch a) != e1
        Builtin.List.listUpdate (.ref a) fun _=>(arrOf st).map (·.2)
        if let some e:=failedOf st then rule "list.sort.comparison-raised";throw e
        if touched then rule "list.sort.modified";raiseError "ValueError" "list modified during sort"
        ret .none) P E { s with heap:=hh }:=fun st q ea ef qp qo=>by
    have hl:q.length=vs.length:=by rw[qp.length_eq,List.length_range]
    refine wpAny_bind (seqEpoch_at g2 rfl ?_)
    rw[ea]
    refine wpAny_bind (listUpdate_at g2 rfl ?_ (Nat.zero_le _) (by show(q.map fun i=>vs.getD i Value.none).toArray.size≤sizeLine+1;rw[List.size_toArray,ZA,hl];exact Nat.le_succ_of_le (small (by lia))))
    rw[ef]
    simp only[bne_self_eq_false,Bool.false_eq_true,if_false]
    refine wpAny_pure (h q qp qo _ _ (fun b o hb e=>(Heap.get?_update_other _ _ (Ne.symm hb)).trans (kp b o hb e)) (get?_update_seq g2 _))
  by_cases h2:vs.toArray.size<2
  · rw[if_pos h2,if_pos h2]
    refine wpAny_bind (wpAny_pure ?_)
    rw[StateT.run_pure]
    refine wpAny_bind (wpAny_pure ?_)
    have h2':vs.length<2:=by simpa using h2
    refine fin (SortSt.mk' general' (vs.toArray.zip vs.toArray) #[] 7 none) (List.range vs.length) ?_ rfl (List.Perm.refl _) ?_
    · show(vs.toArray.zip vs.toArray).map (·.2)=_
      match vs,h2' with
      | [],_=>simp
      | [v],_=>simp
    · match vs,h2' with
      | [],_=>exact List.Pairwise.nil
      | [v],_=>exact List.pairwise_singleton _ _
  · rw[if_neg h2,if_neg h2]
    have h2':2≤vs.length:=by simpa using h2
    refine wpAny_bind (K h2' hh kp _ fun κ ask=>?_)
    refine wpAny_bind (wpAny_mono (PySem.W.kat_run (E:=E) (vs:=vs) (ks:=vs) (κ:=κ) (s:={ s with heap:=hh }) (Q:=fun st' s'=>s'={ s with heap:=hh }∧∃q:List Nat,(arrOf st').map (·.2)=(q.map fun i=>vs.getD i .none).toArray∧failedOf st'=none∧q.Perm (List.range vs.length)∧q.Pairwise (fun i j=>lt i j=true))
      (G:=fun p s'=>s'={ s with heap:=hh }∧FhS.Pm p vs.length∧FhS.Up lt p vs.length) rfl h2' h64 (fun p st' s' hp ha hf ⟨e,pm,up⟩=>?_) (FhS.sort_wp O ask (by lia) _ fun q pm up=>⟨rfl,pm,up⟩)) (fun r s' hr=>?_) fun _ _ e=>e)
    · refine⟨e,p.toList,PySem.W.kat_snds rfl ha,hf,pm.pm,?_⟩
      rw[List.pairwise_iff_getElem]
      intro i j hi hj hij
      have hs:=pm.size
      have:=up i j hij (by rw[←hs];simpa using hj)
      have gi:p.getD i 0=p.toList[i]:=by simp[Array.getD,show i<p.size by simpa using hi]
      have gj:p.getD j 0=p.toList[j]:=by simp[Array.getD,show j<p.size by simpa using hj]
      rw[gi,gj] at this
      exact this
    · obtain⟨u,st'⟩:=r
      obtain⟨e,q,q1,q2,q3,q4⟩:=hr
      dsimp only at e q1 q2 ⊢
      subst e
      exact fin st' q q1 q2 q3 q4
end
section
theorem kat_ints:∀{us ws:List Value} {ns ms:List Int} (i:Nat) (s:Shared),IntsAre us ns→IntsAre ws ms→fin=decide (ns.length<ms.length)→Q (HT.lexLt ns ms) s→PySem.W.KatLex prog w A b fin Q (us.zip ws) i s
  | _,_,_,_,i,s,.nil,.nil,hf,h=>by
    rw[List.zip_nil_left]
    refine PySem.W.kat_nil ?_
    rw[hf];exact h
  | _,_,_,_,i,s,.nil,.cons (ns:=ms) m t r,hf,h=>by
    rw[List.zip_nil_left]
    refine PySem.W.kat_nil ?_
    rw[hf]
    have:decide (([]:List Int).length<(m::ms).length)=true:=by simp
    rw[this];exact h
  | _,_,_,_,i,s,.cons (ns:=ns) n t r,.nil,hf,h=>by
    rw[List.zip_nil_right]
    refine PySem.W.kat_nil ?_
    rw[hf]
    have:decide ((n::ns).length<([]:List Int).length)=false:=by simp
    rw[this];exact h
  | _,_,_,_,i,s,.cons (ns:=ns) n t r,.cons (ns:=ms) m u q,hf,h=>by
    rw[List.zip_cons_cons]
    refine PySem.W.kat_cons (wpAny_eqBool_int (PySem.W.kat_go (fun e=>PySem.W.kat_yes ?_) fun e=>PySem.W.kat_no ?_))
    · have e:n=m:=by simpa using e
      rw[HT.lexLt_cons,if_pos e] at h
      exact kat_ints (i+1) s r q (by rw[hf];simp) h
    · have e:n≠m:=by simpa using e
      rw[HT.lexLt_cons,if_neg e] at h
      cases hb:(b&&i==0) with
      | true=>exact oneLt_int h
      | false=>exact PySem.W.kat_one _ _ (lt_int h)
def TupsAt(h:Heap):List Addr→List (List Int)→Prop:=Paired fun a ns=>ns≠[]∧∃its,IsTup h a its∧IntsAre its.toList ns
theorem tups_firsts:∀{as:List Addr} {nss:List (List Int)},TupsAt h as nss→∃fs:List Value,PySem.W.KatTups h (as.map Value.ref) fs∧fs.length=as.length∧∀v∈fs,∃n t,v=Value.int n t
  | _,_,.nil=>⟨[],trivial,rfl,fun v hv=>by simp at hv⟩
  | _,_,.cons (a:=a) (b:=ns) r t=>by
    obtain⟨fs,a1,a2,a3⟩:=tups_firsts t
    obtain⟨hne,its,⟨o,ho,hc,n,hd⟩,hi⟩:=r
    cases hL:its.toList with
    | nil=>rw[hL] at hi;cases hi;exact absurd rfl hne
    | cons f fr =>
      rw[hL] at hi
      cases hi with
      | cons n0 t0 hr =>
        refine⟨Value.int n0 t0::fs,PySem.W.KatTups.cons ho hc hd ?_ a1,by simp[a2],fun v hv=>?_⟩
        · have:its[0]?=its.toList[0]?:=by simp
          rw[this,hL];rfl
        · rcases ZM hv with rfl|hv
          · exact⟨_,_,rfl⟩
          · exact a3 v hv
theorem TupsAt.keep(k:∀b o,h.get? b=some o→(∃ts n,o.data=.seq ts n∧o.cls=.type "tuple")→h'.get? b=some o)(t:TupsAt h as nss):TupsAt h' as nss :=
  paired_mono (fun a ns ⟨h1,its,⟨o,ho,hc,n,hd⟩,hi⟩=>⟨h1,its,⟨o,k a o ho ⟨_,_,hd,hc⟩,hc,n,hd⟩,hi⟩) t
theorem tups_asks(hκ:∃b,κ=tuples' b)(t:TupsAt s.heap as nss) :
    FhS.Asks (PySem.W.kas_ask prog w A κ (as.map Value.ref)) (fun i j=>HT.lexLt (nss.getD i []) (nss.getD j [])) (as.map Value.ref).length s:=by
  obtain⟨b,rfl⟩:=hκ
  intro i j hi hj C hC
  rw[ZA] at hi hj
  have get:∀k,k<as.length→∃a ns its,(as.map Value.ref).getD k .none=.ref a∧nss.getD k []=ns∧IsTup s.heap a its∧IntsAre its.toList ns:=fun k hk=>by
    have hl:=Paired.length t
    have h1:as[k]?=some as[k]:=by simp[hk]
    have h2:nss[k]?=some (nss[k]'(by lia)):=by simp[show k<nss.length by lia]
    obtain⟨_,its,q1,q2⟩:=paired_get t k _ _ h1 h2
    exact⟨as[k],_,its,by simp[hk],by simp[show k<nss.length by lia],q1,q2⟩
  obtain⟨a,ns,its,e1,e2,⟨o,ho,hc,n,hd⟩,hi1⟩:=get i hi
  obtain⟨a',ns',its',e1',e2',⟨o',ho',hc',n',hd'⟩,hi1'⟩:=get j hj
  unfold PySem.W.kas_ask
  rw[e1,e1']
  refine PySem.W.kat_lt ho hd ho' hd' (kat_ints 0 s hi1 hi1' ?_ (by dsimp only at hC;rw[e2,e2'] at hC;exact hC))
  have l1:=hi1.length
  have l2:=hi1'.length
  simp only[Array.length_toList] at l1 l2
  rw[l1,l2]
theorem lsort_tups(ho:s.heap.get? a=some (seqObj "list" (as.map Value.ref).toArray n))(h64:as.length<64)(t:TupsAt s.heap as nss)(nd:nss.Nodup)(h:∀q:List Nat,q.Perm (List.range as.length)→q.Pairwise (fun i j=>HT.lexLt (nss.getD i []) (nss.getD j [])=true)→∀h' c,(∀b o,b≠a→s.heap.get? b=some o→h'.get? b=some o)→h'.get? a=some (seqObj "list" (q.map fun i=>(as.map Value.ref).getD i .none).toArray c)→P (.done (.ret .none)) { s with heap:=h' }) :
    wpAny (model prog w) A (Builtin.«list.sort» ⟨[.ref a],[]⟩) P E s:=by
  have hl:=Paired.length t
  have hml:(as.map Value.ref).length=as.length:=ZA ..
  refine lsort_raw (lt:=fun i j=>HT.lexLt (nss.getD i []) (nss.getD j [])) ho (by rw[hml];exact h64) ⟨fun i j k _ _ _=>lex_tr,fun i j hi hj hij e=>lex_tot (fun z=>hij ?_) e⟩ (fun h2 h' kp Q hQ=>?_) (by rw[hml];exact h)
  · have hi':i<nss.length:=by lia
    have hj':j<nss.length:=by lia
    have e1:nss[i]=nss[j]:=by simpa [hi',hj'] using z
    exact(List.getElem_inj nd).mp e1
  · have t':TupsAt h' as nss:=t.keep fun b o e ⟨ts,k,q,qc⟩=>kp b o (fun z=>by rw[z,ho] at e;cases e;have qc:Value.type "list"=Value.type "tuple":=qc;injection qc with qc;exact absurd qc (by decide)) e
    obtain⟨fs,f1,f2,f3⟩:=tups_firsts t'
    refine PySem.W.kat_kind (s:={ s with heap:=h' }) (T:=.type "int") f1 (by rw[f2];rw[hml] at h2;lia) (fun v hv=>?_) rfl (hQ _ (tups_asks ⟨_,rfl⟩ t'))
    obtain⟨m,tk,rfl⟩:=f3 v hv
    exact PySem.W.Looks.of_pure rfl
end
theorem refs_vals2(g:α→V)(f:α→Addr)(h:∀x,g x=V.ref (f x)):∀as:List α,Vals (as.map g) ((as.map f).map Value.ref)
  | []=>.nil
  | a::as=>.cons (by rw[h a];exact rfl) (refs_vals2 g f h as)
section
variable {X:Cx}
inductive Rcall_sorted_dict(xs:List V)(H:Hp)(Q:VK):Prop
  | mk d (L:List (List Int×V)) (_:xs=[.ref d]) (_:Rd H d (.dT (L.map fun p=>(p.1.map Sum.inl,p.2)))) (_:L.length<64) (_:(L.map (·.1)).Nodup) (_:(∀p∈L,p.1≠[])) (_:∀(l:Addr)(M:List (List Int×Addr)),H l=none→(M.map (·.1)).Perm (L.map (·.1))→M.Pairwise (fun p q=>HT.lexLt p.1 q.1=true)→(∀p∈M,H p.2=some (.tup (p.1.map V.int)))→Q (.ref l) (upd H l (.lst (M.map fun p=>V.ref p.2))))
theorem call_sorted_dict(hc:X.calm=true):CallR X (.builtin "sorted") Rcall_sorted_dict:=by
  intro pins s σ H xs us Q I r h
  obtain⟨d,L,rfl,hd,h64,nd,hne,q⟩:=h
  obtain⟨u,rfl,rx⟩:=vals1 r
  cases rx
  obtain⟨z,lo,es,ep,as,raw,hz,ks,at_⟩:=dt_raw I hd
  have hlL:(L.map fun p=>((p.1.map Sum.inl:List Key),p.2)).length=L.length:=ZA ..
  have hla:as.length=L.length:=by rw[←hlL];exact(Paired.length ks).symm
  have key:∀(j:Nat)(p:List Int×V),L[j]?=some p→∃a,as[j]?=some a∧H a=some (.tup (p.1.map V.int)):=fun j p hp=>by
    have hj:j<L.length:=(ZJ hp).1
    obtain⟨a,ha⟩:=get_of_lt (xs:=as) (j:=j) (by lia)
    have:=paired_get ks j ((p.1.map Sum.inl:List Key),p.2) a (by rw[ZH,hp];rfl) ha
    refine⟨a,ha,?_⟩
    rw[this,List.map_map]
    rfl
  have t0:TupsAt s.heap as (L.map (·.1)):=paired_of (by rw[ZA,hla]) fun j a ns e1 e2=>by
    rw[ZH] at e2
    cases hp:L[j]? with
    | none=>rw[hp] at e2;cases e2
    | some p =>
      rw[hp] at e2
      have e3:p.1=ns:=ZO e2
      obtain⟨a',h1,h2⟩:=key j p hp
      rw[e1] at h1;cases h1
      obtain⟨its,rv,it,_⟩:=I.tuple (SqT.of (K:=X.K) h2)
      exact⟨by rw[←e3];exact hne p (ZP hp),its.toArray,it,by rw[←e3];simpa using intsAre_of rv⟩
  refine Calls.call_function_entry kind_sorted plain_sorted entry_sorted (args_sorted1 _) (by
    unfold Builtin.«sorted»
    refine wpAny_bind (m:=checkCount "sorted" 1 1 _) (wpAny_pure (wpAny_bind (PySem.W.kdu_collect (raw_src lo (es:=es) (ep:=ep)) (show _ from I.ok.hd hc) raw (by rw[hz];exact z) fun h1 tk acc kp ha=>?_)))
    have e1:acc.toList=as.map Value.ref:=acc_refs ha (by lia) at_
    rw[e1]
    have I1:Inv X pins σ H { s with heap:=h1,toks:=tk }:=I.kept kp
    refine wpAny_bind (wpAny_newList ?_ (by rw[ZA,sizeLine_eq];lia))
    have g1:(h1.push (seqObj "list" (as.map Value.ref).toArray 0)).get? h1.objs.size=some (seqObj "list" (as.map Value.ref).toArray 0):=Heap.get?_push_size _ rfl
    have t1:TupsAt (h1.push (seqObj "list" (as.map Value.ref).toArray 0)) as (L.map (·.1)):=t0.keep fun b o e _=>Heap.get?_push_of_some _ (kp b o e)
    refine wpAny_bind (wpAny_holding (wpAny_call_entry slot_list_sort ⟨_,g1,rfl⟩ entry_list_sort (lsort_tups g1 (by lia) t1 nd fun p pp po h2 c kp2 e=>⟨_,rfl,?_⟩) (args_list_sort _)))
    have hn:H h1.objs.size=none:=I1.hok.fresh (ZG _)
    have inr:∀i∈p,i<as.length:=fun i hi=>List.mem_range.mp (pp.mem_iff.mp hi)
    have eM:(p.map fun i=>(as.map Value.ref).getD i .none)=(p.map fun i=>as.getD i 0).map Value.ref:=by
      rw[List.map_map]
      refine List.map_congr_left fun i hi=>?_
      have:=inr i hi
      simp[this]
    refine wpAny_pure ⟨_,rfl,.ref h1.objs.size,_,I1.laid (a:=h1.objs.size) (o:=.lst ((p.map fun i=>((L.map (·.1)).getD i [],as.getD i 0)).map fun q=>V.ref q.2)) (t':=tk) (fun b o hb=>kp2 b o (Nat.ne_of_lt (Heap.lt_size hb)) (Heap.get?_push_of_some _ hb)) (ZG _) ⟨?_,(p.map fun i=>as.getD i 0).map Value.ref,c,?_,?_⟩,rfl,q _ _ hn ?_ ?_ ?_⟩
    · rw[ZA,ZA,pp.length_eq,List.length_range,sizeLine_eq];lia
    · rw[List.map_map]
      exact refs_vals2 _ (fun i=>as.getD i 0) (fun _=>rfl) p
    · rw[←eM];exact e
    · rw[List.map_map]
      have e2:(List.range as.length).map (fun i=>(L.map (·.1)).getD i [])=L.map (·.1):=by
        refine List.ext_getElem? fun j=>?_
        rw[ZH]
        by_cases hj:j<L.length
        · have h3:(List.range as.length)[j]?=some j:=by simp[hla,hj]
          rw[h3]
          simp[hj]
        · have h3:(List.range as.length)[j]?=none:=by simp[hla];lia
          rw[h3,List.getElem?_eq_none (by rw[ZA];lia)]
          rfl
      have e7:=pp.map fun i=>(L.map (·.1)).getD i []
      rw[e2] at e7
      exact e7
    · rw[List.pairwise_map]
      exact po
    · intro r hr
      obtain⟨i,hi,e3⟩:=ZN hr
      have hlt:=inr i hi
      obtain⟨p0,hp0⟩:=get_of_lt (xs:=L) (j:=i) (by lia)
      obtain⟨a,h3,h4⟩:=key i p0 hp0
      rw[←e3]
      have e5:as.getD i 0=a:=by rw[List.getD_eq_getElem?_getD,h3];rfl
      have e6:(L.map (·.1)).getD i []=p0.1:=by rw[List.getD_eq_getElem?_getD,ZH,hp0];rfl
      show H (as.getD i 0)=some (.tup (((L.map (·.1)).getD i []).map V.int))
      rw[e5,e6];exact h4)
end
end FX
namespace FX
open PySem PySem.Spec PyProof.Rows L2
set_option linter.all false
section
end
end FX
namespace FX
open PySem PySem.Spec PyProof.Rows L2
set_option linter.all false
abbrev T2:=Int×Int
def tk(t:T2):List Key:=[.inl t.1,.inl t.2]
def tv(t:T2):List V:=[.int t.1,.int t.2]
theorem tk_inj(h:tk a=tk b):a=b:=by
  obtain⟨a1,a2⟩:=a
  obtain⟨b1,b2⟩:=b
  unfold tk at h
  simp only[List.cons.injEq,Sum.inl.injEq,and_true] at h
  rw[h.1,h.2]
structure HGh where
  num:Int
  made:Int
  ticks:Int
  h:Addr
  o:Addr
  l:Addr
  r:Addr
  hand:List T2
  outs:List (T2×Int)
  holds:List (T2×Addr×List T2)
  recs:List (T2×Int)
theorem lk_hd{k:Str}{v:V}{r:List (Str×V)}:List.lookup k ((k,v)::r)=some v:=by
  rw[List.lookup_cons]
  have:(k==k)=true:=beq_self_eq_true k
  rw[this]
theorem lk_tl{k j:Str}{v:V}{r:List (Str×V)}(h:¬k=j):List.lookup k ((j,v)::r)=List.lookup k r:=by
  rw[List.lookup_cons]
  have:(k==j)=false:=beq_eq_false_iff_ne.mpr h
  rw[this]
theorem pf_nil:putF f v []=[(f,v)]:=rfl
theorem pf_hd:putF f v ((f,x)::r)=(f,v)::r:=by grind [putF,V]
theorem pf_tl(h:¬k=f):putF f v ((k,x)::r)=(k,x)::putF f v r:=by grind [putF,V]
theorem n_number_made:¬(("number":Str)="made"):=by decide +kernel
theorem n_number_ticks:¬(("number":Str)="ticks"):=by decide +kernel
theorem n_number_hand:¬(("number":Str)="hand"):=by decide +kernel
theorem n_number_outs:¬(("number":Str)="outs"):=by decide +kernel
theorem n_number_holds:¬(("number":Str)="holds"):=by decide +kernel
theorem n_number_records:¬(("number":Str)="records"):=by decide +kernel
theorem n_made_number:¬(("made":Str)="number"):=by decide +kernel
theorem n_made_ticks:¬(("made":Str)="ticks"):=by decide +kernel
theorem n_made_hand:¬(("made":Str)="hand"):=by decide +kernel
theorem n_made_outs:¬(("made":Str)="outs"):=by decide +kernel
theorem n_made_holds:¬(("made":Str)="holds"):=by decide +kernel
theorem n_made_records:¬(("made":Str)="records"):=by decide +kernel
theorem n_ticks_number:¬(("ticks":Str)="number"):=by decide +kernel
theorem n_ticks_made:¬(("ticks":Str)="made"):=by decide +kernel
theorem n_ticks_hand:¬(("ticks":Str)="hand"):=by decide +kernel
theorem n_ticks_outs:¬(("ticks":Str)="outs"):=by decide +kernel
theorem n_ticks_holds:¬(("ticks":Str)="holds"):=by decide +kernel
theorem n_ticks_records:¬(("ticks":Str)="records"):=by decide +kernel
theorem n_hand_number:¬(("hand":Str)="number"):=by decide +kernel
theorem n_hand_made:¬(("hand":Str)="made"):=by decide +kernel
theorem n_hand_ticks:¬(("hand":Str)="ticks"):=by decide +kernel
theorem n_hand_outs:¬(("hand":Str)="outs"):=by decide +kernel
theorem n_hand_holds:¬(("hand":Str)="holds"):=by decide +kernel
theorem n_hand_records:¬(("hand":Str)="records"):=by decide +kernel
theorem n_outs_number:¬(("outs":Str)="number"):=by decide +kernel
theorem n_outs_made:¬(("outs":Str)="made"):=by decide +kernel
theorem n_outs_ticks:¬(("outs":Str)="ticks"):=by decide +kernel
theorem n_outs_hand:¬(("outs":Str)="hand"):=by decide +kernel
theorem n_outs_holds:¬(("outs":Str)="holds"):=by decide +kernel
theorem n_outs_records:¬(("outs":Str)="records"):=by decide +kernel
theorem n_holds_number:¬(("holds":Str)="number"):=by decide +kernel
theorem n_holds_made:¬(("holds":Str)="made"):=by decide +kernel
theorem n_holds_ticks:¬(("holds":Str)="ticks"):=by decide +kernel
theorem n_holds_hand:¬(("holds":Str)="hand"):=by decide +kernel
theorem n_holds_outs:¬(("holds":Str)="outs"):=by decide +kernel
theorem n_holds_records:¬(("holds":Str)="records"):=by decide +kernel
theorem n_records_number:¬(("records":Str)="number"):=by decide +kernel
theorem n_records_made:¬(("records":Str)="made"):=by decide +kernel
theorem n_records_ticks:¬(("records":Str)="ticks"):=by decide +kernel
theorem n_records_hand:¬(("records":Str)="hand"):=by decide +kernel
theorem n_records_outs:¬(("records":Str)="outs"):=by decide +kernel
theorem n_records_holds:¬(("records":Str)="holds"):=by decide +kernel
def hflds(G:HGh):List (Str×V):=[("number",.int G.num),("made",.int G.made),("ticks",.int G.ticks),("hand",.ref G.h),("outs",.ref G.o),("holds",.ref G.l),("records",.ref G.r)]
theorem hf_number(G:HGh):(hflds G).lookup ("number":Str)=some (.int G.num):=by
  unfold hflds
  rw[lk_hd]
theorem hf_made(G:HGh):(hflds G).lookup ("made":Str)=some (.int G.made):=by
  unfold hflds
  rw[lk_tl n_made_number,lk_hd]
theorem hf_ticks(G:HGh):(hflds G).lookup ("ticks":Str)=some (.int G.ticks):=by
  unfold hflds
  rw[lk_tl n_ticks_number,lk_tl n_ticks_made,lk_hd]
theorem hf_hand(G:HGh):(hflds G).lookup ("hand":Str)=some (.ref G.h):=by
  unfold hflds
  rw[lk_tl n_hand_number,lk_tl n_hand_made,lk_tl n_hand_ticks,lk_hd]
theorem hf_outs(G:HGh):(hflds G).lookup ("outs":Str)=some (.ref G.o):=by
  unfold hflds
  rw[lk_tl n_outs_number,lk_tl n_outs_made,lk_tl n_outs_ticks,lk_tl n_outs_hand,lk_hd]
theorem hf_holds(G:HGh):(hflds G).lookup ("holds":Str)=some (.ref G.l):=by
  unfold hflds
  rw[lk_tl n_holds_number,lk_tl n_holds_made,lk_tl n_holds_ticks,lk_tl n_holds_hand,lk_tl n_holds_outs,lk_hd]
theorem hf_records(G:HGh):(hflds G).lookup ("records":Str)=some (.ref G.r):=by
  unfold hflds
  rw[lk_tl n_records_number,lk_tl n_records_made,lk_tl n_records_ticks,lk_tl n_records_hand,lk_tl n_records_outs,lk_tl n_records_holds,lk_hd]
theorem hf_put_made(G:HGh)(y:Int):putF "made" (.int y) (hflds G)=hflds { G with made:=y }:=by
  unfold hflds
  rw[pf_tl n_number_made,pf_hd]
theorem hf_put_ticks(G:HGh)(y:Int):putF "ticks" (.int y) (hflds G)=hflds { G with ticks:=y }:=by
  unfold hflds
  rw[pf_tl n_number_ticks,pf_tl n_made_ticks,pf_hd]
theorem hf_all(G:HGh):putF "records" (.ref G.r) (putF "holds" (.ref G.l) (putF "outs" (.ref G.o) (putF "hand" (.ref G.h) (putF "ticks" (.int G.ticks) (putF "made" (.int G.made) (putF "number" (.int G.num) []))))))=hflds G:=by
  unfold hflds
  rw[pf_nil]
  rw[pf_tl n_number_made,pf_nil]
  rw[pf_tl n_number_ticks,pf_tl n_made_ticks,pf_nil]
  rw[pf_tl n_number_hand,pf_tl n_made_hand,pf_tl n_ticks_hand,pf_nil]
  rw[pf_tl n_number_outs,pf_tl n_made_outs,pf_tl n_ticks_outs,pf_tl n_hand_outs,pf_nil]
  rw[pf_tl n_number_holds,pf_tl n_made_holds,pf_tl n_ticks_holds,pf_tl n_hand_holds,pf_tl n_outs_holds,pf_nil]
  rw[pf_tl n_number_records,pf_tl n_made_records,pf_tl n_ticks_records,pf_tl n_hand_records,pf_tl n_outs_records,pf_tl n_holds_records,pf_nil]
theorem hf_no(G:HGh){m:Str}(h:(["number","made","ticks","hand","outs","holds","records"]:List Str).contains m=false):(hflds G).lookup m=none:=by
  simp only[List.contains_cons,Bool.or_eq_false_iff,beq_eq_false_iff_ne] at h
  obtain⟨h1,h2,h3,h4,h5,h6,h7,_⟩:=h
  unfold hflds
  rw[lk_tl h1,lk_tl h2,lk_tl h3,lk_tl h4,lk_tl h5,lk_tl h6,lk_tl h7]
  rfl
theorem hf_len(G:HGh):(hflds G).length<1000:=by show 7<1000;decide
def dHand(l:List T2):HO:=.dT (l.map fun t=>(tk t,V.bl true))
def dInt(l:List (T2×Int)):HO:=.dT (l.map fun q=>(tk q.1,V.int q.2))
def dRef(l:List (T2×Addr×List T2)):HO:=.dT (l.map fun q=>(tk q.1,V.ref q.2.1))
theorem valV_tk(l:List α)(k:α→T2)(f:α→V)(t:T2):valV (l.map fun q=>(tk (k q),f q)) (tk t)=(l.find? fun q=>decide (k q=t)).map f:=by
  unfold valV
  rw[List.find?_map,Option.map_map]
  congr 1
  congr 1
  funext q
  show decide (tk (k q)=tk t)=decide (k q=t)
  by_cases e:k q=t
  · rw[e];simp
  · rw[decide_eq_false e,decide_eq_false fun z=>e (tk_inj z)]
theorem valV_tk_none{α:Type}{l:List α}{k:α→T2}{f:α→V}{t:T2}(h:∀q∈l,k q≠t):valV (l.map fun q=>(tk (k q),f q)) (tk t)=none:=by
  rw[valV_tk,List.find?_eq_none.mpr fun q hq=>by simpa using h q hq]
  rfl
theorem putK_tk{α:Type}{l:List α}{k:α→T2}{f:α→V}{t:T2}(v:V)(h:∀q∈l,k q≠t):putK (l.map fun q=>(tk (k q),f q)) (tk t) v=(l.map fun q=>(tk (k q),f q))++[(tk t,v)]:=putK_new v (valV_tk_none h)
def foot(G:HGh):List Addr:=G.h::G.o::G.l::G.r::G.holds.map (·.2.1)
structure HouseAt(C:Addr)(H:Hp)(p:Addr)(G:HGh):Prop where
  ob:∃dx,H p=some (.ins C dx (hflds G))
  dh:H G.h=some (dHand G.hand)
  dO:H G.o=some (dInt G.outs)
  dl:H G.l=some (dRef G.holds)
  dr:H G.r=some (dInt G.recs)
  hl:∀q∈G.holds,H q.2.1=some (dHand q.2.2)
  nd:(foot G).Nodup
def HFr(p:Addr)(G:HGh)(H H':Hp):Prop:=∀b o,H b=some o→b≠p→b∉foot G→H' b=some o
section
variable {C p:Addr}{H H':Hp}{G:HGh}
theorem HouseAt.keep(x:HouseAt C H p G)(k:∀b o,(b=p∨b∈foot G)→H b=some o→H' b=some o):HouseAt C H' p G:=by
  have m0:G.h∈foot G:=by simp[foot]
  have m1:G.o∈foot G:=by simp[foot]
  have m2:G.l∈foot G:=by simp[foot]
  have m3:G.r∈foot G:=by simp[foot]
  refine⟨let⟨dx,e⟩:=x.ob;⟨dx,k _ _ (.inl rfl) e⟩,k _ _ (.inr m0) x.dh,k _ _ (.inr m1) x.dO,k _ _ (.inr m2) x.dl,k _ _ (.inr m3) x.dr,fun q hq=>k _ _ (.inr ?_) (x.hl q hq),x.nd⟩
  unfold foot
  exact ZD _ (ZD _ (ZD _ (ZD _ (List.mem_map_of_mem hq))))
theorem HouseAt.same(x:HouseAt C H p G)(s:Same H H'):HouseAt C H' p G:=x.keep fun b o _ e=>s b o e
theorem HouseAt.foot_dT(x:HouseAt C H p G)(hb:b∈foot G):∃kvs,H b=some (.dT kvs):=by
  unfold foot at hb
  rcases ZM hb with rfl|hb
  · exact⟨_,x.dh⟩
  rcases ZM hb with rfl|hb
  · exact⟨_,x.dO⟩
  rcases ZM hb with rfl|hb
  · exact⟨_,x.dl⟩
  rcases ZM hb with rfl|hb
  · exact⟨_,x.dr⟩
  obtain⟨q,hq,e⟩:=ZN hb
  rw[←e]
  exact⟨_,x.hl q hq⟩
theorem HouseAt.p_ne(x:HouseAt C H p G)(hb:b∈foot G):b≠p:=by
  obtain⟨kvs,e⟩:=x.foot_dT hb
  obtain⟨dx,e'⟩:=x.ob
  exact ne_of e e' (by intro z;cases z)
theorem HouseAt.tup_ne(x:HouseAt C H p G)(hb:H b=some (.tup xs)):b≠p∧b∉foot G:=by
  obtain⟨dx,e'⟩:=x.ob
  refine⟨ne_of hb e' (by intro z;cases z),fun m=>?_⟩
  obtain⟨kvs,e⟩:=x.foot_dT m
  rw[hb] at e;cases e
theorem HouseAt.lst_ne(x:HouseAt C H p G)(hb:H b=some (.lst xs)):b≠p∧b∉foot G:=by
  obtain⟨dx,e'⟩:=x.ob
  refine⟨ne_of hb e' (by intro z;cases z),fun m=>?_⟩
  obtain⟨kvs,e⟩:=x.foot_dT m
  rw[hb] at e;cases e
theorem HouseAt.nds(x:HouseAt C H p G):(G.h≠G.o∧G.h≠G.l∧G.h≠G.r)∧(G.o≠G.l∧G.o≠G.r)∧G.l≠G.r∧∀q∈G.holds,q.2.1≠G.h∧q.2.1≠G.o∧q.2.1≠G.l∧q.2.1≠G.r:=by
  have nd:=x.nd
  unfold foot at nd
  simp only[List.nodup_cons,List.mem_cons,not_or] at nd
  obtain⟨⟨a1,a2,a3,a4⟩,⟨b1,b2,b3⟩,⟨c1,c2⟩,d1,_⟩:=nd
  refine⟨⟨a1,a2,a3⟩,⟨b1,b2⟩,c1,fun q hq=>?_⟩
  have m:q.2.1∈G.holds.map (·.2.1):=List.mem_map_of_mem hq
  exact⟨fun z=>a4 (z▸m),fun z=>b3 (z▸m),fun z=>c2 (z▸m),fun z=>d1 (z▸m)⟩
theorem HouseAt.fld(x:HouseAt C H p G)(dx:Addr)(m t:Int):HouseAt C (upd H p (.ins C dx (hflds { G with made:=m,ticks:=t }))) p { G with made:=m,ticks:=t }:=by
  have n:∀{b},b∈foot G→b≠p:=fun hb=>x.p_ne hb
  have m0:G.h∈foot G:=by simp[foot]
  have m1:G.o∈foot G:=by simp[foot]
  have m2:G.l∈foot G:=by simp[foot]
  have m3:G.r∈foot G:=by simp[foot]
  refine⟨⟨dx,upd_same⟩,by rw[upd_ne (n m0)];exact x.dh,by rw[upd_ne (n m1)];exact x.dO,by rw[upd_ne (n m2)];exact x.dl,by rw[upd_ne (n m3)];exact x.dr,fun q hq=>?_,x.nd⟩
  rw[upd_ne (n (by unfold foot;exact ZD _ (ZD _ (ZD _ (ZD _ (List.mem_map_of_mem hq))))))]
  exact x.hl q hq
theorem HouseAt.setOuts(x:HouseAt C H p G)(l:List (T2×Int)):HouseAt C (upd H G.o (dInt l)) p { G with outs:=l }:=by
  obtain⟨⟨a1,a2,a3⟩,⟨b1,b2⟩,c1,d1⟩:=x.nds
  have np:=x.p_ne (b:=G.o) (by simp[foot])
  obtain⟨dx,e⟩:=x.ob
  exact⟨⟨dx,by rw[upd_ne np.symm];exact e⟩,by rw[upd_ne a1];exact x.dh,upd_same,by rw[upd_ne b1.symm];exact x.dl,by rw[upd_ne b2.symm];exact x.dr,fun q hq=>by rw[upd_ne (d1 q hq).2.1];exact x.hl q hq,x.nd⟩
theorem HouseAt.setHand(x:HouseAt C H p G)(l:List T2):HouseAt C (upd H G.h (dHand l)) p { G with hand:=l }:=by
  obtain⟨⟨a1,a2,a3⟩,⟨b1,b2⟩,c1,d1⟩:=x.nds
  have np:=x.p_ne (b:=G.h) (by simp[foot])
  obtain⟨dx,e⟩:=x.ob
  exact⟨⟨dx,by rw[upd_ne np.symm];exact e⟩,upd_same,by rw[upd_ne a1.symm];exact x.dO,by rw[upd_ne a2.symm];exact x.dl,by rw[upd_ne a3.symm];exact x.dr,fun q hq=>by rw[upd_ne (d1 q hq).1];exact x.hl q hq,x.nd⟩
theorem HouseAt.setRecs(x:HouseAt C H p G)(l:List (T2×Int)):HouseAt C (upd H G.r (dInt l)) p { G with recs:=l }:=by
  obtain⟨⟨a1,a2,a3⟩,⟨b1,b2⟩,c1,d1⟩:=x.nds
  have np:=x.p_ne (b:=G.r) (by simp[foot])
  obtain⟨dx,e⟩:=x.ob
  exact⟨⟨dx,by rw[upd_ne np.symm];exact e⟩,by rw[upd_ne a3];exact x.dh,by rw[upd_ne b2];exact x.dO,by rw[upd_ne c1];exact x.dl,upd_same,fun q hq=>by rw[upd_ne (d1 q hq).2.2.2];exact x.hl q hq,x.nd⟩
theorem HouseAt.addHold(x:HouseAt C H p G)(t:T2)(ha:H a=some (dHand []))(hf:a∉foot G):HouseAt C (upd H G.l (dRef (G.holds++[(t,a,[])]))) p { G with holds:=G.holds++[(t,a,[])] }:=by
  obtain⟨⟨a1,a2,a3⟩,⟨b1,b2⟩,c1,d1⟩:=x.nds
  have np:=x.p_ne (b:=G.l) (by simp[foot])
  obtain⟨dx,e⟩:=x.ob
  refine⟨⟨dx,by rw[upd_ne np.symm];exact e⟩,by rw[upd_ne a2];exact x.dh,by rw[upd_ne b1];exact x.dO,upd_same,by rw[upd_ne c1.symm];exact x.dr,fun q hq=>?_,?_⟩
  · rcases ZI hq with hq|hq
    · rw[upd_ne (d1 q hq).2.2.1];exact x.hl q hq
    · have e2:q=(t,a,[]):=by simpa using hq
      subst e2
      have:a≠G.l:=fun z=>hf (by rw[z];simp[foot])
      rw[upd_ne this];exact ha
  · have e2:foot { G with holds:=G.holds++[(t,a,[])] }=foot G++[a]:=by simp[foot]
    rw[e2]
    exact nd_snoc x.nd hf
end
def thD(t:T2):PyData:=.tuple [.int t.1,.int t.2]
def rowD(q:T2×Int×List T2):PyData:=.tuple [thD q.1,.int q.2.1,.tuple (q.2.2.map thD)]
def recD(q:T2×Int):PyData:=.tuple [thD q.1,.int q.2]
def stD(hs:List T2)(os:List (T2×Int×List T2))(rs:List (T2×Int)):PyData:=.tuple [.tuple (hs.map thD),.tuple (os.map rowD),.tuple (rs.map recD)]
theorem thD_ok(t:T2):(thD t).canLay0=true∧(thD t).depth≤2:=by
  unfold thD
  constructor
  · simp[PyData.canLay0,PyData.canLayAll0]
  · simp[PyData.depth,PyData.depthAll]
theorem thD_okd(t:T2):Okd (thD t):=⟨(thD_ok t).1,Nat.le_trans (thD_ok t).2 (by decide)⟩
def ThsAt(H:Hp):List Addr→List T2→Prop:=Paired fun a t=>H a=some (.tup (tv t))
theorem th_rep{K:PySem.W.Frag}{H:Hp}{a:Addr}{t:T2}(e:H a=some (.tup (tv t))):RepT K H (.ref a) (thD t):=.tupP (SqT.of e) (.cons (.int _) (.cons (.int _) .nil))
theorem ths_rep{K:PySem.W.Frag}{H:Hp}:∀{as:List Addr} {ts:List T2},ThsAt H as ts→Paired (RepT K H) (as.map V.ref) (ts.map thD)
  | _,_,.nil=>.nil
  | _,_,.cons e t=>.cons (th_rep e) (ths_rep t)
def lt2(a b:T2):Prop:=HT.lexLt [a.1,a.2] [b.1,b.2]=true
theorem lt2_iff(a b:T2):lt2 a b↔(a.1<b.1∨(a.1=b.1∧a.2<b.2)):=by
  unfold lt2
  rw[HT.lexLt_cons,HT.lexLt_cons]
  by_cases h1:a.1=b.1
  · rw[if_pos h1]
    by_cases h2:a.2=b.2
    · rw[if_pos h2,HT.lexLt_nil_nil]
      constructor
      · intro z;cases z
      · intro z;lia
    · rw[if_neg h2]
      constructor
      · intro z;exact .inr ⟨h1,of_decide_eq_true z⟩
      · intro z;exact decide_eq_true (by lia)
  · rw[if_neg h1]
    constructor
    · intro z;exact .inl (of_decide_eq_true z)
    · intro z;exact decide_eq_true (by lia)
section
inductive Rcall_sorted_things(xs:List V)(H:Hp)(Q:VK):Prop
  | mk d (l:List (T2×V)) (ss:List T2) (_:xs=[.ref d]) (_:Rd H d (.dT (l.map fun q=>(tk q.1,q.2)))) (_:l.length<64) (_:ss.Perm (l.map (·.1))) (_:ss.Pairwise lt2) (_:∀(r:Addr)(as:List Addr),H r=none→ThsAt H as ss→Q (.ref r) (upd H r (.lst (as.map V.ref))))
theorem call_sorted_things(hc:X.calm=true):CallR X (.builtin "sorted") Rcall_sorted_things:=by
  intro pins s σ H xs us Q I rv h
  obtain⟨d,l,ss,rfl,hd,h64,pm,pw,q⟩:=h
  refine call_sorted_dict hc pins s σ H _ us Q I rv ⟨d,l.map fun q=>([q.1.1,q.1.2],q.2),rfl,?_,by rw[ZA];exact h64,?_,?_,fun r M hr mp mw ma=>?_⟩
  · have e:((l.map fun q=>(([q.1.1,q.1.2]:List Int),q.2)).map fun p=>((p.1.map Sum.inl:List Key),p.2))=l.map fun q=>(tk q.1,q.2):=by
      rw[List.map_map];rfl
    rw[e];exact hd
  · have nd:ss.Nodup:=pw.imp fun{a b} h z=>by
      rw[lt2_iff,z] at h;lia
    have nd2:(l.map (·.1)).Nodup:=pm.nodup_iff.mp nd
    have e:(l.map fun q=>(([q.1.1,q.1.2]:List Int),q.2)).map (·.1)=(l.map (·.1)).map fun t=>[t.1,t.2]:=by
      rw[List.map_map,List.map_map];rfl
    rw[e]
    exact List.Pairwise.map _ (fun a b h z=>h (by obtain⟨a1,a2⟩:=a;obtain⟨b1,b2⟩:=b;simp at z;rw[z.1,z.2])) nd2
  · intro p hp
    obtain⟨q,_,e⟩:=ZN hp
    rw[←e];simp
  · have e:(l.map fun q=>(([q.1.1,q.1.2]:List Int),q.2)).map (·.1)=(l.map (·.1)).map fun t=>[t.1,t.2]:=by
      rw[List.map_map,List.map_map];rfl
    rw[e] at mp
    have e2:M.map (·.1)=ss.map fun t=>[t.1,t.2]:=by
      refine sorted_one (lt:=fun a b=>HT.lexLt a b=true) (fun a z=>by rw[lex_irr] at z;cases z) (fun a b h1 h2=>by have:=lex_tr h1 h2;rw[lex_irr] at this;cases this) (mp.trans (pm.symm.map _)) ?_ ?_
      · rw[List.pairwise_map];exact mw
      · rw[List.pairwise_map];exact pw
    have hl:M.length=ss.length:=by have:=congrArg List.length e2;simpa using this
    have e3:(M.map fun p=>V.ref p.2)=(M.map (·.2)).map V.ref:=by rw[List.map_map];rfl
    rw[e3]
    refine q r _ hr (paired_of (by rw[ZA];exact hl) fun j a t e4 e5=>?_)
    rw[ZH] at e4
    cases hm:M[j]? with
    | none=>rw[hm] at e4;cases e4
    | some m =>
      rw[hm] at e4
      cases e4
      have e6:(M.map (·.1))[j]?=some m.1:=by rw[ZH,hm];rfl
      rw[e2,ZH,e5] at e6
      have e7:[t.1,t.2]=m.1:=ZO e6
      have:=ma m (ZP hm)
      rw[←e7] at this
      exact this
end
theorem hand_rd(h:H d=some (dHand l)):Rd H d (.dT ((l.map fun t=>(t,V.bl true)).map fun q=>(tk q.1,q.2))):=by
  have e:((l.map fun t=>(t,V.bl true)).map fun q=>(tk q.1,q.2))=l.map fun t=>(tk t,V.bl true):=by rw[List.map_map];rfl
  rw[e];exact .inl h
theorem int_rd(h:H d=some (dInt l)):Rd H d (.dT ((l.map fun q=>(q.1,V.int q.2)).map fun q=>(tk q.1,q.2))):=by
  have e:((l.map fun q=>(q.1,V.int q.2)).map fun q=>(tk q.1,q.2))=l.map fun q=>(tk q.1,V.int q.2):=by rw[List.map_map];rfl
  rw[e];exact .inl h
theorem comp_list{K:PySem.W.Frag}{a p:Addr}{xs:List V}{tt:TT}{te:TE}{caps:List (Str×Nat)}{σ:L2.St}{H:Hp}{Q:Hp→Prop}(Pv:Nat→List V→Hp→Prop)(h0:Pv 0 [] (upd H p (.lst [])))(hl:∀i ys H2,i≤xs.length→Pv i ys H2→SqL K H2 a xs∧H2 p=some (.lst ys))(hs:∀i x ys H2 (N:List V→Hp→Prop),xs[i]?=some x→Pv i ys H2→(∀ys H,Pv (i+1) ys H→N ys H)→tt (some x::capv σ caps) H2 fun b H4 =>
      if b=true then te (some x::capv σ caps) H4 fun v H5=>H5 p=some (.lst ys)∧ys.length<sizeLine∧N (ys++[v]) (upd H5 p (.lst (ys++[v]))) else N ys H4)(hd:∀ys H2,Pv xs.length ys H2→Q H2) :
    ∃W:Nat→Nat→List V→Hp→Prop,(∃m,W 0 m [] (upd H p (.lst [])))∧∀i m ys H2,W i m ys H2→H2 p=some (.lst ys) ∧
      (((Itl K a).stop i H2∧Q H2)∨((Itl K a).go i H2∧∀x H3,(Itl K a).yld i H2 x H3→tt (some x::capv σ caps) H3 fun b H4 =>
        if b=true then te (some x::capv σ caps) H4 fun v H5=>H5 p=some (.lst ys)∧ys.length<sizeLine∧∃m',m'<m∧W (i+1) m' (ys++[v]) (upd H5 p (.lst (ys++[v])))
        else ∃m',m'<m∧W (i+1) m' ys H4)):=by
  refine⟨fun i m ys H=>m=xs.length-i∧i≤xs.length∧Pv i ys H,⟨xs.length,by simp,Nat.zero_le _,h0⟩,?_⟩
  rintro i m ys H2 ⟨rfl,hi,pv⟩
  obtain⟨q1,q2⟩:=hl i ys H2 hi pv
  refine⟨q2,?_⟩
  by_cases hlt:i<xs.length
  · refine .inr ⟨⟨xs,xs[i],q1,by simp[hlt]⟩,fun x H3 y=>?_⟩
    obtain⟨e,y⟩:=y
    subst e
    exact hs i x ys _ (fun zs H'=>∃m',m'<xs.length-i∧(m'=xs.length-(i+1)∧i+1≤xs.length∧Pv (i+1) zs H')) (y xs q1) pv fun zs H' pz=>⟨_,by lia,rfl,hlt,pz⟩
  · have e:i=xs.length:=by lia
    subst e
    exact .inl ⟨⟨xs,q1,ZG _⟩,hd ys H2 pv⟩
theorem comp_range{lo:Int}{n:Nat}{p:Addr}{tt:TT}{te:TE}{caps:List (Str×Nat)}{σ:L2.St}{H:Hp}{Q:Hp→Prop}(Pv:Nat→List V→Hp→Prop)(h0:Pv 0 [] (upd H p (.lst [])))(hl:∀i ys H2,i≤n→Pv i ys H2→H2 p=some (.lst ys))(hs:∀i ys H2 (N:List V→Hp→Prop),i<n→Pv i ys H2→(∀ys H,Pv (i+1) ys H→N ys H)→tt (some (.int (lo+i))::capv σ caps) H2 fun b H4 =>
      if b=true then te (some (.int (lo+i))::capv σ caps) H4 fun v H5=>H5 p=some (.lst ys)∧ys.length<sizeLine∧N (ys++[v]) (upd H5 p (.lst (ys++[v]))) else N ys H4)(hd:∀ys H2,Pv n ys H2→Q H2) :
    ∃W:Nat→Nat→List V→Hp→Prop,(∃m,W 0 m [] (upd H p (.lst [])))∧∀i m ys H2,W i m ys H2→H2 p=some (.lst ys) ∧
      (((Itr lo n).stop i H2∧Q H2)∨((Itr lo n).go i H2∧∀x H3,(Itr lo n).yld i H2 x H3→tt (some x::capv σ caps) H3 fun b H4 =>
        if b=true then te (some x::capv σ caps) H4 fun v H5=>H5 p=some (.lst ys)∧ys.length<sizeLine∧∃m',m'<m∧W (i+1) m' (ys++[v]) (upd H5 p (.lst (ys++[v])))
        else ∃m',m'<m∧W (i+1) m' ys H4)):=by
  refine⟨fun i m ys H=>m=n-i∧i≤n∧Pv i ys H,⟨n,by simp,Nat.zero_le _,h0⟩,?_⟩
  rintro i m ys H2 ⟨rfl,hi,pv⟩
  refine⟨hl i ys H2 hi pv,?_⟩
  by_cases hlt:i<n
  · refine .inr ⟨hlt,fun x H3 y=>?_⟩
    obtain⟨e,y⟩:=y
    subst e y
    exact hs i ys _ (fun zs H'=>∃m',m'<n-i∧(m'=n-(i+1)∧i+1≤n∧Pv (i+1) zs H')) hlt pv fun zs H' pz=>⟨_,by lia,rfl,hlt,pz⟩
  · have e:i=n:=by lia
    subst e
    exact .inl ⟨ZG _,hd ys H2 pv⟩
end FX
namespace FX
open PySem PySem.Spec PyProof.Rows L2
set_option linter.all false
def itemsO(p d:Addr):HO:=.ext fun h=>h.IsItemsView p d
theorem meets_items_raw(d:Addr)(hd:(d==sysModules)=false) :
    MeetsIn prog w (Builtin.«dict.items» ⟨[.ref d],[]⟩) (fun _ R s=>s.TypeIs (.ref d) "dict"∧R (.ok (.ret (.ref s.heap.objs.size))) { s with heap:=s.heap.push { cls:=.type "dict_items",data:=.fields #[.ref d] } }) :=
  .of_wp fun A R s ⟨ht,h⟩=>by
    unfold Builtin.«dict.items»
    refine wpAny_bind ?_
    unfold Builtin.Dict.noArgs
    refine wpAny_bind (wpAny_notOrdered_dict ht ?_)
    show wpAny _ _ (pure d) _ _ s
    refine wpAny_pure ?_
    show wpAny _ _ (Builtin.Dict.showsAll d >>= _) _ _ s
    unfold Builtin.Dict.showsAll
    rw[if_neg (by rw[hd];exact Bool.false_ne_true)]
    refine wpAny_bind (wpAny_pure ?_)
    exact wpAny_bind (wpAny_newObj_type (wpAny_pure ⟨_,rfl,h⟩))
section
theorem mt_items:MtR X "dict.items" (fun x xs H Q=>∃d kvs,x=.ref d∧xs=[]∧H d=some (.dT kvs)∧∀p,H p=none→Q (.ref p) (upd H p (itemsO p d))):=by
  intro pins s σ H x xs v us Q I rx rs h
  obtain⟨d,kvs,rfl,rfl,hd,q⟩:=h
  cases rx
  cases rs
  obtain⟨z,lo,ys,rel,o,es,ep,g1,g2,g3,g4,g5⟩:=(show ObjOk X.prog X.w H s.heap d (.dT kvs) from I.hok d _ hd)
  refine PySem.call_meetsIn PySem.F.slot_dict_items ⟨o,g1,g2.1⟩ PySem.F.entry_dict_items (PySem.F.args_dict_items_1 _) (meets_items_raw d lo) ⟨⟨o,g1,g2.1⟩,?_⟩
  have hn:H s.heap.objs.size=none:=I.hok.fresh (ZG _)
  refine⟨.ref s.heap.objs.size,_,I.laid (a:=s.heap.objs.size) (o:=itemsO s.heap.objs.size d) (t':=s.toks) (fun b o e=>Heap.get?_push_of_some _ e) (ZG _) ?_,rfl,q _ hn⟩
  have g:(s.heap.push { cls:=.type "dict_items",data:=.fields #[.ref d] }).get? s.heap.objs.size=some { cls:=.type "dict_items",data:=.fields #[.ref d] }:=Heap.get?_push_size _ rfl
  exact⟨⟨_,g,rfl,rfl⟩,⟨_,g⟩,fun h1 h2 ⟨o,e,r⟩ k=>⟨o,k o e,r⟩⟩
end
end FX
namespace FX
open PySem PySem.Spec PyProof.Rows L2
set_option linter.all false
def Cn(vs:Array Value)(a0:Value):Prop:=a0=.none∧vs[2]?=some a0
def XAt(h:Heap)(g:Addr→Prop)(e:Addr)(cls:Value):Prop:=g e∧∃oe vs a0,h.get? e=some oe∧oe.cls=cls∧oe.data=.fields vs∧Cn vs a0 ∧
  (vs[1]?=some .none∨∃T oT ts,vs[1]?=some (.ref T)∧g T∧T≠e∧h.get? T=some oT∧oT.data=.fields ts∧ts[3]?=some .none)
theorem XAt.mono(x:XAt h g e cls)(k:∀b,g b→g' b):XAt h g' e cls:=by
  obtain⟨g1,oe,vs,a0,h1,h2,h4,h5,h6⟩:=x
  refine⟨k _ g1,oe,vs,a0,h1,h2,h4,h5,h6.imp (fun z=>z) ?_⟩
  rintro⟨T,oT,ts,t1,t2,t3⟩
  exact⟨T,oT,ts,t1,k _ t2,t3⟩
def XFl(h:Heap)(g:Addr→Prop)(e:Addr)(cls fl:Value):Prop:=g e∧∃oe vs a0 T oT ts,h.get? e=some oe∧oe.cls=cls∧oe.data=.fields vs∧Cn vs a0∧vs[1]?=some (.ref T)∧g T∧T≠e∧h.get? T=some oT∧oT.data=.fields ts∧ts[3]?=some fl
def XTr(h:Heap)(g:Addr→Prop)(e:Addr)(cls:Value):Prop:=XFl h g e cls .none
theorem XTr.at(x:XTr h g e cls):XAt h g e cls:=by
  obtain⟨g1,oe,vs,a0,T,oT,ts,h1,h2,h3,h4,h5⟩:=x
  exact⟨g1,oe,vs,a0,h1,h2,h3,h4,.inr ⟨T,oT,ts,h5⟩⟩
def CX1(P:Program)(w:World):CXT:=fun outer H s E e s'=>∃ex cls H',e=.ref ex∧XTr s'.heap (fun b=>s.heap.get? b=none∧H' b=none) ex cls∧E cls none H'∧s'.os=s.os∧AllBare s'.gens∧Un (frs outer) [] H H' s.heap s'.heap∧HOk P w H' s'.heap
theorem hok_there(ok:HOk P w H h)(e:H a=some o):∃ob,h.get? a=some ob:=by
  have x:=ok a o e
  cases o with
  | lst xs=>obtain⟨_,_,_,_,e⟩:=x;exact⟨_,e⟩
  | tup xs=>obtain⟨_,_,_,o,e,_⟩:=x;exact⟨_,e⟩
  | dK kvs=>obtain⟨_,_,_,_,o,_,_,e,_⟩:=x;exact⟨_,e⟩
  | dT kvs=>obtain⟨_,_,_,_,o,_,_,e,_⟩:=x;exact⟨_,e⟩
  | set S n=>obtain⟨o,_,_,_,e,_⟩:=x;exact⟨_,e⟩
  | ins C dx fs=>obtain⟨_,_,_,e,_⟩:=x;exact⟨_,e⟩
  | own y=>obtain⟨_,e⟩:=x;exact⟨_,e⟩
  | xd fs=>obtain⟨_,⟨_,_,_,e,_⟩,_⟩:=x;exact⟨_,e⟩
  | rng lo hi=>obtain⟨_,_,_,e⟩:=x;exact⟨_,e⟩
  | frz ob u=>obtain⟨e,_⟩:=x;exact⟨_,e⟩
  | tbl ps=>exact⟨_,(show h.get? a=some _ from x)⟩
  | met f y=>exact⟨_,(show h.get? a=some _ from x)⟩
  | ext φ=>obtain⟨_,⟨_,e⟩,_⟩:=x;exact⟨_,e⟩
structure Aside(fr:List Addr)(g:Addr→Prop)(h h':Heap):Prop where
  keep:∀b o,h.get? b=some o→b∉fr→¬g b→h'.get? b=some o
  slot:∀b o,h.get? b=some o→b∈fr→∃sl,h'.get? b=some { o with slots:=sl }
theorem Aside.trans(a:Aside fr g h h1)(b:Aside fr g h1 h2):Aside fr g h h2 :=
  ⟨fun c o e n1 n2=>b.keep c o (a.keep c o e n1 n2) n1 n2,fun c o e m=>by
    obtain⟨sl,e1⟩:=a.slot c o e m
    obtain⟨sl2,e2⟩:=b.slot c _ e1 m
    exact⟨sl2,e2⟩⟩
section
variable {M:Model}{A:Around}{E:Value→Shared→Prop}{s:Shared}{base:Heap}{env:Env}{outer:List Env}{L e:Addr}{cls:Value}{g:Addr→Prop}
theorem entry_x{head:Value}{hn:Bool}{oe:Obj}{vs:Array Value}{Q:Unit→Shared→Prop}(hfr:A.frames=some (env::outer))(hl:s.heap.FunFrames base (env::outer))(hf:env.frame=some L)(he:s.heap.get? e=some oe)(hd:oe.data=.fields vs)(hsz:1<vs.size)(h:∀h' T oT ts oe',h'.get? e=some oe'→oe'.cls=oe.cls→oe'.data=.fields (vs.setIfInBounds 1 (.ref T))→s.heap.get? T=none→T≠e→h'.get? T=some oT→oT.data=.fields ts→ts[3]?=some (rawInt L) →
      (∀b o,b≠e→b∉frs (env::outer)→s.heap.get? b=some o→h'.get? b=some o)→(∀b o,b≠e→s.heap.get? b=some o→∃sl,h'.get? b=some { o with slots:=sl })→Q () { s with heap:=h' }) :
    wpAny M A (do let a ←PySem.frameOf env;let pl ←entryPlaceOf L hn;let b ←EntryCells.newEntry head a .none (rawInt L) .none pl;setField (.ref e) 1 b) Q E s:=by
  have hene:e∉(env::outer).filterMap (·.frame):=fun hm=>by
    obtain⟨_,o,ho,hnf⟩:=hl.mem hm
    rw[he] at ho;cases ho
    exact hnf vs hd
  refine wpAny_bind (wpAny_frameOf_fun hfr hl hf fun h1 s1=>wpAny_bind (wpAny_entryPlaceOf fun pl hpl=>?_))
  unfold EntryCells.newEntry newFields
  refine wpAny_bind (wpAny_newObj_type ?_ (hpl.sizeOk5 _ _ _ _ _))
  obtain⟨ob,hob⟩:∃ob:Obj,ob={ cls:=.type "traceback",dict:=none,data:=.fields ([head,.ref L,.none,rawInt L,.none]++(if pl.isEmpty then List.replicate 6 Value.none else pl)).toArray }:=⟨_,rfl⟩
  have e1:h1.get? e=some oe:=(s1.2.1 e hene).trans he
  have e2:(h1.push ob).get? e=some oe:=Heap.get?_push_of_some _ e1
  have Te:h1.objs.size≠e:=Nat.ne_of_gt (Heap.lt_size e1)
  rw[←hob]
  refine wpAny_setField e2 hd hsz (h _ h1.objs.size ob _ _ (Heap.get?_update_self _ e2 (Obj.isFreed_of_fields (Obj.data_mapFields hd _))) (Obj.cls_mapFields _ _) (Obj.data_mapFields hd _) ?_ Te ((Heap.get?_update_other _ _ (Ne.symm Te)).trans (Heap.get?_push_size h1 (by rw[hob];rfl))) (by rw[hob]) (by simp) (fun b o hb hm q=>?_) fun b o hb q=>?_)
  · cases q:s.heap.get? h1.objs.size with
    | none=>rfl
    | some o =>
      obtain⟨sl,q2⟩:=s1.2.2 _ o q
      exact absurd (Heap.lt_size q2) (Nat.lt_irrefl _)
  · exact(Heap.get?_update_other _ _ (Ne.symm hb)).trans (Heap.get?_push_of_some _ ((s1.2.1 b hm).trans q))
  · obtain⟨sl,q2⟩:=s1.2.2 b o q
    exact⟨sl,(Heap.get?_update_other _ _ (Ne.symm hb)).trans (Heap.get?_push_of_some _ q2)⟩
theorem Cn.set{vs:Array Value}{a0 v:Value}(c:Cn vs a0):Cn (vs.setIfInBounds 1 v) a0:=⟨c.1,by rw[Array.getElem?_setIfInBounds_ne (by decide)];exact c.2⟩
theorem note_x{Q:Unit→Shared→Prop}(hfr:A.frames=some (env::outer))(hl:s.heap.FunFrames base (env::outer))(hf:env.frame=some L)(x:XAt s.heap g e cls)(fresh:∀b,s.heap.get? b=none→g b)(h:∀h',XFl h' g e cls (rawInt L)→Aside (frs (env::outer)) g s.heap h'→Q () { s with heap:=h' }):wpAny M A (noteFrame (.ref e) env) Q E s:=by
  obtain⟨ge,oe,vs,a0,h1,rfl,h3,h4,h5⟩:=x
  unfold noteFrame
  simp only[hf]
  rcases h5 with h5|⟨T,oT,ts,t1,t2,t3,t4,t5,t6⟩
  · have z1:=(Array.getElem?_eq_some_iff.mp h5).1
    refine wpAny_bind (wpAny_field h1 h3 h5 ?_)
    rw[if_neg (by decide)]
    refine entry_x hfr hl hf h1 h3 z1 fun h' T oT ts oe' k1 k2 k3 k4 k5 k6 k7 k8 k9 k10=>h h' ⟨ge,oe',_,a0,T,oT,ts,k1,k2,k3,h4.set,by simp[z1],fresh T k4,k5,k6,k7,k8⟩ ⟨fun b o q m n=>k9 b o (fun z=>n (by rw[z];exact ge)) m q,fun b o q m=>k10 b o (fun z=>?_) q⟩
    obtain⟨_,o',e',hn⟩:=hl.mem m
    rw[z,h1] at e';cases e'
    exact hn vs h3
  · have z1:=(Array.getElem?_eq_some_iff.mp t1).1
    refine wpAny_bind (wpAny_field h1 h3 t1 ?_)
    rw[if_pos (show(Value.ref T != Value.none)=true by simp)]
    refine wpAny_bind (wpAny_field t4 t5 t6 ?_)
    rw[if_neg (show ¬((Value.none==rawInt L)=true) by simp[rawInt])]
    refine wpAny_bind (wpAny_setField t4 t5 (Array.getElem?_eq_some_iff.mp t6).1 ?_)
    have other:∀b,b≠T→(s.heap.update T (Obj.mapFields (·.setIfInBounds 3 Value.none))).get? b=s.heap.get? b:=fun b hb=>Heap.get?_update_other _ _ (Ne.symm hb)
    have nr:∀b o,s.heap.get? b=some o→(∀vs,o.data≠.fields vs)→b≠T:=fun b o hb hnf q=>by
      rw[q,t4] at hb;cases hb
      exact hnf ts t5
    have nfr:∀b∈frs (env::outer),b≠e∧b≠T:=fun b m=>by
      obtain⟨_,o',e',hn⟩:=hl.mem m
      refine⟨fun z=>?_,nr b o' e' hn⟩
      rw[z,h1] at e';cases e'
      exact hn vs h3
    refine entry_x (base:=base) hfr (hl.of_keeps fun b o hb hnf=>⟨o,(other b (nr b o hb hnf)).trans hb,rfl⟩) hf ((other e (Ne.symm t3)).trans h1) h3 z1 fun h' T' oT' ts' oe' k1 k2 k3 k4 k5 k6 k7 k8 k9 k10 =>
      h h' ⟨ge,oe',_,a0,T',oT',ts',k1,k2,k3,h4.set,by simp[z1],?_,k5,k6,k7,k8⟩ ⟨fun b o q m n=>k9 b o (fun z=>n (by rw[z];exact ge)) m ((other b (fun z=>n (by rw[z];exact t2))).trans q),fun b o q m=>k10 b o (nfr b m).1 ((other b (nfr b m).2).trans q)⟩
    by_cases z:T'=T
    · rw[z];exact t2
    · exact fresh T' (by rw[←other T' z];exact k4)
theorem noted_x{Q:Unit→Shared→Prop}(hf:env.frame=some L)(x:XFl s.heap g e cls (rawInt L))(h:Q () s):wpAny M A (noteFrame (.ref e) env) Q E s:=by
  obtain⟨ge,oe,vs,a0,T,oT,ts,h1,h2,h3,h4,t1,t2,t3,t4,t5,t6⟩:=x
  unfold noteFrame
  simp only[hf]
  refine wpAny_bind (wpAny_field h1 h3 t1 ?_)
  rw[if_pos (show(Value.ref T != Value.none)=true by simp)]
  refine wpAny_bind (wpAny_field t4 t5 t6 ?_)
  rw[if_pos (by simp)]
  exact wpAny_pure h
theorem fly_x{Q:Unit→Shared→Prop}{fl:Value}{fo:Option Addr}{fr:List Addr}(x:XFl s.heap g e cls fl)(hg:∀b∈fr,¬g b)(h:∀h',XFl h' g e cls (fo.elim .none fun f=>rawInt f)→Aside fr g s.heap h'→Q () { s with heap:=h' }):wpAny M A (setFlight (.ref e) fo) Q E s:=by
  obtain⟨ge,oe,vs,a0,T,oT,ts,h1,h2,h3,h4,t1,t2,t3,t4,t5,t6⟩:=x
  have hsz:3<ts.size:=(Array.getElem?_eq_some_iff.mp t6).1
  unfold setFlight
  refine wpAny_bind (wpAny_field h1 h3 t1 ?_)
  rw[if_pos (show(Value.ref T != Value.none)=true by simp)]
  refine wpAny_setField t4 t5 hsz (h _ ⟨ge,oe,vs,a0,T,_,_,(Heap.get?_update_other _ _ t3).trans h1,h2,h3,h4,t1,t2,t3,Heap.get?_update_self _ t4 (Obj.isFreed_of_fields (Obj.data_mapFields t5 _)),Obj.data_mapFields t5 _,by simp[hsz]⟩ ⟨fun b o q _ n=>?_,fun b o q m=>?_⟩)
  · exact(Heap.get?_update_other _ _ (fun z=>n (by rw[←z];exact t2))).trans q
  · exact⟨o.slots,(Heap.get?_update_other _ _ (fun z=>hg b m (by rw[←z];exact t2))).trans q⟩
theorem land_x{Q:Unit→Shared→Prop}(x:XTr s.heap g e cls)(hg:∀b∈fr,¬g b)(h:∀h',XTr h' g e cls→Aside fr g s.heap h'→Q () { s with heap:=h' }):wpAny M A (setFlight (.ref e) none) Q E s:=fly_x (fo:=none) x hg h
theorem fr_no(hl:s.heap.FunFrames base (env::outer))(x:XFl h' g e cls fl)(a:Aside (frs (env::outer)) g s.heap h'):∀T oT ts,h'.get? T=some oT→oT.data=.fields ts→T∉frs (env::outer):=fun T oT ts k1 k2 m=>by
  obtain⟨_,o,e1,hn⟩:=hl.mem m
  obtain⟨sl,e2⟩:=a.slot T o e1 m
  rw[k1] at e2;cases e2
  exact hn ts k2
theorem look_x{Q:Unit→Shared→Prop}(hfr:A.frames=some (env::outer))(hl:s.heap.FunFrames base (env::outer))(hf:env.frame=some L)(x:XAt s.heap g e cls)(fresh:∀b,s.heap.get? b=none→g b)(h:∀h',XTr h' g e cls→Aside (frs (env::outer)) g s.heap h'→Q () { s with heap:=h' }):wpAny M A (noteFrame (.ref e) env) (fun _ s2=>wpAny M A (setFlight (.ref e) none) Q E s2) E s:=by
  refine note_x hfr hl hf x fresh fun h1 x1 a1=>?_
  have fr:=fr_no hl x1 a1
  obtain⟨ge,oe,vs,a0,T,oT,ts,h1',h2,h3,h4,t1,t2,t3,t4,t5,t6⟩:=x1
  have hsz:3<ts.size:=(Array.getElem?_eq_some_iff.mp t6).1
  unfold setFlight
  refine wpAny_bind (wpAny_field (s:={ s with heap:=h1 }) h1' h3 t1 ?_)
  rw[if_pos (show(Value.ref T != Value.none)=true by simp)]
  refine wpAny_setField (s:={ s with heap:=h1 }) t4 t5 hsz (h _ ⟨ge,oe,vs,a0,T,_,_,(Heap.get?_update_other _ _ t3).trans h1',h2,h3,h4,t1,t2,t3,Heap.get?_update_self _ t4 (Obj.isFreed_of_fields (Obj.data_mapFields t5 _)),Obj.data_mapFields t5 _,by simp[hsz]⟩ (a1.trans ⟨fun b o q _ n=>?_,fun b o q m=>?_⟩))
  · exact(Heap.get?_update_other _ _ (fun z=>n (by rw[←z];exact t2))).trans q
  · exact⟨o.slots,(Heap.get?_update_other _ _ (fun z=>fr T oT ts t4 t5 (by rw[z];exact m))).trans q⟩
theorem leave_x{Q:Unit→Shared→Prop}(hfr:A.frames=some (env::outer))(hl:s.heap.FunFrames base (env::outer))(hf:env.frame=some L)(x:XAt s.heap g e cls)(fresh:∀b,s.heap.get? b=none→g b)(h:∀h',XTr h' g e cls→Aside (frs (env::outer)) g s.heap h'→Q () { s with heap:=h' }):wpAny M A (leaving env (.ref e)) Q E s:=wpAny_bind (look_x hfr hl hf x fresh h)
end
end FX
namespace FX
open PySem PySem.Spec PyProof.Rows L2
set_option linter.all false
section
variable {X:Cx}{pins:List (Addr×Obj)}{σ:L2.St}{H H1:Hp}{s s1:Shared}{h':Heap}{g:Addr→Prop}{ex:Addr}{cls:Value}
theorem hok_aside(ok:HOk P w H1 h)(a:Aside fr g h h')(hf:∀b∈fr,H1 b=none)(hg:∀b,g b→H1 b=none):HOk P w H1 h':=fun b o e =>
  (ok b o e).stay (fun c u hc q=>a.keep c u q (fun m=>by
    have:=hf c m
    rcases hc with rfl|hc
    · rw[this] at e;cases e
    · rw[this] at hc;cases hc) (fun m=>by
    have:=hg c m
    rcases hc with rfl|hc
    · rw[this] at e;cases e
    · rw[this] at hc;cases hc)) (fun _ q=>q) fun _ _ q=>q
theorem un_aside(u:Un fs [] H0 H1 s0 h)(a:Aside fr g h h')(hg:∀b o,s0.get? b=some o→¬g b)(hfr:∀b o,s0.get? b=some o→b∈fr→b∈fs)(hH:∀b∈fr,H1 b=none):Un fs [] H0 H1 s0 h' where
  keep:=fun b o e n1 n2 n3=>a.keep b o (u.keep b o e n1 n2 n3) (fun m=>n2 (hfr b o e m)) (hg b o e)
  slot:=fun b o e n1 m n3=>by
    obtain⟨sl,q⟩:=u.slot b o e n1 m n3
    by_cases hm:b∈fr
    · obtain⟨sl2,q2⟩:=a.slot b _ q hm
      exact⟨sl2,q2⟩
    · exact⟨sl,a.keep b _ q hm (hg b o e)⟩
  free:=u.free
  there:=fun b o e n=>by
    obtain⟨o',q⟩:=u.there b o e n
    by_cases hm:b∈fr
    · obtain⟨sl2,q2⟩:=a.slot b _ q hm
      exact⟨_,q2⟩
    · exact⟨_,a.keep b _ q hm (hg b o e)⟩
  tups:=u.tups
  frzs:=u.frzs
  tbls:=u.tbls
end
def Raises(X:Cx)(E:XK):Prop:=∀(pins:List (Addr×Obj))(σ:L2.St)(H1:Hp)(s1:Shared)(ex:Addr)(cls:Value),Inv X pins σ H1 s1→XAt s1.heap (fun b=>X.s₀.heap.get? b=none∧H1 b=none) ex cls→E cls none H1→X.xe (.ref ex) s1
section
variable {P:Program}{w:World}{K:PySem.W.Frag}{mg:Str→Option Value}{base:Heap}{N:List Str}{qual:Str}{scope:Scope}{f:Addr}{cd:Value}{A:Around}{outer:List Env}{s:Shared}{H:Hp}{E:XK}
theorem raises1:Raises (cxOf (CX1 P w) P w K mg base N qual scope f cd A outer s H E) E:=by
  intro pins σ H1 s1 ex cls I x hE
  have hs0:∀b o,s.heap.get? b=some o→∃o',s1.heap.get? b=some o':=fun b o e=>I.base.there b o e (by simp[cxOf])
  refine leave_x (base:=base) (L:=s.heap.objs.size) I.ok.frames I.stack rfl x (fun b q=>?_) fun h' x' as=>?_
  · constructor
    · cases q2:s.heap.get? b with
      | none=>exact q2
      | some o =>
        obtain⟨o',e⟩:=hs0 b o q2
        rw[q] at e;cases e
    · cases q2:H1 b with
      | none=>rfl
      | some o =>
        obtain⟨ob,e⟩:=hok_there I.hok q2
        rw[q] at e;cases e
  · have hfree:∀b∈frs (envOfC qual scope s.heap.objs.size f cd::outer),H1 b=none:=fun b hb=>I.stkFree b hb
    refine⟨ex,cls,H1,rfl,x',hE,I.os,I.bare,un_aside (fs:=frs outer) I.base as (fun b o e z=>?_) (fun b o e m=>?_) hfree,hok_aside I.hok as hfree fun b z=>z.2⟩
    · have:=z.1
      have e':s.heap.get? b=some o:=e
      rw[show(cxOf (CX1 P w) P w K mg base N qual scope f cd A outer s H E).s₀.heap.get? b=s.heap.get? b from rfl,e'] at this
      cases this
    · rcases ZM (show b∈s.heap.objs.size::frs outer from m) with z|z
      · have:=Heap.lt_size (show s.heap.get? b=some o from e)
        rw[z] at this
        exact absurd this (Nat.lt_irrefl _)
      · exact z
theorem pass1:Passes (CX1 P w) (cxOf (CX1 P w) P w K mg base N qual scope f cd A outer s H E) E:=by
  intro pins σ H0 s0 e s' I ⟨ex,cls,H',he,x,hE,ho,hg,u,ok⟩
  subst he
  have I':Inv (cxOf (CX1 P w) P w K mg base N qual scope f cd A outer s H E) pins σ H' s':=I.call' (ch:=[]) ho u ok hg (fun b hb=>by simp at hb)
  refine raises1 pins σ H' s' ex cls I' (x.at.mono fun b z=>⟨?_,z.2⟩) hE
  cases q:s.heap.get? b with
  | none=>exact q
  | some o =>
    obtain⟨o',e⟩:=I.base.there b o q (by simp[cxOf])
    rw[z.1] at e;cases e
end
section
variable {P:Program}{w:World}{K:PySem.W.Frag}{mg:Str→Option Value}{base:Heap}
theorem ok1{x qual:Str}{st:Stmt}{f:Addr}{fd:FuncData}{N ps:List Str}{k:Nat}{sp:Sp}(F:Fun K x qual st f fd)(S:FnScope N ps (defScope st))(len:∀vs H Q E,sp vs H Q E→vs.length=ps.length)(hbody:∀(cdv:Value) (A:Around) (outer:List Env) (s:Shared) (H:Hp) (vs:List V) (Q:VK) (E:XK),Room k (A.deeper (envOfC qual (defScope st) s.heap.objs.size f cdv))→sp vs H Q E →
      ∃t,PSs (cxOf (CX1 P w) P w K mg base N qual (defScope st) f cdv A outer s H E) (defBody st) t∧t { nx:=fun _ H'=>Q .non H',rt:=Q } (start N vs) H):FnOk P w K mg base (CX1 P w) (k+1) f fd ps sp:=by
  obtain⟨oc,od,kV,doc,pm,an,cdv,ct,osl,rfl,lk,hcd⟩:=F.ex
  exact fn_of lk hcd S len fun A outer s H vs Q E hr hsp=>hbody cdv A outer s H vs Q E hr hsp
theorem ok12{x qual:Str}{st:Stmt}{f:Addr}{fd:FuncData}{N ps:List Str}{k:Nat}{sp:Sp}(F:Fun K x qual st f fd)(S:FnScope N ps (defScope st))(h:∀vs H Q E,sp vs H Q E→Bd P w K mg base (CX1 P w) false N ps qual st f k vs H Q E):FnOk P w K mg base (CX1 P w) (k+1) f fd ps sp :=
  ok1 F S (fun vs H Q E z=>(h vs H Q E z).1) fun cdv A outer s H vs Q E hr z=>(h vs H Q E z).2 cdv A outer s hr
theorem FnOk.to1{k:Nat}{f:Addr}{fd:FuncData}{ps:List Str}{sp:Sp}(F:FnOk P w K mg base CX0 k f fd ps sp):FnOk P w K mg base (CX1 P w) k f fd ps sp :=
  ⟨F.len,fun A outer s H args us vs Q E hr he hb hv hs=>codeAny_mono (F.run A outer s H args us vs Q E hr he hb hv hs) fun r s' h=>by
    cases r with
    | ok fl=>cases fl<;>exact h
    | error e=>exact False.elim h⟩
end
def bmVE:List Value:=[.type "ValueError",.type "Exception",.type "BaseException",.type "object"]
structure XCls(K:PySem.W.Frag)(mg:Str→Option Value)(x:Str)(C:Addr):Prop where
  mg:mg x=some (.ref C)
  ex:PySem.W.excIn K C bmVE "ValueError.__new__"=true
section
variable {X:Cx}{x:Str}{C:Addr}{E:XK}{np cpos pos p1:Pos}{msg:Str}{j:Nat}
theorem exc_obj{K:PySem.W.Frag}{h:Heap}{C:Addr}(XK:K.In h)(q:PySem.W.excIn K C bmVE "ValueError.__new__"=true):∃nm q N bs bm hdct sn sub ab col dd k0 k1 k2 k3 k5 mN,h.get? C=some (excClassObj nm q C N bs bm hdct sn sub ab col dd k0 k1 k2 k3 k5 "ValueError.__new__")∧h.Ns N mN∧mN "__init__"=none∧OwnTail h bmVE bm:=by
  unfold PySem.W.excIn at q
  split at q
  · rename_i dd cd sl ho
    split at q
    · rename_i C' bm k0 k1 k2 k3 n k5 hm hs
      simp only[Bool.and_eq_true,beq_iff_eq,Bool.not_eq_true'] at q
      obtain⟨⟨⟨⟨⟨rfl,rfl⟩,hdel⟩,ht⟩,hok⟩,hni⟩:=q
      obtain⟨nm,bs,mro,ns,qn,hd,sn,sub,ab,col,del⟩:=cd
      dsimp only at hm hdel hok hni
      subst hm hdel
      have hsl:sl=#[k0,k1,k2,k3,some (.builtin "ValueError.__new__"),k5]:=by
        obtain⟨l⟩:=sl
        simp only at hs
        rw[hs]
      subst hsl
      exact⟨nm,qn,ns,bs,bm,hd,sn,sub,ab,col,dd,k0,k1,k2,k3,k5,_,XK _ _ ho,.of_isNs (PySem.W.isNs_of_in XK hok),PySem.W.nsMap_none_of_in XK hok hni,PySem.W.tail_of_in XK ht⟩
    · cases q
  · cases q
theorem xcls_obj{h:Heap}{mg:Str→Option Value}(XK:X.K.In h)(c:XCls X.K mg x C):∃nm q N bs bm hdct sn sub ab col dd k0 k1 k2 k3 k5 mN,h.get? C=some (excClassObj nm q C N bs bm hdct sn sub ab col dd k0 k1 k2 k3 k5 "ValueError.__new__")∧h.Ns N mN∧mN "__init__"=none∧OwnTail h bmVE bm:=exc_obj XK c.ex
theorem ps_raise(hc:X.calm=true)(hg:Gl X x)(c:XCls X.K X.mg x C)(hx:Raises X E)(hex:X.ex=[]:=by rfl)(hd:(x==("__debug__":Str))=false:=by decide)(hplain:(backTo cpos (starEach [.Constant (.str msg) j p1] X.env)).any (·.1)=false:=by rfl)(hs:starEach [.Constant (.str msg) j p1] X.env=[(false,eval (.Constant (.str msg) j p1) X.env)]:=by rfl) :
    PS X (.Raise (some (.Call (.Name x np) [.Constant (.str msg) j p1] [] cpos)) none pos) (fun _ _ H=>E (.ref C) none H):=by
  intro pins s σ H D I h
  obtain⟨nm,q,N,bs,bm,hdct,sn,sub,ab,col,dd,k0,k1,k2,k3,k5,mN,hC,hN,hni,tl⟩:=xcls_obj (X:=X) I.mod.kin c
  refine wpAny_Raise_call_subU (C:=C) (nm:=nm) (q:=q) (N:=N) (bs:=bs) (bm:=bm) (hdct:=hdct) (sn:=sn) (sub:=sub) (ab:=ab) (col:=col) (dd:=dd) (k0:=k0) (k1:=k1) (k2:=k2) (k3:=k3) (k5:=k5) F.excBase_ValueError (bmB:=bmVE) (by decide +kernel) F.excBase_ValueError (tl.hasType (by decide +kernel)) (I.ok.hd hc) hplain hni ?_
  refine ld_glob I hg c.mg ⟨rfl,?_⟩ hd
  have ha:PA X [.Constant (.str msg) j p1] (tCons (tC (.str msg)) tNil):=pa_cons pe_str pa_nil hs
  have hA:=ha cpos pins s σ H (fun vs H1=>vs=[.str msg]∧H1=H) I ⟨rfl,rfl⟩
  rw[hs] at hA ⊢
  refine Calls.evalArgs_plain (thn hA fun us s2 ⟨vs,H2,I2,r2,e1,e2⟩=>?_)
  subst e1 e2
  refine⟨rfl,by show us.length≤sizeLine;rw[←r2.length];show 1≤sizeLine;decide,I2.bk _ _ hC,(let⟨o,es,ep,e,r⟩:=hN;⟨o,es,ep,I2.bk _ _ e,r⟩),tl.keeps I2.bk,fun h' e hm=>?_⟩
  obtain⟨t,ht,_⟩:=hm.there
  have none_:∀b,s2.heap.get? b=none→X.s₀.heap.get? b=none∧H2 b=none:=fun b q=>by
    constructor
    · cases q2:X.s₀.heap.get? b with
      | none=>rfl
      | some o =>
        obtain⟨o',e'⟩:=I2.base.there b o q2 (by rw[hex];simp)
        rw[q] at e';cases e'
    · cases q2:H2 b with
      | none=>rfl
      | some o =>
        obtain⟨ob,e'⟩:=hok_there I2.hok q2
        rw[q] at e';cases e'
  have I3:Inv X pins σ H2 { s2 with heap:=h' }:=I2.kept (t':=s2.toks) hm.keeps
  exact hx pins σ H2 _ e (.ref C) I3 ⟨none_ e hm.new,_,_,_,ht,rfl,rfl,⟨rfl,rfl⟩,.inl rfl⟩ h
end
end FX
namespace FX
open PySem PySem.Spec PyProof.Rows L2
set_option linter.all false
section
theorem forget_ok(I:Inv X pins σ H s)(hN:X.N.Nodup)(hi:X.N[i]?=some x)(hk:X.env.scope.names.lookup x=some .local)(h:∀s',Inv X pins (σ.set i none) H s'→Q () s'):wpAny M A (do bindName X.env x .none;unbindBehindTheSuite X.env x pos) Q E s:=by
  obtain⟨m,hn,hl⟩:=id I.loc
  have hcls:(X.env.scope.kind == .class || (X.env.scope.kind == .module&&X.env.locals != X.env.globals))=false:=by rw[I.ok.kind];rfl
  have hiσ:i<σ.length:=by rw[I.len];exact(ZJ hi).1
  have cne:=I.cne
  refine wpAny_nameGoes_keeps hk hn hcls fun h' v hn' hs=>?_
  have low:∀{b:Addr} {o:Obj},X.s₀.heap.get? b=some o→b≠X.env.locals:=fun e=>Nat.ne_of_lt (Nat.lt_of_lt_of_le (Heap.lt_size e) I.ok.above)
  refine h _ ⟨I.ok,I.os,I.bare,⟨fun b o e n hb hx=>(hs.2 b (low e)).trans (I.base.keep b o e n hb hx),fun b o e n hb hx=>?_,I.base.free,fun b o e hx=>?_,I.base.tups,I.base.frzs,I.base.tbls⟩,⟨_,hn',fun j y v' e1 e2 e3=>?_⟩,fun y c e=>?_,I.free,I.freeC,fun p hp=>?_,fun b ob e=>?_,by rw[List.length_set];exact I.len⟩
  · obtain⟨sl,e1⟩:=I.base.slot b o e n hb hx
    exact⟨sl,(hs.2 b (low e)).trans e1⟩
  · obtain⟨o',e1⟩:=I.base.there b o e hx
    exact⟨o',(hs.2 b (low e)).trans e1⟩
  · have hj:j≠i:=fun z=>by
      subst z
      rw[List.getElem?_set_self hiσ] at e2
      cases e2
    rw[List.getElem?_set_ne (Ne.symm hj)] at e2
    obtain⟨u',r',q⟩:=hl j y v' e1 e2 e3
    refine⟨u',r',?_⟩
    rcases q with⟨k,e⟩|⟨k,c,e,z⟩
    · refine .inl ⟨k,?_⟩
      have:y≠x:=fun e=>hj (nodup_ix hN e1 (e▸hi))
      simp[this,e]
    · exact .inr ⟨k,c,e,z.sameBut hs (cne y c e)⟩
  · obtain⟨w',z⟩:=I.cell y c e
    exact⟨w',z.sameBut hs (cne y c e)⟩
  · obtain⟨e,n,ne,nf,d⟩:=I.pin p hp
    exact⟨(hs.2 p.1 ne).trans e,n,ne,nf,d⟩
  · refine(I.hok b ob e).stay (fun c w' hc q=>(hs.2 c ?_).trans q) (fun _ q=>q) fun _ _ q=>q
    rintro rfl
    rcases hc with rfl|hc
    · rw[I.free] at e;cases e
    · rw[I.free] at hc;cases hc
end
def inTry(X:Cx)(pins:List (Addr×Obj))(E:Value→Shared→Prop):Cx:={ X with pn:=X.pn++pins,xe:=E }
def inX(X:Cx)(ex:Addr):Cx:={ X with A:=X.A.mark (some (.ref ex)),calm:=false,xe:=fun _ _=>False }
section
theorem Cx.Ok.toTry(ok:X.Ok):(inTry X pins E).Ok:=⟨ok.mod,ok.kind,ok.glob,ok.blt,ok.above,ok.inj,ok.has,ok.cab,ok.hd,ok.frames,ok.stk,ok.exf,ok.bs,ok.bsz,ok.noex,ok.exfs,ok.funs,ok.frf⟩
theorem Cx.Ok.ofTry(ok:(inTry X pins E).Ok):X.Ok:=⟨ok.mod,ok.kind,ok.glob,ok.blt,ok.above,ok.inj,ok.has,ok.cab,ok.hd,ok.frames,ok.stk,ok.exf,ok.bs,ok.bsz,ok.noex,ok.exfs,ok.funs,ok.frf⟩
theorem Cx.Ok.toX(ok:X.Ok):(inX X ex).Ok:=⟨ok.mod,ok.kind,ok.glob,ok.blt,ok.above,ok.inj,ok.has,ok.cab,fun z=>(by cases z),ok.frames,ok.stk,ok.exf,ok.bs,ok.bsz,ok.noex,ok.exfs,ok.funs,ok.frf⟩
theorem inv_toTry(I:Inv X pins σ H s):Inv (inTry X pins E) [] σ H s:=⟨Cx.Ok.toTry I.ok,I.os,I.bare,I.base,I.loc,I.cell,I.free,I.freeC,fun p hp=>I.pin p (by
  have hp':p∈(X.pn++pins)++[]:=hp
  rwa [List.append_nil] at hp'),I.hok,I.len⟩
theorem inv_ofTry(I:Inv (inTry X pins E) pins' σ H s):Inv X pins σ H s:=⟨Cx.Ok.ofTry I.ok,I.os,I.bare,I.base,I.loc,I.cell,I.free,I.freeC,fun p hp=>I.pin p (ZB _ hp),I.hok,I.len⟩
theorem inv_toX(I:Inv X pins σ H s):Inv (inX X ex) pins σ H s:=⟨Cx.Ok.toX I.ok,I.os,I.bare,I.base,I.loc,I.cell,I.free,I.freeC,I.pin,I.hok,I.len⟩
theorem inv_ofX(I:Inv (inX X ex) pins σ H s)(ok:X.Ok):Inv X pins σ H s:=⟨ok,I.os,I.bare,I.base,I.loc,I.cell,I.free,I.freeC,I.pin,I.hok,I.len⟩
theorem inv_track(I:Inv X pins σ H s)(hn:H a=none)(h0:X.s₀.heap.get? a=none)(h1:a≠X.env.locals)(h2:∀x c,X.env.cells.lookup x=some c→c≠a)(h3:∀p∈X.pn++pins,p.1≠a)(ok:ObjOk X.prog X.w (upd H a o) s.heap a o):Inv X pins σ (upd H a o) s:=by
  have ne:∀{b:Addr} {u:HO},H b=some u→b≠a:=fun e=>ne_of_none e hn
  refine⟨I.ok,I.os,I.bare,⟨I.base.keep,I.base.slot,fun b ob e n hx=>?_,I.base.there,fun b xs e=>?_,fun b ob u e=>?_,fun b ps e=>?_⟩,I.loc,I.cell,by rw[upd_ne (Ne.symm h1)];exact I.free,fun x c e=>by rw[upd_ne (h2 x c e)];exact I.freeC x c e,fun p hp=>?_,fun b u e=>?_,I.len⟩
  · rw[upd_ne (fun z=>by rw[z,h0] at e;cases e)];exact I.base.free b ob e n hx
  · have:=I.base.tups b xs e
    rw[upd_ne (ne this)];exact this
  · have:=I.base.frzs b ob u e
    rw[upd_ne (ne this)];exact this
  · obtain⟨more,q⟩:=I.base.tbls b ps e
    exact⟨more,by rw[upd_ne (ne q)];exact q⟩
  · obtain⟨a1,a2,a3⟩:=I.pin p hp
    exact⟨a1,by rw[upd_ne (h3 p hp)];exact a2,a3⟩
  · by_cases hb:b=a
    · subst hb;rw[upd_same] at e;cases e;exact ok
    · rw[upd_ne hb] at e
      exact(I.hok b u e).stay (fun c w' _ q=>q) (fun c q=>by rw[upd_ne (ne q)];exact q) fun c xs q=>by rw[upd_ne (ne q)];exact q
end
def excO(a C:Addr):HO:=.ext fun h=>∃o vs,h.get? a=some o∧o.cls=.ref C∧o.data=.fields vs∧vs[2]?=some .none
def PassesS(X:Cx)(ES:L2.St→XK):Prop:=∀(pins:List (Addr×Obj))(σ:L2.St)(H:Hp)(s:Shared)(e:Value)(s':Shared),Inv X pins σ H s→CX1 X.prog X.w X.stack H s (ES σ) e s'→X.xe e s'
section
theorem run_fnS(F:FnOk X.prog X.w X.K X.mg X.base (CX1 X.prog X.w) k f fd ps sp)(hr:Room k X.A)(hb:Binds X.K fd ps [])(hx:PassesS X ES)(I:Inv X pins σ H s)(r:Vals vs us)(h:sp vs H Q (ES σ)):wpAny (model X.prog X.w) X.A (call (.ref f) us) (EP X pins σ Q) X.xe s:=by
  have hl:us.length=ps.length:=by rw[←r.length];exact F.len _ _ _ _ h
  refine wpAny_call (codeAny_mono (F.run X.A X.stack s H ⟨us,[]⟩ us vs Q (ES σ) hr I.env0 (by have:=hb s us I.kIn (by rw[List.append_nil];exact hl);rwa [List.append_nil] at this) r h) fun r s' hq=>?_)
  cases r with
  | error e=>exact hx pins σ H s e s' I hq
  | ok fl =>
    cases fl with
    | ret u=>exact I.after hq
    | next=>exact hq.elim
    | brk=>exact hq.elim
    | cont=>exact hq.elim
inductive ItMethS(C:Addr)(m:Str)(sp:Sp)(ES:L2.St→XK)(t:TA)(σ:L2.St)(x:V)(H1:Hp)(Q:VK):Prop
  | mk (a dx fs) (e0:x=.ref a) (e1:H1 a=some (.ins C dx fs)) (e2:fs.lookup m=none) (e3:t σ H1 fun vs H2=>sp (x::vs) H2 Q (ES σ))
def tMethS(C:Addr)(m:Str)(sp:Sp)(ES:L2.St→XK)(ta:TE)(t:TA):TE:=fun σ H Q=>ta σ H fun x H1=>ItMethS C m sp ES t σ x H1 Q
theorem pe_methS(he:PE X o ta)(c:Cls X.K C)(hm:Meth X.K C m f)(F:FnOk X.prog X.w X.K X.mg X.base (CX1 X.prog X.w) k f fd ps sp)(hr:Room k X.A)(hb:Binds X.K fd ps [])(hx:PassesS X ES)(ha:PA X (e::es) t)(hst:starEach (e::es) X.env=(false,eval e X.env)::starEach es X.env:=by rfl)(hpl:(backTo pos (starEach es X.env)).any (·.1)=false:=by rfl)(ht:eval (.Call (.Attribute o m apos) (e::es) [] pos) X.env=(do let ov ←eval o X.env;standAt apos.atName;let(f,first) ←holding [ov] (getMethod ov m pl);callWith pos f first (backTo pos (starEach (e::es) X.env)) (backToKw pos (keywordEach [] X.env))):=by rfl) :
    PE X (.Call (.Attribute o m apos) (e::es) [] pos) (tMethS C m sp ES ta t):=by
  intro pins s σ H Q I h
  refine PySem.W.methodCall_KW (pl:=pl) (thn (he pins s σ H _ I h) fun u s1 ⟨x,H1,I1,rx,a,dx,fs,ex,ea,l,q⟩=>?_) ht
  subst ex
  cases rx
  refine getmeth_ok I1 ea c hm l (PySem.W.callWith_K (first:=[.ref a]) (h₀:=X.base) I.ok.mod.kin hm.kp (thn (ha pos pins s1 σ H1 _ I1 q) fun us s2 ⟨vs,H2,I2,r,q2⟩=>⟨I2.kIn,?_⟩) hst hpl)
  exact run_fnS (us:=.ref a::us) (vs:=.ref a::vs) F hr hb hx I2 (.cons rfl r) q2
end
theorem xm_own{M:Model}{A:Around}{E:Value→Shared→Prop}{s:Shared}{K:PySem.W.Frag}{C D e:Addr}{oe:Obj}{Q:Bool→Shared→Prop}(XK:K.In s.heap)(cD:PySem.W.excIn K D bmVE "ValueError.__new__"=true)(hsub:PySem.W.mroIn K C (.ref D)=some true)(he:s.heap.get? e=some oe)(hcls:oe.cls=.ref C)(hq:Q true s):wpAny M A (excMatches (.ref e) (.ref D)) Q E s:=by
  obtain⟨h,g,d,t,os⟩:=s
  obtain⟨nm,q,N,bs,bm,hdct,sn,sub,ab,col,dd,k0,k1,k2,k3,k5,mN,hD,hN,hni,tl⟩:=exc_obj XK cD
  have hB:(Value.ref D::bm).contains (.type "BaseException")=true:=by rw[List.contains_cons,tl.hasType (b:=true) (by decide +kernel),Bool.or_true]
  have f:=tc_notTuple
  have LS:=PySem.W.looks_mroIn (M:=M) XK hsub
  unfold excMatches
  repeat (first|(with_reducible refine wpAny_loadPart_at he ?_;rw[hcls])|with_reducible refine wpAny_loadPart_at hD ?_|(with_reducible refine wpAny_isSubtype_exc hD ?_;rw[hB])|with_reducible refine LS.at ?_|wp_step)
  exact hq
end FX
namespace FX
open PySem PySem.Spec PyProof.Rows L2
set_option linter.all false
def gone(D:Ends)(i:Nat):Ends:={ nx:=fun σ H=>D.nx (σ.set i none) H,bk:=fun σ H=>D.bk (σ.set i none) H,ct:=fun σ H=>D.ct (σ.set i none) H,rt:=D.rt }
def Caught(K:PySem.W.Frag)(D:Addr)(cls:Value)(C:Addr):Prop:=cls=.ref C∧PySem.W.mroIn K C (.ref D)=some true
def tTryAs(K:PySem.W.Frag)(D:Addr)(i:Nat)(tb:(L2.St→XK)→TS)(ts:Addr→TS):TS:=fun E σ H =>
  tb (fun σ' cls _ H'=>∃C,Caught K D cls C∧∀ex,H' ex=none→ts ex (gone E i) (σ'.set i (some (.ref ex))) (upd H' ex (excO ex C))) E σ H
section
theorem ps_tryAs(hstk:X.stack=X.env::X.outer)(hfr:X.env.frame=some X.env.locals)(hex:X.ex=[])(hN:X.N.Nodup)(hi:X.N[i]?=some n)(hn:X.env.scope.names.lookup n=some .local)(hg:Gl X x)(cD:XCls X.K X.mg x D)(hb:∀(pins:List (Addr×Obj)) (E:Value→Shared→Prop) (ES:L2.St→XK),PassesS (inTry X pins E) ES→PSs (inTry X pins E) body (tb ES))(hs:∀ex,PSs (inX X ex) (b₀::suite) (ts ex))(hd:(x==("__debug__":Str))=false:=by decide) :
    PS X (.Try body [.ExceptHandler (some (.Name x np)) (some n) (b₀::suite) hpos] [] [] pos) (tTryAs X.K D i tb ts):=by
  intro pins s σ H E I h
  refine wpAny_Try_except (wpAny_mono (hb pins (fun e s1=>wpAny (model X.prog X.w) X.A (noteFrame e X.env) (fun _ s2=>wpAny (model X.prog X.w) X.A (setFlight e none) (fun _ s3=>wpAny (model X.prog X.w) X.A (handleBy e X.env [.ExceptHandler (some (.Name x np)) (some n) (b₀::suite) hpos]) (SP X pins E) X.xe s3) X.xe s2) X.xe s1) _ ?_ [] s σ H E (inv_toTry I) h) (fun f s1 q=>?_) fun e s1 q=>q)
  ·
    intro pins' σ' H0 s0 e s' I0 ⟨ex,cls,H',he,xt,⟨C,⟨hcls,hsub⟩,hE⟩,ho,hga,u,ok⟩
    subst he hcls
    have I1:Inv X pins σ' H0 s0:=inv_ofTry I0
    have frn:∀b∈frs (X.env::X.outer),H' b=none:=fun b hb=>by
      have:=I1.stkFree b (by rw[hstk];exact hb)
      obtain⟨o,e1,_⟩:=(I1.stack.mem (by rw[hstk];exact hb)).2
      exact u.free b o e1 this (by simp)
    have frg:∀b∈frs (X.env::X.outer),¬(s0.heap.get? b=none∧H' b=none):=fun b hb z=>by
      obtain⟨o,e1,_⟩:=(I1.stack.mem (by rw[hstk];exact hb)).2
      rw[e1] at z;cases z.1
    have I2:Inv X pins σ' H' s':=I1.call' (ch:=[]) ho u ok hga (fun b hb=>by simp at hb)
    have fl:s'.heap.FunFrames X.base (X.env::X.outer):=by have:=I2.stack;rwa [hstk] at this
    have hfm:X.A.frames=some (X.env::X.outer):=by rw[I1.ok.frames,hstk]
    have none_:∀b,s'.heap.get? b=none→s0.heap.get? b=none∧H' b=none:=fun b q=>by
      constructor
      · cases q2:s0.heap.get? b with
        | none=>rfl
        | some o =>
          obtain⟨o',e1⟩:=u.there b o q2 (by simp)
          rw[q] at e1;cases e1
      · cases q2:H' b with
        | none=>rfl
        | some o =>
          obtain⟨ob,e1⟩:=hok_there ok q2
          rw[q] at e1;cases e1
    have back:∀{h':Heap} (t:Nat),Aside (frs (X.env::X.outer)) (fun b=>s0.heap.get? b=none∧H' b=none) s'.heap h'→Inv X pins σ' H' { s' with heap:=h',toks:=t }:=fun{h'} t as=>by
      refine I1.call' (s':={ s' with heap:=h',toks:=t }) (ch:=[]) ho ?_ (hok_aside ok as frn fun b z=>z.2) hga (fun b hb=>by simp at hb)
      have u':Un (frs X.stack) [] H0 H' s0.heap s'.heap:=u
      exact un_aside u' as (fun b o e1 z=>by rw[e1] at z;cases z.1) (fun b o e1 m=>by rw[hstk];exact m) frn
    refine look_x (base:=X.base) (L:=X.env.locals) hfm fl hfr xt.at none_ fun h1 x1 as1=>?_
    have J1:=back s'.toks as1
    obtain⟨oe,vs,a0,T,oT,ts',b1,b2,b3,_⟩:=x1.2
    refine wpAny_handleBy_cons (codeAny_handlers_test (ld_glob (X:=inX X ex) (inv_toX J1) hg cD.mg ?_ hd)) (by intro q;cases q)
    refine xm_own J1.kIn cD.ex hsub b1 b2 ?_
    refine codeAny_handlers_suite_as (land_x (s:={ s' with heap:=h1 }) x1 frg fun h2 x2 as2=>?_)
    have J2:=back s'.toks (as1.trans as2)
    obtain⟨oe2,vs2,a2,T2,oT2,ts2,c1,c2,c3,⟨c4,c5⟩,_⟩:=x2.2
    subst c4
    have J3:Inv X pins σ' (upd H' ex (excO ex C)) { s' with heap:=h2,toks:=s'.toks }:=by
      refine inv_track J2 x2.1.2 ?_ (fun z=>?_) (fun y c e1 z=>?_) (fun p hp z=>?_) ⟨⟨oe2,vs2,c1,c2,c3,c5⟩,⟨oe2,c1⟩,fun ha hb ⟨o,vs,q1,q2⟩ k=>⟨o,vs,k o q1,q2⟩⟩
      · cases q2:X.s₀.heap.get? ex with
        | none=>rfl
        | some o =>
          obtain⟨o',e1⟩:=I1.base.there ex o q2 (by rw[hex];simp)
          rw[x2.1.1] at e1;cases e1
      · obtain⟨m,⟨o,_,_,e1,_⟩,_⟩:=I1.loc
        rw[←z,x2.1.1] at e1;cases e1
      · obtain⟨v,o,e2,_⟩:=I1.cell y c e1
        rw[z,x2.1.1] at e2;cases e2
      · have:=(I1.pin p hp).1
        rw[z,x2.1.1] at this;cases this
    refine store_ok (X:=X) J3 hN hi (.inl hn) (show RelV (.ref ex) (.ref ex) from rfl) (fun s4 J4=>?_) (.inr hn)
    refine wpAny_mono (hs ex pins s4 _ _ (gone E i) (inv_toX J4) (hE ex x2.1.2)) (fun f s5 q=>?_) fun _ _ z=>z.elim
    cases f with
    | next=>obtain⟨σ5,H5,J5,q5⟩:=q;exact forget_ok (inv_ofX J5 J4.ok) hN hi hn fun s6 J6=>⟨_,H5,J6,q5⟩
    | brk=>obtain⟨σ5,H5,J5,q5⟩:=q;exact forget_ok (inv_ofX J5 J4.ok) hN hi hn fun s6 J6=>⟨_,H5,J6,q5⟩
    | cont=>obtain⟨σ5,H5,J5,q5⟩:=q;exact forget_ok (inv_ofX J5 J4.ok) hN hi hn fun s6 J6=>⟨_,H5,J6,q5⟩
    | ret v=>obtain⟨v5,σ5,H5,J5,r5,q5⟩:=q;exact forget_ok (inv_ofX J5 J4.ok) hN hi hn fun s6 J6=>⟨v5,_,H5,J6,r5,q5⟩
  · cases f with
    | next=>obtain⟨σ1,H1,I1,q1⟩:=q;exact wpAny_execs_nil ⟨σ1,H1,inv_ofTry I1,q1⟩
    | brk=>obtain⟨σ1,H1,I1,q1⟩:=q;exact⟨σ1,H1,inv_ofTry I1,q1⟩
    | cont=>obtain⟨σ1,H1,I1,q1⟩:=q;exact⟨σ1,H1,inv_ofTry I1,q1⟩
    | ret v=>obtain⟨v1,σ1,H1,I1,r1,q1⟩:=q;exact⟨v1,σ1,H1,inv_ofTry I1,r1,q1⟩
end
end FX
namespace FX
open PySem PySem.Spec PySem.Calls PyProof.Rows L2 Builtin Builtin.ObjectAttr Builtin.Getset_descriptor
set_option linter.all false
set_option maxHeartbeats 400000
structure XIsi(K:PySem.W.Frag)(C:Addr):Prop where
  ga:PySem.W.findIn K (.ref C) "__getattribute__"=some (some (.builtin "BaseException.__getattribute__"))
  gb:PySem.W.findIn K (.ref C) "__getattr__"=some none
  ha:PySem.W.findIn K (.ref C) "__class__"=some (some (.builtin "object.__class__"))
  hn:PySem.W.specialIn K (.builtin "object.__class__") "__get__"=some (some (.builtin "getset_descriptor.__get__"))
  ht:PySem.W.takesIn K (.builtin "object.__class__")=some true
  hm:PySem.W.mroIn K C (.type "object")=some true
  hb:PySem.W.mroIn K C (.type "BaseException")=some true
  hc:(PySem.W.clsIn K C).isSome=true
theorem bga_kind:builtinKind "BaseException.__getattribute__"=some .slot:=by decide +kernel
theorem bga_split:splitId "BaseException.__getattribute__"=some ("BaseException","__getattribute__"):=by decide +kernel
section
variable {prog:Program}{w:World}{A:Around}{E:Value→Shared→Prop}{s:Shared}{K:PySem.W.Frag}{x C:Addr}
theorem class_get_x{R:Result→Shared→Prop}{tp:Value}(X:K.In s.heap)(hx:∃o,s.heap.get? x=some o∧o.cls=.ref C)(f:XIsi K C)(h:R (.ok (.ret (.ref C))) s):codeAny (model prog w) A (.call (.builtin "getset_descriptor.__get__") ⟨[.builtin "object.__class__",.ref x,tp],[]⟩) R s:=by
  obtain⟨hh,g,dr,t,os⟩:=s
  obtain⟨o,hxo,hc⟩:=hx
  have L0:PySem.W.Looks (model prog w) hh (typeOf (.ref x)) (.ref C):=hc▸(PySem.W.Looks.ld hxo).andThen .now
  have L1:=PySem.W.looks_mroIn (M:=model prog w) X f.hm
  refine codeAny_call_builtin PySem.W.KF.slot_gs.plain PySem.W.KF.entry_gs (PySem.W.KF.slot_gs.check _ _ _ _ _ _ _ _ PySem.W.KF.type_class (PySem.W.KF.args_gs _ _ _) ?_)
  unfold Builtin.«getset_descriptor.__get__» descrGet
  rw[PySem.W.dga_obj]
  refine wpAny_bind (wpAny_pure ?_)
  unfold descrGetter descrCheckInstance descrNameAndClass isInstance
  simp only[PySem.W.KF.owner_class]
  repeat lk
  refine⟨Code.quiet_builtin _ (by decide +kernel),codeAny_builtin PySem.W.KF.entry_class ?_⟩
  unfold Builtin.«object.__class__» shownTypeOf
  repeat lk
  exact h
theorem exc_class{Q:Option Value→Shared→Prop}(X:K.In s.heap)(hx:∃o,s.heap.get? x=some o∧o.cls=.ref C)(f:XIsi K C)(h:Q (some (.ref C)) { s with toks:=s.toks+1 }):wpAny (model prog w) A (getAttr? (.ref x) "__class__") Q E s:=by
  obtain⟨hh,g,dr,t,os⟩:=s
  obtain⟨o,hxo,hc⟩:=id hx
  have L0:PySem.W.Looks (model prog w) hh (typeOf (.ref x)) (.ref C):=hc▸(PySem.W.Looks.ld hxo).andThen .now
  have L1:=PySem.W.looks_findIn (M:=model prog w) X f.ga
  have L2':=PySem.W.looks_findIn (M:=model prog w) X f.gb
  have L3:PySem.W.Looks (model prog w) hh (isInstance (.ref x) (.type "BaseException")) true:=L0.andThen (PySem.W.looks_mroIn X f.hb)
  have L4:=PySem.W.looks_findIn (M:=model prog w) X f.ha
  have L5:PySem.W.Looks (model prog w) hh (getOf (some (.builtin "object.__class__"))) (some (.builtin "getset_descriptor.__get__")):=PySem.W.looks_specialIn X f.hn
  have L6:PySem.W.Looks (model prog w) hh (dataDescriptor? (some (.builtin "object.__class__")) (some (.builtin "getset_descriptor.__get__"))) (some (.builtin "getset_descriptor.__get__",.builtin "object.__class__")):=(PySem.W.looks_takesIn X f.ht).andThen .now
  have L7:PySem.W.Looks (model prog w) hh (find (.ref x) (.ref C) "__class__") (.bind (.builtin "getset_descriptor.__get__") (.builtin "object.__class__")):=L4.andThen (L5.andThen (L6.andThen (PySem.W.Looks.tag .now)))
  unfold getAttr? getAttrBy? getAttrBy
  refine wpAny_bind (wpAny_mkText (wpAny_bind (wpAny_attempt (wpAny_holding (wpAny_bind (L0.at (wpAny_bind (L1.at ?_))))))))
  have hne:(onTheHeap (Value.ref C)&&(Value.builtin "BaseException.__getattribute__" == Value.builtin "object.__getattribute__"))=false:=by
    rw[show(Value.builtin "BaseException.__getattribute__" == Value.builtin "object.__getattribute__")=false from by decide +kernel,Bool.and_false]
  dsimp only
  rw[if_neg (by rw[hne];exact Bool.false_ne_true)]
  unfold getAttrByItsOwn
  refine wpAny_bind (show wpAny _ _ (typeLookup (.ref C) "__getattr__") _ _ _ from L2'.at ?_)
  refine wpAny_bind (wpAny_attempt (wpAny_holding ?_))
  unfold callGetattribute
  rw[if_neg (by show ¬((false&&_)=true);rw[Bool.false_and];exact Bool.false_ne_true)]
  unfold boundAndCalled
  refine wpAny_bind (wpAny_of_eq (F.excAttr_ValueError.ga.bind (.ref x)) ?_)
  show wpAny _ _ (call (.builtin "BaseException.__getattribute__") [.ref x,.str "__class__" t]) _ _ _
  refine wpAny_call (codeAny_call_builtin F.excAttr_ValueError.ga.plain F.entry_bexc_ga (@PySem.W.check_slot (model prog w) _ _ _ "BaseException.__getattribute__" "BaseException" "__getattribute__" (.ref x) [.str "__class__" t] [] _ bga_kind bga_split L3 (F.args_bexc_ga (.ref x) (.str "__class__" t)) ?_))
  unfold Builtin.«object.__getattribute__»
  refine wpAny_bind (m:=slotArgs "__getattribute__" 1 ⟨[.ref x,.str "__class__" t],[]⟩) (wpAny_of_eq (a:=(Value.ref x,[Value.str "__class__" t])) (by kernel_rfl) ?_)
  dsimp only
  refine wpAny_bind (m:=attrName (.str "__class__" t)) (wpAny_of_eq (a:=("__class__":Str)) (by kernel_rfl) ?_)
  refine wpAny_bind (L0.at (wpAny_bind (L7.at ?_)))
  dsimp only
  unfold bindTo
  dsimp only
  refine wpAny_bind (wpAny_holding (wpAny_call (class_get_x (A:=A.in1) X hx f ?_)))
  refine wpAny_pure ?_
  refine wpAny_of_eq (a:=Value.ref C) (PySem.W.handedOut_of rfl) ?_
  exact wpAny_pure h
theorem kitx_exc(f:XIsi K C):PySem.W.KitX K (.ref x) (.ref C) (fun h=>∃o,h.get? x=some o∧o.cls=.ref C) where
  ty:=fun _ _ _ ⟨o,h1,h2⟩=>h2▸(PySem.W.Looks.ld h1).andThen .now
  it:=fun _ _ X _=>by
    obtain⟨cd,hcd⟩:=Option.isSome_iff_exists.mp f.hc
    unfold PySem.W.clsIn at hcd
    split at hcd
    · rename_i c' d' cd' sl' ho
      intro A' Q' E' s' k q
      unfold isType loadHead
      exact wpAny_bind (wpAny_loadPart (k _ _ (X _ _ ho)) (wpAny_pure q))
    · cases hcd
  ne:=fun h tp dd its n sl X htp=>by
    obtain⟨cd,hcd⟩:=Option.isSome_iff_exists.mp f.hc
    refine Bool.eq_false_iff.mpr fun q=>?_
    have e:C=tp:=Value.ref.inj (beq_iff_eq.mp q)
    subst e
    unfold PySem.W.clsIn at hcd
    split at hcd
    · rename_i c' d' cd' sl' ho
      have z:=(X _ _ ho).symm.trans htp
      cases z
    · cases hcd
  ca:=fun X I k=>exc_class X I f k
end
section
inductive Rcall_isiX(K:PySem.W.Frag)(xs:List V)(H:Hp)(Q:VK):Prop
  | mk a C c cv b (_:xs=[.ref a,c]) (_:RelV c cv) (_:H a=some (excO a C)) (_:XIsi K C) (_:PySem.W.kitOne K (.ref C) cv=some b) (_:Q (.bl b) H)
theorem call_isiX:CallR X (.builtin "isinstance") (Rcall_isiX X.K):=by
  intro pins s σ H xs us Q I r h
  obtain⟨a,C,c,cv,b,rfl,rc,ha,f,e,q⟩:=h
  obtain⟨u1,u2,rfl,r1,r2⟩:=r.two
  cases r1
  have:u2=cv:=by
    cases c with
    | ref p=>exact Eq.trans r2 rc.symm
    | ty n=>exact Eq.trans r2 rc.symm
    | non=>exact Eq.trans r2 rc.symm
    | bl b=>exact Eq.trans r2 rc.symm
    | int i=>obtain⟨t,e1⟩:=rc;rw[e1] at e;unfold PySem.W.kitOne PySem.W.kitCls at e;simp at e
    | str i=>obtain⟨t,e1⟩:=rc;rw[e1] at e;unfold PySem.W.kitOne PySem.W.kitCls at e;simp at e
    | byt i=>obtain⟨t,e1⟩:=rc;rw[e1] at e;unfold PySem.W.kitOne PySem.W.kitCls at e;simp at e
    | flt i=>obtain⟨t,e1⟩:=rc;rw[e1] at e;unfold PySem.W.kitOne PySem.W.kitCls at e;simp at e
  subst this
  obtain⟨o,vs,g1,g2,g3⟩:=(I.hok a _ ha).1
  exact PySem.W.kia_one (kitx_exc f) I.kIn ⟨o,g1,g2⟩ e (fun z=>nomatch z) fun tk=>⟨.bl b,H,I.tok tk,rfl,q⟩
end
end FX
namespace FX
open PySem PySem.Spec PyProof.Rows L2
set_option linter.all false
theorem FnOk.no{P:Program}{w:World}{K:PySem.W.Frag}{mg:Str→Option Value}{base:Heap}{k:Nat}{f:Addr}{fd:FuncData}{ps:List Str}{sp:Sp}(F:FnOk P w K mg base (CX1 P w) k f fd ps sp):FnOk P w K mg base CX0 k f fd ps (fun vs H Q _=>sp vs H Q E0) :=
  ⟨fun vs H Q E q=>F.len vs H Q E0 q,fun A outer s H args us vs Q E hr he hb hv hs=>codeAny_mono (F.run A outer s H args us vs Q E0 hr he hb hv hs) fun r s' h=>by
    cases r with
    | ok fl=>cases fl<;>exact h
    | error e=>obtain⟨_,_,_,_,_,z,_⟩:=h;exact z.elim⟩
theorem kit_self{K:PySem.W.Frag}{v:Value}:PySem.W.kitOne K v v=some true:=by
  unfold PySem.W.kitOne
  rw[if_pos (by simp)]
theorem boot_VE:bootBuiltins "ValueError"=some (.type "ValueError"):=by decide +kernel
end FX
namespace FX
open PySem L2
theorem cls_of_mro(h:PySem.W.mroIn K C b=some r):(PySem.W.clsIn K C).isSome=true:=by
  obtain⟨cd,a,_⟩:=Option.bind_eq_some_iff.mp h
  rw[a];rfl
end FX
namespace FX
open PySem PySem.Spec PyProof.Rows L2
set_option linter.all false
inductive ItW(h:Heap)(it d:Addr)(i n ep:Nat):Prop
  | mk (own ok ov:Value) (f:Bool) (_:(own=.none∨∃a:Nat,own=rawInt a)) (_:h.get? it=some { cls:=.type "dict_itemiterator",dict:=none,data:=.fields #[own,.bool f,.ref d,.int i 0,.int n 0,.int ep 0,ok,ov],slots:=#[] })
def PrAt(h:Heap)(a:Addr)(k v:Value):Prop:=h.get? a=some { cls:=.type "tuple",data:=.seq #[k,v] }
section
variable {prog:Program}{w:World}{A:Around}{E:Value→Shared→Prop}{s:Shared}{it d:Addr}{i n ep:Nat}
theorem ItW.ty(x:ItW s.heap it d i n ep):s.TypeIs (.ref it) "dict_itemiterator":=let⟨_,_,_,_,_,e⟩:=x;⟨_,e,rfl⟩
theorem ItW.to(x:ItW h it d i n ep)(k:∀o,h.get? it=some o→h'.get? it=some o):ItW h' it d i n ep:=let⟨a,b,c,f,g,e⟩:=x;⟨a,b,c,f,g,k _ e⟩
theorem alive_q(h:Q (s.heap.get? a) s):wpAny (model prog w) A (loadIfAlive a) Q E s:=fun _ _ _=>h
theorem stop_new(h:∀h' e,Shared.TypeIs { s with heap:=h' } (.ref e) "StopIteration"→(∀b o,s.heap.get? b=some o→h'.get? b=some o)→Q (.ref e) { s with heap:=h' }):wpAny (model prog w) A (newExc (.type "StopIteration") []) Q E s:=by
  have first:firstArgMember (.type "StopIteration") []=pure .none:=by
    unfold firstArgMember
    cases (Manifest.find? "StopIteration").elim false fun t=>t.mro.contains "StopIteration" || t.mro.contains "SystemExit" <;> rfl
  unfold newExc newTuple
  rw[first]
  refine wpAny_bind (wpAny_newObj_type (wpAny_bind (wpAny_pure (wpAny_newObj_type (h _ _ ⟨_,Heap.get?_push_size _ rfl,rfl⟩ fun b o e=>Heap.get?_push_of_some _ (Heap.get?_push_of_some _ e)) (by size_fits)))) (by size_fits))
theorem pair_new(hw:ItW s.heap it d i n ep)(hQ:∀h',ItW h' it d i n ep→PrAt h' s.heap.objs.size k v→(∀b o,b≠it→s.heap.get? b=some o→h'.get? b=some o)→Q (.ref s.heap.objs.size) { s with heap:=h' }) :
    wpAny (model prog w) A (Builtin.Dict_items.pairFromOwner (.ref it) 6 k v) Q E s:=by
  obtain⟨own,ok,ov,f,ho,e0⟩:=hw
  have il:it<s.heap.objs.size:=Heap.lt_size e0
  have inew:s.heap.objs.size≠it:=Nat.ne_of_gt il
  obtain⟨h1,eh⟩:∃h1,h1=s.heap.push { cls:=.type "tuple",data:=.seq ([k,v]:List Value).toArray }:=⟨_,rfl⟩
  have p1:PrAt h1 s.heap.objs.size k v:=by rw[eh];exact Heap.get?_push_size _ rfl
  have k1:∀b o,s.heap.get? b=some o→h1.get? b=some o:=fun b o e=>by rw[eh];exact Heap.get?_push_of_some _ e
  have e1:=k1 it _ e0
  have fin:∀h2,ItW h2 it d i n ep→Heap.SameBut it h1 h2→Q (.ref s.heap.objs.size) { s with heap:=h2 }:=fun h2 x y =>
    hQ h2 x ((y.2 _ inew).trans p1) fun b o hb e=>(y.2 b hb).trans (k1 b o e)
  have free:wpAny (model prog w) A (do
      let old:=[←field (.ref it) 6,←field (.ref it) (6+1)]
      setField (.ref it) 6 k;setField (.ref it) (6+1) v
      setField (.ref it) 0 (rawInt s.heap.objs.size);setField (.ref it) 1 (.bool false)
      letGo old [.ref s.heap.objs.size]
      return .ref s.heap.objs.size) Q E { s with heap:=h1 }:=by
    refine wpAny_bind (wpAny_field (x:=ok) e1 rfl rfl (wpAny_bind (wpAny_field (x:=ov) e1 rfl rfl ?_)))
    refine wpAny_bind (wpAny_setField_rec e1 (by simp) fun g2 q2 b2=>wpAny_bind (wpAny_setField_rec q2 (by simp) fun g3 q3 b3=>wpAny_bind (wpAny_setField_rec q3 (by simp) fun g4 q4 b4=>wpAny_bind (wpAny_setField_rec q4 (by simp) fun g5 q5 b5=>?_))))
    refine wpAny_bind (wpAny_letGo (wpAny_pure (fin g5 ⟨_,_,_,_,.inr ⟨s.heap.objs.size,rfl⟩,q5⟩ ⟨?_,fun b hb=>?_⟩)))
    · rw[b5.1,b4.1,b3.1,b2.1]
    · rw[b5.2 b hb,b4.2 b hb,b3.2 b hb,b2.2 b hb]
  unfold Builtin.Dict_items.pairFromOwner
  refine wpAny_bind (wpAny_newTuple ?_)
  rw[←eh]
  refine wpAny_bind ?_
  unfold Builtin.Dict_items.ownedTupleIsFree
  refine wpAny_bind (wpAny_field (x:=own) e1 rfl rfl ?_)
  rcases ho with rfl|⟨a,rfl⟩
  · exact wpAny_pure free
  · show wpAny _ _ (loadIfAlive ((a:Int).toNat) >>= _) _ _ _
    refine wpAny_bind (alive_q ?_)
    cases ha:h1.get? (a:Int).toNat with
    | none=>exact wpAny_pure free
    | some oa =>
      refine wpAny_bind (wpAny_field (x:=.bool f) e1 rfl rfl ?_)
      cases f with
      | true=>exact wpAny_pure (wpAny_pure (fin h1 ⟨_,_,_,_,.inr ⟨a,rfl⟩,e1⟩ (Heap.SameBut.refl _ _)))
      | false=>exact wpAny_bind (wpAny_setField_rec e1 (by simp) fun g2 q2 b2=>wpAny_pure (wpAny_pure (fin g2 ⟨_,_,_,_,.inr ⟨a,rfl⟩,q2⟩ b2)))
theorem items_iter(hv:s.heap.IsItemsView v d)(hm:RawD s.heap d es ep)(hQ:∀h',ItW h' s.heap.objs.size d 0 es.size ep→(∀b o,s.heap.get? b=some o→h'.get? b=some o)→Q (.ref s.heap.objs.size) { s with heap:=h' }):wpAny (model prog w) A (pyIter (.ref v)) Q E s:=by
  obtain⟨o1,e1,c1,f1⟩:=id hv
  obtain⟨o2,e2,c2,f2⟩:=hm
  refine wpAny_pyIter_slot hv.typeIs F.slot_dict_items_iter (wpAny_call_entry F.slot_dict_items_iter hv.typeIs F.entry_dict_items_iter ?_ (F.args_dict_items_iter_1 _))
  unfold Builtin.«dict_items.__iter__» Builtin.Dict_items.dictOf Builtin.Dict_items.newIterator
  refine wpAny_bind (wpAny_pure (wpAny_bind (wpAny_bind (wpAny_field (x:=.ref d) e1 f1 rfl (wpAny_pure (wpAny_bind (wpAny_bind (wpAny_dictEntries e2 f2 (wpAny_bind (wpAny_dictEpoch e2 f2 ?_))))))))))
  have own:Builtin.Dict_items.ownsTuple "dict_itemiterator"=true:=by decide
  simp only[own,if_true,Bool.false_eq_true,if_false]
  refine wpAny_newObj_type (wpAny_pure ⟨_,rfl,"dict_itemiterator",_,⟨_,Heap.get?_push_size _ rfl,rfl⟩,F.slot_dict_itemiterator_next.lookup,?_⟩) (by simp[sizeOk,Builtin.Dict_items.ownedTupleFields,sizeLine_eq])
  exact hQ _ ⟨.none,.none,.none,false,.inl rfl,(Heap.get?_push_size _ rfl).trans (by simp[rawInt,Builtin.Dict_items.ownedTupleFields])⟩ fun b o e=>Heap.get?_push_of_some _ e
theorem items_next{es:Array DictEntry}{Q:Option Value→Shared→Prop}(hw:ItW s.heap it d i es.size ep)(hm:RawD s.heap d es ep)(hi:i<es.size)(hQ:∀h',ItW h' it d (i+1) es.size ep→PrAt h' s.heap.objs.size es[i].key es[i].val→(∀b o,b≠it→s.heap.get? b=some o→h'.get? b=some o)→Q (some (.ref s.heap.objs.size)) { s with heap:=h' }):wpAny (model prog w) A (pyNext (.ref it)) Q E s:=by
  have ty:=hw.ty
  obtain⟨own,ok,ov,f,ho,e0⟩:=hw
  obtain⟨o2,e2,c2,f2⟩:=hm
  have owns:Builtin.Dict_items.ownsTuple "dict_itemiterator"=true:=by decide
  unfold pyNext
  refine wpAny_bind (wpAny_attempt (wpAny_callSpecial?_slot (name:=Str.ofString "__next__") ty F.slot_dict_itemiterator_next (wpAny_call_entry F.slot_dict_itemiterator_next ty F.entry_dict_itemiterator_next (wpAny_bind (wpAny_pure (wpAny_bind ?_))) (F.args_dict_itemiterator_next_1 _))))
  refine wpAny_bind (wpAny_bind (wpAny_typeNameOfWhole_itemiter ty (wpAny_pure (wpAny_bind (wpAny_fieldsOf e0 rfl ?_)))))
  simp only[owns,if_true]
  refine(show wpAny (model prog w) _ (if(Value.ref d==Value.none)=true then _ else _) _ _ s from ?_)
  rw[if_neg (show ¬((Value.ref d==Value.none)=true) from Bool.false_ne_true)]
  refine wpAny_bind (wpAny_pure (wpAny_bind (wpAny_dictEntries e2 f2 ?_)))
  rw[if_neg (by simp)]
  refine wpAny_bind (wpAny_pure (wpAny_bind (wpAny_dictEpoch e2 f2 ?_)))
  rw[if_neg (by simp)]
  refine wpAny_pure ?_
  simp only[show ¬((i:Int)<0) by lia,if_false,Int.toNat_natCast,Array.getElem?_eq_getElem hi]
  refine wpAny_bind (wpAny_bind (wpAny_typeNameOfWhole_itemiter ty (wpAny_pure (wpAny_bind (wpAny_isOneOf_itemiter ty ?_)))))
  refine(show wpAny (model prog w) _ (setField (.ref it) 3 (rawInt ((i:Int)+1)) >>= _) _ _ s from ?_)
  refine wpAny_bind (wpAny_setField_rec e0 (by simp) fun h1 q1 b1=>?_)
  have w1:ItW h1 it d (i+1) es.size ep:=⟨own,ok,ov,f,ho,by rw[show((i+1:Nat):Int)=(i:Int)+1 by lia];simpa [rawInt] using q1⟩
  have ty1:Shared.TypeIs { s with heap:=h1 } (.ref it) "dict_itemiterator":=ItW.ty (s:={ s with heap:=h1 }) w1
  refine wpAny_bind (wpAny_holding (wpAny_bind (wpAny_isOneOf_itemiter ty1 (wpAny_bind (wpAny_isOneOf_itemiter ty1 ?_)))))
  refine pair_new (s:={ s with heap:=h1 }) w1 fun h2 w2 p2 k2=>?_
  have z1:h1.objs.size=s.heap.objs.size:=b1.1
  dsimp only at p2 k2 ⊢
  rw[z1] at p2 ⊢
  exact wpAny_pure ⟨_,rfl,wpAny_pure (hQ h2 w2 p2 fun b o hb e=>k2 b o hb ((b1.2 b hb).trans e))⟩
theorem items_end{es:Array DictEntry}{Q:Option Value→Shared→Prop}(hh:A.handled=none)(hw:ItW s.heap it d i es.size ep)(hm:RawD s.heap d es ep)(hi:es.size≤i)(hQ:∀h',(∀b o,b≠it→s.heap.get? b=some o→h'.get? b=some o)→Q none { s with heap:=h' }):wpAny (model prog w) A (pyNext (.ref it)) Q E s:=by
  have ty:=hw.ty
  obtain⟨own,ok,ov,f,ho,e0⟩:=hw
  obtain⟨o2,e2,c2,f2⟩:=hm
  have owns:Builtin.Dict_items.ownsTuple "dict_itemiterator"=true:=by decide
  unfold pyNext
  refine wpAny_bind (wpAny_attempt (wpAny_callSpecial?_slot (name:=Str.ofString "__next__") ty F.slot_dict_itemiterator_next (wpAny_call_entry F.slot_dict_itemiterator_next ty F.entry_dict_itemiterator_next (wpAny_bind (wpAny_pure (wpAny_bind ?_))) (F.args_dict_itemiterator_next_1 _))))
  refine wpAny_bind (wpAny_bind (wpAny_typeNameOfWhole_itemiter ty (wpAny_pure (wpAny_bind (wpAny_fieldsOf e0 rfl ?_)))))
  simp only[owns,if_true]
  refine(show wpAny (model prog w) _ (if(Value.ref d==Value.none)=true then _ else _) _ _ s from ?_)
  rw[if_neg (show ¬((Value.ref d==Value.none)=true) from Bool.false_ne_true)]
  refine wpAny_bind (wpAny_pure (wpAny_bind (wpAny_dictEntries e2 f2 ?_)))
  rw[if_neg (by simp)]
  refine wpAny_bind (wpAny_pure (wpAny_bind (wpAny_dictEpoch e2 f2 ?_)))
  rw[if_neg (by simp)]
  refine wpAny_pure ?_
  simp only[show ¬((i:Int)<0) by lia,if_false,Int.toNat_natCast,Array.getElem?_eq_none hi]
  refine wpAny_bind (wpAny_bind (wpAny_typeNameOfWhole_itemiter ty (wpAny_pure ?_)))
  refine wpAny_bind (wpAny_setField_rec (k:=2) e0 (by simp) fun h1 q1 b1=>?_)
  refine wpAny_bind (stop_new fun h2 x t2 k2=>wpAny_raiseNew_none hh (wpAny_bind (wpAny_isInstance t2 isSubtype_stop (wpAny_pure (hQ h2 fun b o hb e=>k2 b o ((b1.2 b hb).trans e))))))
end
def Prs(h:Heap)(it:Addr)(es:Array DictEntry)(as:List Addr):Prop:=∀(j:Nat)(a:Addr),as[j]?=some a→it<a∧∃e:DictEntry,es[j]?=some e∧PrAt h a e.key e.val
theorem Prs.to(x:Prs h it es as)(k:∀b o,it<b→h.get? b=some o→h'.get? b=some o):Prs h' it es as :=
  fun j a e=>let⟨l,d,e1,e2⟩:=x j a e;⟨l,d,e1,k a _ l e2⟩
theorem Prs.more(x:Prs h it es as)(hi:as.length<es.size)(l:it<a)(p:PrAt h a es[as.length].key es[as.length].val):Prs h it es (as++[a]):=fun j b e=>by
  rcases Nat.lt_trichotomy j as.length with hj|hj|hj
  · rw[List.getElem?_append_left hj] at e;exact x j b e
  · subst hj
    have e':a=b:=by simpa using e
    subst e'
    exact⟨l,_,by simp[hi],p⟩
  · rw[List.getElem?_eq_none (by simp;lia)] at e;cases e
section
theorem items_loop(hh:A.handled=none)(l1:S<it)(n1:d≠S)(n2:d≠it)(hz:es.size≤sizeLine)(res:Value) :
    ∀(k:Nat)(s:Shared)(as:List Addr)(c:Nat),as.length+k=es.size→ItW s.heap it d as.length es.size ep→RawD s.heap d es ep→s.heap.get? S=some (seqObj "list" (as.map Value.ref).toArray c)→Prs s.heap it es as→as.Nodup →
      (∀h' as' c',as'.length=es.size→as'.Nodup→(∀b o,b≠S→b≠it→s.heap.get? b=some o→h'.get? b=some o)→h'.get? S=some (seqObj "list" (as'.map Value.ref).toArray c')→Prs h' it es as'→R (.ok (.ret res)) { s with heap:=h' }) →
      codeAny (model prog w) A (.builtin "list.extend.loop" ⟨[.ref S,.ref it,res],[]⟩) R s
  | 0,s,as,c,hk,iw,rd,hS,ps,nd,q=>by
    refine codeAny_builtin PySem.F.entry_extend_loop ?_
    rw[Around.under_plainId PySem.F.plain_extend_loop _]
    refine(wpAny_bind (m:=pyNext (.ref it)) (items_end hh iw rd (by lia) fun h' kp=>wpAny_pure (q h' as c (by lia) nd (fun b o _ hb e=>kp b o hb e) (kp S _ (Nat.ne_of_lt l1) hS) (ps.to fun b o hb e=>kp b o (Nat.ne_of_gt hb) e))))
  | k+1,s,as,c,hk,iw,rd,hS,ps,nd,q=>by
    have hi:as.length<es.size:=by lia
    have al:it<s.heap.objs.size:=let⟨_,_,_,_,_,e⟩:=iw;Heap.lt_size e
    refine codeAny_builtin PySem.F.entry_extend_loop ?_
    rw[Around.under_plainId PySem.F.plain_extend_loop _]
    refine wpAny_bind (m:=pyNext (.ref it)) (items_next iw rd hi fun h1 iw1 p1 k1=>?_)
    have hS1:=k1 S _ (Nat.ne_of_lt l1) hS
    have sz:(as.map Value.ref).toArray.size=as.length:=by simp
    refine wpAny_bind (m:=updateSeq S (·.push (Value.ref s.heap.objs.size))) (wpAny_updateSeq hS1 rfl (wpAny_pure ⟨plainId_quiet PySem.F.plain_extend_loop _,?_⟩) (by rw[sz];lia) (by rw[Array.size_push,sz];lia))
    have up:∀b o,b≠S→h1.get? b=some o→(h1.update S (Obj.mapSeq (·.push (Value.ref s.heap.objs.size)))).get? b=some o:=fun b o hb e=>(Heap.get?_update_other _ _ (Ne.symm hb)).trans e
    refine items_loop hh l1 n1 n2 hz res k { s with heap:=h1.update S (Obj.mapSeq (·.push (Value.ref s.heap.objs.size))) } (as++[s.heap.objs.size]) (c+1) (by simp;lia) (by rw[ZE];exact iw1.to fun o e=>up it o (Nat.ne_of_gt l1) e) (rd.at fun o e=>up d o n1 (k1 d o n2 e)) ?_ ?_ ?_ fun h' as' c' a1 a0 a2 a3 a4=>q h' as' c' a1 a0 (fun b o hb hc e=>a2 b o hb hc (up b o hb (k1 b o hc e))) a3 a4
    · refine(get?_update_seq hS1 _).trans ?_
      simp[seqObj]
    · exact Prs.more (ps.to fun b o hb e=>up b o (Nat.ne_of_gt (Nat.lt_trans l1 hb)) (k1 b o (Nat.ne_of_gt hb) e)) hi al (up _ _ (Nat.ne_of_gt (Nat.lt_trans l1 al)) p1)
    · refine List.nodup_append.mpr ⟨nd,by simp,fun a ha b hb z=>?_⟩
      have e:b=s.heap.objs.size:=by simpa using hb
      obtain⟨j,hj⟩:=List.mem_iff_getElem?.mp ha
      obtain⟨_,_,_,e2⟩:=ps j a hj
      exact absurd (Heap.lt_size e2) (by rw[z,e];exact Nat.lt_irrefl _)
end
section
theorem items_collect(hh:A.handled=none)(hv:s.heap.IsItemsView v d)(hm:RawD s.heap d es ep)(hz:es.size≤sizeLine)(h:∀h' as it,as.length=es.size→as.Nodup→s.heap.objs.size≤it→(∀b o,s.heap.get? b=some o→h'.get? b=some o)→Prs h' it es as→R (as.map Value.ref) { s with heap:=h' }) :
    wpAny (model prog w) A (collect (.ref v)) R E s:=by
  have lv:v<s.heap.objs.size:=let⟨_,e,_⟩:=hv;Heap.lt_size e
  have ld:d<s.heap.objs.size:=let⟨_,e,_⟩:=hm;Heap.lt_size e
  unfold collect
  refine wpAny_bind (wpAny_runValue (codeAny_builtin PySem.F.entry_proto_collect ?_))
  rw[Around.under_plainId PySem.F.plain_proto_collect _]
  refine wpAny_bind (m:=newList []) (wpAny_newObj_type (wpAny_pure ⟨plainId_quiet PySem.F.plain_list_iadd _,codeAny_builtin PySem.F.entry_list_iadd ?_⟩) (by size_fits))
  rw[Around.under_plainId PySem.F.plain_list_iadd _]
  generalize hS0:s.heap.push { cls:=.type "list",data:=.seq ([]:List Value).toArray }=h0
  have gS:h0.get? s.heap.objs.size=some (seqObj "list" #[] 0):=by rw[←hS0];exact Heap.get?_push_size _ rfl
  have k0:∀b o,s.heap.get? b=some o→h0.get? b=some o:=fun b o e=>by rw[←hS0];exact Heap.get?_push_of_some _ e
  have hv0:h0.IsItemsView v d:=let⟨o,e,r⟩:=hv;⟨o,k0 v o e,r⟩
  have hm0:RawD h0 d es ep:=hm.at fun o e=>k0 d o e
  have z0:h0.objs.size=s.heap.objs.size+1:=by rw[←hS0,Heap.size_push]
  have low:∀b o,s.heap.get? b=some o→b<s.heap.objs.size:=fun b o e=>Heap.lt_size e
  obtain⟨S,hS⟩:∃S:Addr,S=s.heap.objs.size:=⟨_,rfl⟩
  rw[←hS] at gS z0 lv ld low ⊢
  have lS:S<h0.objs.size:=by rw[z0];exact Nat.lt_succ_self _
  refine(show wpAny (model prog w) _ (Builtin.List.listExtendWith (.ref S) (.ref v) (.ref S)) _ _ { s with heap:=h0 } from ?_)
  have fin:∀(R':Result→Shared→Prop),(∀h' as' c',as'.length=es.size→as'.Nodup→(∀b o,s.heap.get? b=some o→h'.get? b=some o)→h'.get? S=some (seqObj "list" (as'.map Value.ref).toArray c')→Prs h' h0.objs.size es as'→R' (.ok (.ret (.ref S))) { s with heap:=h' }) →
      ∀h1 c1,ItW h1 h0.objs.size d 0 es.size ep→RawD h1 d es ep→h1.get? S=some (seqObj "list" #[] c1)→(∀b o,s.heap.get? b=some o→h1.get? b=some o)→codeAny (model prog w) A (.builtin "list.extend.loop" ⟨[.ref S,.ref h0.objs.size,.ref S],[]⟩) R' { s with heap:=h1 }:=fun R' q h1 c1 a1 a2 a3 a4 =>
    items_loop hh lS (Nat.ne_of_lt ld) (Nat.ne_of_lt (Nat.lt_trans ld lS)) hz _ es.size { s with heap:=h1 } [] c1 (by simp) a1 a2 (by simpa using a3) (fun j a e=>by simp at e) List.nodup_nil fun h' as' c' q1 q0 q2 q3 q4=>q h' as' c' q1 q0 (fun b o e=>q2 b o (Nat.ne_of_lt (low b o e)) (Nat.ne_of_lt (Nat.lt_trans (low b o e) lS)) (a4 b o e)) q3 q4
  unfold Builtin.List.listExtendWith
  refine wpAny_bind (wpAny_typeOf (T:="dict_items") (Heap.IsItemsView.typeIs (s:={ s with heap:=h0 }) hv0) ?_)
  have n1:Builtin.List.listSameRef (.ref S) (.ref v)=false:=by simp[Builtin.List.listSameRef,Nat.ne_of_gt lv]
  have n2:(Value.type "dict_items" == Value.type "list")=false:=by decide
  have n3:(Value.type "dict_items" == Value.type "tuple")=false:=by decide
  simp only[n1,n2,n3,Bool.or_false,Bool.false_eq_true,if_false]
  refine wpAny_bind (items_iter (s:={ s with heap:=h0 }) hv0 hm0 fun h1 iw k1=>?_)
  refine wpAny_bind (wpAny_holding (PySem.W.kdx_hint (s:={ s with heap:=h1 }) (let⟨o,e,c,_⟩:=hv0;⟨o,k1 v o e,c⟩) ?_))
  have gS1:=k1 _ _ gS
  have loop:∀h2 c2,(∀b o,b≠S→h1.get? b=some o→h2.get? b=some o)→h2.get? S=some (seqObj "list" #[] c2) →
      codeAny (model prog w) A (.builtin "list.extend.loop" ⟨[.ref S,.ref h0.objs.size,.ref S],[]⟩) (fun q s'=>∃h' as' c',q=.ok (.ret (.ref S))∧s'={ s with heap:=h' }∧as'.length=es.size∧as'.Nodup∧(∀b o,s.heap.get? b=some o→h'.get? b=some o)∧h'.get? S=some (seqObj "list" (as'.map Value.ref).toArray c')∧Prs h' h0.objs.size es as') { s with heap:=h2 }:=fun h2 c2 k2 g2 =>
    fin _ (fun h' as' c' a1 a0 a2 a3 a4=>⟨h',as',c',rfl,rfl,a1,a0,a2,a3,a4⟩) h2 c2 (iw.to fun o e=>k2 _ o (Nat.ne_of_gt lS) e) (hm0.at fun o e=>k2 d o (Nat.ne_of_lt ld) (k1 d o e)) g2 fun b o e=>k2 b o (Nat.ne_of_lt (low b o e)) (k1 b o (k0 b o e))
  refine wpAny_ite_split (fun _=>?_) (fun _=>wpAny_pure ⟨plainId_quiet PySem.F.plain_extend_loop _,?_⟩)
  · refine wpAny_bind (wpAny_rule (wpAny_bind (m:=updateSeq S (·.push .none) >>= fun _=>updateSeq S (·.pop)) (wpAny_bind (wpAny_updateSeq gS1 rfl (wpAny_updateSeq (get?_update_seq gS1 _) rfl (wpAny_pure ⟨plainId_quiet PySem.F.plain_extend_loop _,?_⟩) ?_ ?_) ?_ ?_))))
    · refine codeAny_mono (loop _ _ (fun b o hb e=>(Heap.get?_update_other _ _ (Ne.symm hb)).trans ((Heap.get?_update_other _ _ (Ne.symm hb)).trans e)) (get?_update_seq (get?_update_seq gS1 _) _)) fun q s' y=>?_
      obtain⟨h',as',c',rfl,rfl,a1,a0,a2,a3,a4⟩:=y
      refine wpAny_bind (m:=load S) (wpAny_load a3 (wpAny_pure ?_))
      exact h h' as' _ a1 a0 (by rw[←hS];exact Nat.le_of_lt lS) a2 a4
    all_goals (simp[seqObj,sizeLine_eq])
  · refine codeAny_mono (loop h1 0 (fun b o _ e=>e) gS1) fun q s' y=>?_
    obtain⟨h',as',c',rfl,rfl,a1,a0,a2,a3,a4⟩:=y
    refine wpAny_bind (m:=load S) (wpAny_load a3 (wpAny_pure ?_))
    exact h h' as' _ a1 a0 (by rw[←hS];exact Nat.le_of_lt lS) a2 a4
end
end FX
namespace FX
open PySem PySem.Spec PyProof.Rows L2
set_option linter.all false
section
theorem ints_items:∀{vs:List Value} {ns:List Int},IntsAre vs ns→ItemsAre (intKind prog w) ns vs
  | _,_,.nil=>.nil
  | _,_,.cons n t r=>.cons (intKind_is prog w n t) (ints_items r)
theorem tup_key(x:IsTup h a its)(y:IntsAre its.toList ns):IsTupleKey (intKind prog w) h ns a :=
  let⟨o,ho,hc,n,hd⟩:=x;⟨o,its,n,ho,hc,hd,ints_items y⟩
inductive PairAt(h:Heap)(a:Addr)(q:List Int×Int):Prop
  | mk ka its t (_:PrAt h a (.ref ka) (.int q.2 t)) (_:IsTup h ka its) (_:IntsAre its.toList q.1)
theorem PairAt.to(k:∀b o,h.get? b=some o→o.cls=.type "tuple"→h'.get? b=some o)(x:PairAt h a q):PairAt h' a q :=
  let⟨ka,its,t,e1,⟨o,ho,hc,r⟩,e3⟩:=x;⟨ka,its,t,k _ _ e1 rfl,⟨o,k ka o ho hc,hc,r⟩,e3⟩
theorem pair_lt(hu:A.units<cLine)(x:PairAt s.heap a p)(y:PairAt s.heap b q)(same:p.1=q.1→p.2=q.2)(h:C (HT.lexLt p.1 q.1) s) :
    wpAny (model prog w) A (keyLt' (tuples' false) (.ref a) (.ref b)) C (fun _ _=>False) s:=by
  obtain⟨ka,its,t,e1,e2,e3⟩:=x
  obtain⟨kb,jts,u,f1,f2,f3⟩:=y
  refine PySem.W.kat_lt e1 rfl f1 rfl (PySem.W.kat_cons (wpAny_eqBool_tuple hu (tup_key e2 e3) (tup_key f2 f3) (PySem.W.kat_go (fun e=>PySem.W.kat_yes (PySem.W.kat_cons (wpAny_eqBool_int (PySem.W.kat_go (fun _=>PySem.W.kat_yes (PySem.W.kat_nil ?_)) fun z=>?_)))) fun e=>PySem.W.kat_no (PySem.W.kat_one _ _ (HT.lt_tupInts e2 f2 e3 f3 hu h)))))
  · have e:=of_decide_eq_true e
    rw[e,lex_irr] at h
    exact h
  · rw[same (of_decide_eq_true e)] at z
    simp at z
def PairsAt(h:Heap):List Addr→List (List Int×Int)→Prop:=Paired (PairAt h)
theorem pairs_firsts:∀{as:List Addr} {L:List (List Int×Int)},PairsAt h as L→∃fs:List Value,PySem.W.KatTups h (as.map Value.ref) fs∧fs.length=as.length∧∀v∈fs,∃ka its,v=Value.ref ka∧IsTup h ka its
  | _,_,.nil=>⟨[],trivial,rfl,fun v hv=>by simp at hv⟩
  | _,_,.cons ⟨ka,its,t,e1,e2,e3⟩ r=>by
    obtain⟨fs,a1,a2,a3⟩:=pairs_firsts r
    refine⟨.ref ka::fs,PySem.W.KatTups.cons e1 rfl rfl rfl a1,by simp[a2],fun v hv=>?_⟩
    rcases ZM hv with rfl|hv
    · exact⟨ka,its,rfl,e2⟩
    · exact a3 v hv
theorem pairs_get(x:PairsAt h as L)(hi:i<as.length):∃a q,as[i]?=some a∧L[i]?=some q∧(as.map Value.ref).getD i .none=.ref a∧(L.map (·.1)).getD i []=q.1∧PairAt h a q:=by
  have hl:=Paired.length x
  obtain⟨a,ha⟩:=get_of_lt (xs:=as) (j:=i) hi
  obtain⟨q,hq⟩:=get_of_lt (xs:=L) (j:=i) (by lia)
  refine⟨a,q,ha,hq,?_,?_,paired_get x i a q ha hq⟩
  · rw[List.getD_eq_getElem?_getD,ZH,ha];rfl
  · rw[List.getD_eq_getElem?_getD,ZH,hq];rfl
theorem lsort_pairs(hu:A.units<cLine)(ho:s.heap.get? a=some (seqObj "list" (as.map Value.ref).toArray n))(h64:as.length<64)(x:PairsAt s.heap as L)(nd:(L.map (·.1)).Nodup)(h:∀q:List Nat,q.Perm (List.range as.length)→q.Pairwise (fun i j=>HT.lexLt ((L.map (·.1)).getD i []) ((L.map (·.1)).getD j [])=true)→∀h' c,(∀b o,b≠a→s.heap.get? b=some o→h'.get? b=some o)→h'.get? a=some (seqObj "list" (q.map fun i=>(as.map Value.ref).getD i .none).toArray c)→P (.done (.ret .none)) { s with heap:=h' }) :
    wpAny (model prog w) A (Builtin.«list.sort» ⟨[.ref a],[]⟩) P E s:=by
  have hl:=Paired.length x
  have hml:(as.map Value.ref).length=as.length:=ZA ..
  have key:∀i,i<as.length→∃h:i<(L.map (·.1)).length,(L.map (·.1)).getD i []=(L.map (·.1))[i]:=fun i hi=>⟨by rw[ZA];lia,by simp[show i<L.length by lia]⟩
  have one:∀i j,i<as.length→j<as.length→(L.map (·.1)).getD i []=(L.map (·.1)).getD j []→i=j:=fun i j hi hj e=>by
    obtain⟨l1,e1⟩:=key i hi
    obtain⟨l2,e2⟩:=key j hj
    rw[e1,e2] at e
    exact(List.getElem_inj nd).mp e
  refine lsort_raw (lt:=fun i j=>HT.lexLt ((L.map (·.1)).getD i []) ((L.map (·.1)).getD j [])) ho (by rw[hml];exact h64) ⟨fun i j k _ _ _=>lex_tr,fun i j hi hj hij e=>lex_tot (fun z=>hij (one i j (by lia) (by lia) z)) e⟩ (fun h2 h' kp Q hQ=>?_) (by rw[hml];exact h)
  have x':PairsAt h' as L:=paired_mono (fun b q y=>y.to fun b o e c=>kp b o (fun z=>by rw[z,ho] at e;cases e;exact absurd (show Value.type "list"=Value.type "tuple" from c) (by decide)) e) x
  obtain⟨fs,f1,f2,f3⟩:=pairs_firsts x'
  refine PySem.W.kat_kind (s:={ s with heap:=h' }) (T:=.type "tuple") f1 (by rw[f2];lia) (fun v hv=>?_) rfl (hQ _ fun i j hi hj C hC=>?_)
  · obtain⟨ka,its,rfl,o,e,c,_⟩:=f3 v hv
    have z:PySem.W.Looks (model prog w) h' (typeOf (.ref ka)) o.cls:=(PySem.W.Looks.ld e).andThen .now
    rw[c] at z;exact z
  · rw[hml] at hi hj
    obtain⟨a1,q1,g1,g2,g3,g4,g5⟩:=pairs_get x' hi
    obtain⟨a2,q2,k1,k2,k3,k4,k5⟩:=pairs_get x' hj
    unfold PySem.W.kas_ask
    rw[g3,k3]
    dsimp only at hC
    rw[g4,k4] at hC
    refine pair_lt (s:={ s with heap:=h' }) hu g5 k5 (fun z=>?_) hC
    have e:=one i j hi hj (by rw[g4,k4,z])
    subst e
    rw[g2] at k2;cases k2;rfl
end
end FX
namespace FX
open PySem PySem.Spec PyProof.Rows L2
set_option linter.all false
def lay(H:Hp):List (Addr×List V)→Hp
  | []=>H
  | p::r=>upd (lay H r) p.1 (.tup p.2)
theorem lay_old:∀{ps:List (Addr×List V)},b∉ps.map (·.1)→lay H ps b=H b
  | [],_=>rfl
  | p::r,h=>by
    have h1:b≠p.1:=fun z=>h (by rw[z];exact ZL ..)
    show(upd (lay H r) p.1 (.tup p.2)) b=_
    rw[upd_ne h1]
    exact lay_old fun z=>h (ZD _ z)
theorem lay_new:∀{ps:List (Addr×List V)},(ps.map (·.1)).Nodup→∀p∈ps,lay H ps p.1=some (.tup p.2)
  | [],_,p,hp=>by cases hp
  | q::r,nd,p,hp=>by
    have nd':=List.nodup_cons.mp nd
    rcases ZM hp with rfl|hp
    · exact upd_same
    · have ne:p.1≠q.1:=fun z=>nd'.1 (List.mem_map.mpr ⟨p,hp,z⟩)
      show(upd (lay H r) q.1 (.tup q.2)) p.1=_
      rw[upd_ne ne]
      exact lay_new nd'.2 p hp
section
def NewA(X:Cx)(pins:List (Addr×Obj))(a:Addr):Prop:=X.s₀.heap.get? a=none∧a≠X.env.locals∧(∀x c,X.env.cells.lookup x=some c→c≠a)∧∀p∈X.pn++pins,p.1≠a
theorem Inv.newA(I:Inv X pins σ H s)(h:s.heap.objs.size≤a):NewA X pins a :=
  let x:=I.fpOk (H':=fun _=>none) h rfl
  ⟨Heap.get?_none_of_le (Nat.le_trans I.sz h),x.2.1,x.2.2.2.2.1,x.2.2.2.2.2⟩
theorem inv_lay:∀{ps:List (Addr×List V)},Inv X pins σ H s→(ps.map (·.1)).Nodup→(∀p∈ps,NewA X pins p.1∧H p.1=none∧∀H',ObjOk X.prog X.w H' s.heap p.1 (.tup p.2))→Inv X pins σ (lay H ps) s
  | [],I,_,_=>I
  | p::r,I,nd,h=>by
    have nd':=List.nodup_cons.mp nd
    obtain⟨⟨a1,a2,a3,a4⟩,a5,a6⟩:=h p (ZL ..)
    exact inv_track (inv_lay I nd'.2 fun q hq=>h q (ZD _ hq)) (by rw[lay_old nd'.1];exact a5) a1 a2 a3 a4 (a6 _)
end
inductive RecAt(H:Hp)(a:Addr)(q:T2×Int):Prop
  | mk ka (_:H a=some (.tup [.ref ka,.int q.2])) (_:H ka=some (.tup (tv q.1)))
theorem lay_of{P:Program}{w:World}{H:Hp}{h1:Heap}{n:Nat}:∀{as:List Addr} {L:List (T2×Int)},Paired (fun a q=>n≤a∧∃ka t,PrAt h1 a (.ref ka) (.int q.2 t)∧H ka=some (.tup (tv q.1))) as L →
    ∃ps:List (Addr×List V),ps.map (·.1)=as∧(∀p∈ps,n≤p.1∧∀H',ObjOk P w H' h1 p.1 (.tup p.2))∧Paired (fun p q=>∃ka,p.2=[.ref ka,.int q.2]∧H ka=some (.tup (tv q.1))) ps L
  | _,_,.nil=>⟨[],rfl,fun p hp=>by(cases hp),.nil⟩
  | a::_,q::_,.cons ⟨la,ka,t,e1,e2⟩ r=>by
    obtain⟨ps,b1,b2,b3⟩:=lay_of (P:=P) (w:=w) r
    refine⟨(a,[.ref ka,.int q.2])::ps,by rw[List.map_cons,b1],fun p hp=>?_,.cons ⟨ka,rfl,e2⟩ b3⟩
    rcases ZM hp with rfl|hp
    · exact⟨la,fun H'=>⟨by show 2≤sizeLine;rw[sizeLine_eq];lia,[.ref ka,.int q.2 t],.cons rfl (.cons ⟨t,rfl⟩ .nil),⟨_,e1,rfl,_,rfl⟩⟩⟩
    · exact b2 p hp
section
variable {X:Cx}
inductive Rcall_sorted_items(xs:List V)(H:Hp)(Q:VK):Prop
  | mk v d (L rs:List (T2×Int)) (_:xs=[.ref v]) (_:H v=some (itemsO v d)) (_:H d=some (dInt L)) (_:L.length<64) (_:rs.Perm L) (_:(rs.map (·.1)).Pairwise lt2) (_:∀(r:Addr)(as:List Addr)(H':Hp),Same H H'→H r=none→H' r=some (.lst (as.map V.ref))→Paired (RecAt H') as rs→Q (.ref r) H')
theorem call_sorted_items(hc:X.calm=true)(hu:X.A.units+64<cLine):CallR X (.builtin "sorted") Rcall_sorted_items:=by
  intro pins s σ H xs us Q I rv h
  obtain⟨v,d,L,rs,rfl,hv,hd,h64,pm,pw,q⟩:=h
  obtain⟨u,rfl,rx⟩:=vals1 rv
  cases rx
  obtain⟨z,lo,ys,rel,o,es,ep,g1,g2,g3,g4,g5⟩:=(show ObjOk X.prog X.w H s.heap d (dInt L) from I.hok d _ hd)
  have vw:s.heap.IsItemsView v d:=(I.hok v _ hv).1
  have hes:es.size=ys.length:=size_of_entries g4
  have hyl:ys.length=L.length:=by have:=Paired.length rel;rw[ZA] at this;exact this.symm
  have ent:∀(j:Nat)(e:DictEntry)(q:T2×Int),es[j]?=some e→L[j]?=some q→∃ka t,e.key=.ref ka∧e.val=.int q.2 t∧H ka=some (.tup (tv q.1)):=fun j e q h1 h2=>by
    rw[entry_at g4 j] at h1
    cases hy:ys[j]? with
    | none=>rw[hy] at h1;cases h1
    | some y =>
      rw[hy] at h1
      cases h1
      obtain⟨r1,r2,r3⟩:=paired_get rel j (tk q.1,V.int q.2) y (by rw[ZH,h2];rfl) hy
      obtain⟨t,r3⟩:=r3
      exact⟨y.2.1,t,rfl,r3,r2⟩
  have ndL:(L.map (·.1)).Nodup:=(pm.map (·.1)).nodup_iff.mp (List.Pairwise.imp (fun{a b} (h:lt2 a b) (z:a=b)=>by rw[lt2_iff,z] at h;lia) pw)
  refine Calls.call_function_entry kind_sorted plain_sorted entry_sorted (args_sorted1 _) (by
    unfold Builtin.«sorted»
    refine wpAny_bind (m:=checkCount "sorted" 1 1 _) (wpAny_pure (wpAny_bind (items_collect (show _ from I.ok.hd hc) vw ⟨o,g1,g2,g3⟩ (by rw[hes,hyl,sizeLine_eq];lia) fun h1 as it hl nda hit kp prs=>?_)))
    have I1:Inv X pins σ H { s with heap:=h1,toks:=s.toks }:=I.kept kp
    have hasL:as.length=L.length:=by lia
    have fct:Paired (fun a q=>s.heap.objs.size≤a∧∃ka t,PrAt h1 a (.ref ka) (.int q.2 t)∧H ka=some (.tup (tv q.1))) as L:=paired_of hasL fun j a q e1 e2=>by
      obtain⟨la,e,e3,e4⟩:=prs j a e1
      obtain⟨ka,t,k1,k2,k3⟩:=ent j e q e3 e2
      rw[k1,k2] at e4
      exact⟨Nat.le_of_lt (Nat.lt_of_le_of_lt hit la),ka,t,e4,k3⟩
    obtain⟨ps,b1,b2,b3⟩:=lay_of (P:=X.prog) (w:=X.w) fct
    have hno:∀a,s.heap.objs.size≤a→H a=none:=fun a ha=>I.hok.fresh ha
    have I2:Inv X pins σ (lay H ps) { s with heap:=h1,toks:=s.toks }:=inv_lay I1 (by rw[b1];exact nda) fun p hp=>⟨Inv.newA I (b2 p hp).1,hno _ (b2 p hp).1,(b2 p hp).2⟩
    have sm:Same H (lay H ps):=fun b ob e=>by
      rw[lay_old (fun z=>?_)]
      · exact e
      · obtain⟨p,hp,rfl⟩:=ZN z
        rw[hno _ (b2 p hp).1] at e;cases e
    have rec0:Paired (RecAt (lay H ps)) as L:=by
      rw[←b1]
      refine paired_of (by rw[ZA];exact Paired.length b3) fun j a q e1 e2=>?_
      rw[ZH] at e1
      cases hp:ps[j]? with
      | none=>rw[hp] at e1;cases e1
      | some p =>
        rw[hp] at e1
        cases e1
        obtain⟨ka,k1,k2⟩:=paired_get b3 j p q hp e2
        exact⟨ka,by rw[lay_new (by rw[b1];exact nda) p (ZP hp),k1],sm _ _ k2⟩
    have prs2:PairsAt h1 as (L.map fun q=>(([q.1.1,q.1.2]:List Int),q.2)):=paired_of (by rw[ZA];exact hasL) fun j a q e1 e2=>by
      rw[ZH] at e2
      cases hq:L[j]? with
      | none=>rw[hq] at e2;cases e2
      | some q0 =>
        rw[hq] at e2
        cases e2
        obtain⟨_,ka,t,k1,k2⟩:=paired_get fct j a q0 e1 hq
        obtain⟨its,rv,it2,_⟩:=I1.tuple (SqT.of (K:=X.K) k2)
        exact⟨ka,its.toArray,t,k1,it2,by simpa using intsAre_of (ns:=[q0.1.1,q0.1.2]) rv⟩
    have eK:(L.map fun q=>(([q.1.1,q.1.2]:List Int),q.2)).map (·.1)=L.map fun q=>[q.1.1,q.1.2]:=by rw[List.map_map];rfl
    have ndK:((L.map fun q=>(([q.1.1,q.1.2]:List Int),q.2)).map (·.1)).Nodup:=by
      have e:(L.map fun q=>([q.1.1,q.1.2]:List Int))=(L.map (·.1)).map fun t=>[t.1,t.2]:=by rw[List.map_map];rfl
      rw[eK,e]
      exact List.Pairwise.map _ (fun a b h z=>h (by obtain⟨a1,a2⟩:=a;obtain⟨c1,c2⟩:=b;simp at z;rw[z.1,z.2])) ndL
    refine wpAny_bind (wpAny_newList ?_ (by rw[ZA,sizeLine_eq];lia))
    have g1:(h1.push (seqObj "list" (as.map Value.ref).toArray 0)).get? h1.objs.size=some (seqObj "list" (as.map Value.ref).toArray 0):=Heap.get?_push_size _ rfl
    have prs3:PairsAt (h1.push (seqObj "list" (as.map Value.ref).toArray 0)) as (L.map fun q=>(([q.1.1,q.1.2]:List Int),q.2)):=paired_mono (fun a q y=>y.to fun b o e _=>Heap.get?_push_of_some _ e) prs2
    refine wpAny_bind (wpAny_holding (wpAny_call_entry slot_list_sort ⟨_,g1,rfl⟩ entry_list_sort (lsort_pairs (by show X.A.units+1+1<cLine;lia) g1 (by lia) prs3 ndK fun p pp po h2 c kp2 e=>⟨_,rfl,?_⟩) (args_list_sort _)))
    have hn:H h1.objs.size=none:=I1.hok.fresh (ZG _)
    have hn2:lay H ps h1.objs.size=none:=I2.hok.fresh (ZG _)
    have inr:∀i∈p,i<as.length:=fun i hi=>List.mem_range.mp (pp.mem_iff.mp hi)
    have eR:p.map (fun i=>L.getD i ((0,0),0))=rs:=by
      refine sorted_one (lt:=fun a b:T2×Int=>lt2 a.1 b.1) (fun a z=>by rw[lt2_iff] at z;lia) (fun a b h1 h2=>by rw[lt2_iff] at h1 h2;lia) ?_ ?_ (by rw[←List.pairwise_map (f:=fun q:T2×Int=>q.1) (R:=lt2)];exact pw)
      · have e2:(List.range as.length).map (fun i=>L.getD i ((0,0),0))=L:=by
          refine List.ext_getElem? fun j=>?_
          rw[ZH]
          by_cases hj:j<L.length
          · rw[show(List.range as.length)[j]?=some j by simp[hasL,hj]];simp[hj]
          · rw[show(List.range as.length)[j]?=none by simp[hasL];lia,List.getElem?_eq_none (by lia)];rfl
        have e7:=pp.map fun i=>L.getD i ((0,0),0)
        rw[e2] at e7
        exact e7.trans pm.symm
      · rw[List.pairwise_map]
        refine List.Pairwise.imp_of_mem (fun{i j} hi hj z=>?_) po
        have li:=inr i hi
        have lj:=inr j hj
        rw[eK] at z
        simpa [lt2,show i<L.length by lia,show j<L.length by lia] using z
    have eV:(p.map fun i=>(as.map Value.ref).getD i .none)=(p.map fun i=>as.getD i 0).map Value.ref:=by
      rw[List.map_map]
      refine List.map_congr_left fun i hi=>?_
      have:=inr i hi
      simp[this]
    have rec1:Paired (RecAt (upd (lay H ps) h1.objs.size (.lst ((p.map fun i=>as.getD i 0).map V.ref)))) (p.map fun i=>as.getD i 0) rs:=by
      rw[←eR]
      refine paired_of (by rw[ZA,ZA]) fun j a q e1 e2=>?_
      rw[ZH] at e1 e2
      cases hp:p[j]? with
      | none=>rw[hp] at e1;cases e1
      | some i =>
        rw[hp] at e1 e2
        cases e1
        cases e2
        have li:=inr i (ZP hp)
        obtain⟨ka,k1,k2⟩:=paired_get rec0 i (as.getD i 0) (L.getD i ((0,0),0)) (by simp[li]) (by simp[show i<L.length by lia])
        exact⟨ka,same_new hn2 _ _ k1,same_new hn2 _ _ k2⟩
    refine wpAny_pure ⟨_,rfl,.ref h1.objs.size,_,I2.laid (a:=h1.objs.size) (o:=.lst ((p.map fun i=>as.getD i 0).map V.ref)) (t':=s.toks) (fun b o hb=>kp2 b o (Nat.ne_of_lt (Heap.lt_size hb)) (Heap.get?_push_of_some _ hb)) (ZG _) ⟨?_,(p.map fun i=>as.getD i 0).map Value.ref,c,refs_vals _,?_⟩,rfl,q _ (p.map fun i=>as.getD i 0) _ (same_trans sm (same_new hn2)) hn upd_same rec1⟩
    · rw[ZA,ZA,pp.length_eq,List.length_range,sizeLine_eq];lia
    · rw[←eV];exact e)
end
end FX
namespace FX
open PySem PySem.Spec PyProof.Rows L2
set_option linter.all false
theorem mapErase(f:α→β):∀(xs:List α)(j:Nat),(xs.map f).eraseIdx j=(xs.eraseIdx j).map f
  | [],_=>rfl
  | _::_,0=>rfl
  | x::xs,j+1=>congrArg (f x :: ·) (mapErase f xs j)
section
variable {prog:Program}{w:World}{K:Type}[DecidableEq K]{knd:HeapKind prog w K}{A:Around}{E:Value→Shared→Prop}{s:Shared}
theorem takeOut_heap{d a:Addr}{xs:List (K×Addr×Value)}{k:K}{p:Addr×Value}{j:Nat}{Q:Option DictEntry→Shared→Prop}(hu:knd.room A)(hkey:knd.is s.heap k a)(hm:s.heap.DictOfH knd d xs)(hz:xs.length≤sizeLine)(hj:xs[j]?=some (k,p))(hQ:∀h' o es ep,h'.get? d=some o→o.ExactDict→o.data=.dict es ep→es.toList=(xs.eraseIdx j).map (entryOfKey knd)→Heap.SameBut d s.heap h'→Q (some (entryOfKey knd (k,p))) { s with heap:=h',toks:=s.toks+knd.draws k }) :
    wpAny (model prog w) A (Builtin.Dict.takeOut d (.ref a)) Q E s:=by
  obtain⟨o,es,ep,ho,hc,hd,he,his,hn⟩:=hm
  unfold Builtin.Dict.takeOut
  refine wpAny_holding (wpAny_bind (knd.pyHash hu hkey (wpAny_bind (wpAny_dictFind_heap (s:={ s with toks:=s.toks+knd.draws k }) hu hkey ho hd he his hn (fun no=>absurd hj (no j p)) fun i q hi=>?_))))
  obtain rfl:=idxH_unique hn hi hj
  rw[hj] at hi;cases hi
  refine wpAny_bind (wpAny_dictEntries (s:={ s with toks:=s.toks+knd.draws k }) ho hd ?_)
  rw[entry_at he i,hj]
  refine wpAny_bind (wpAny_updateDictKeys (hz:=by rw[size_of_entries he];exact hz) (s:={ s with toks:=s.toks+knd.draws k }) ho hd (wpAny_pure (hQ _ _ _ _ (Heap.get?_update_self _ ho (Obj.isFreed_of_dict (Obj.data_mapDictKeys hd _))) (hc.mapDictKeys _) (Obj.data_mapDictKeys hd _) ?_ (Heap.SameBut.update ..))))
  have e1:(es.eraseIdxIfInBounds i).toList=es.toList.eraseIdx i:=by simp
  rw[e1,he];exact mapErase _ _ _
theorem pop_heap{d a:Addr}{xs:List (K×Addr×Value)}{k:K}{p:Addr×Value}{j:Nat}{Q:PySem.Fin→Shared→Prop}(hu:knd.room A)(hkey:knd.is s.heap k a)(hm:s.heap.DictOfH knd d xs)(hz:xs.length≤sizeLine)(hj:xs[j]?=some (k,p))(hQ:∀h' o es ep,h'.get? d=some o→o.ExactDict→o.data=.dict es ep→es.toList=(xs.eraseIdx j).map (entryOfKey knd)→Heap.SameBut d s.heap h'→Q (.done (.ret p.2)) { s with heap:=h',toks:=s.toks+knd.draws k }) :
    wpAny (model prog w) A (Builtin.«dict.pop» ⟨[.ref d,.ref a],[]⟩) Q E s:=by
  have ty:=hm.typeIs
  obtain⟨o,es,ep,ho,hc,hd,he,his,hn⟩:=id hm
  have ne:es.isEmpty=false:=by
    have h1:=size_of_entries he
    have h2:j<xs.length:=(ZJ hj).1
    cases h3:es.isEmpty with
    | false=>rfl
    | true=>rw[Array.isEmpty_iff_size_eq_zero] at h3;lia
  unfold Builtin.«dict.pop» Builtin.Dict.keyAndDefault
  refine wpAny_bind (wpAny_bind (wpAny_notOrdered_dict ty (wpAny_pure ?_)))
  dsimp only
  rw[if_neg (show ¬(keyPart (Value.ref a)).isSome=true from Bool.false_ne_true)]
  refine wpAny_bind (wpAny_dictEntries ho hd (wpAny_bind (wpAny_pure ?_)))
  rw[if_neg (by rw[ne];exact Bool.false_ne_true)]
  refine wpAny_bind (takeOut_heap hu hkey hm hz hj fun h' o' es' ep' a1 a2 a3 a4 a5=>?_)
  exact wpAny_bind (wpAny_letGo (wpAny_pure (hQ h' o' es' ep' a1 a2 a3 a4 a5)))
end
section
variable {κ:Type}[DecidableEq κ]
theorem drop_erase:∀{kvs:List (κ×V)} {k:κ} {v:V} {j:Nat},(kvs.map (·.1)).Nodup→kvs[j]?=some (k,v)→dropK kvs k=kvs.eraseIdx j
  | [],_,_,j,_,h=>by simp at h
  | p::r,k,v,0,nd,h=>by
    have h:p=(k,v):=by simpa using h
    have nd':=List.nodup_cons.mp nd
    rw[dropK_pos (by rw[h]),dropK_no (by rw[h] at nd';exact nd'.1)]
    rfl
  | p::r,k,v,j+1,nd,h=>by
    have h:r[j]?=some (k,v):=by simpa using h
    have nd':=List.nodup_cons.mp nd
    have ne:¬p.1=k:=fun z=>nd'.1 (List.mem_map.mpr ⟨(k,v),ZP h,z.symm⟩)
    rw[dropK_neg ne,drop_erase nd'.2 h]
    rfl
theorem valV_at:∀{kvs:List (κ×V)} {k:κ} {v:V},valV kvs k=some v→∃j:Nat,kvs[j]?=some (k,v)
  | [],k,v,h=>by cases h
  | p::r,k,v,h=>by
    by_cases e:p.1=k
    · rw[valV_pos e] at h
      exact⟨0,by rw[←e,←ZO h];rfl⟩
    · rw[valV_neg e] at h
      obtain⟨j,hj⟩:=valV_at h
      exact⟨j+1,by simpa using hj⟩
end
section
variable {X:Cx}{pins:List (Addr×Obj)}{σ:L2.St}{H:Hp}{s:Shared}{A:Around}{E:Value→Shared→Prop}{a b:Addr}
theorem kt_names:∀{kvs:List (List Key×V)} {xs:List (List Key×Addr×Value)},KT H kvs xs→xs.map (·.1)=kvs.map (·.1)
  | _,_,.nil=>rfl
  | _,_,.cons r t=>by rw[List.map_cons,List.map_cons,kt_names t,r.1]
theorem d_popT{kvs:List (List Key×V)}{k:List Key}{v:V}{Q:Value→Shared→Prop}(hu:A.units+1<cLine)(I:Inv X pins σ H s)(e:H a=some (.dT kvs))(eb:H b=some (.tup (k.map kV)))(l:valV kvs k=some v)(h:∀w' s',Inv X pins σ (upd H a (.dT (dropK kvs k))) s'→RelV v w'→Q w' s'):wpAny (model X.prog X.w) A (call (.builtin "dict.pop") [.ref a,.ref b]) Q E s:=by
  obtain⟨z,hd,xs,rel,dd⟩:=dt_of I.hok e
  have hz:xs.length≤sizeLine:=by rw[←Paired.length rel];exact z
  obtain⟨j,hj⟩:=valV_at l
  have hjx:j<xs.length:=by rw[←Paired.length rel];exact(ZJ hj).1
  obtain⟨x,hx⟩:=get_of_lt hjx
  obtain⟨r1,r2,r3⟩:=paired_get rel j _ _ hj hx
  obtain⟨k',p⟩:=x
  have r1:k=k':=r1
  subst r1
  have nd:(kvs.map (·.1)).Nodup:=by
    obtain⟨_,_,_,_,_,_,_,_,nd⟩:=id dd
    rw[←kt_names rel];exact nd
  have ndx:((xs.eraseIdx j).map (·.1)).Nodup:=by
    rw[←mapErase,kt_names rel];exact nd.sublist (List.eraseIdx_sublist _ _)
  refine wpAny_call_entry PySem.F.slot_dict_pop dd.typeIs PySem.F.entry_dict_pop (pop_heap (tupleKind_room_in1 hu) (key_of I.hok eb) dd hz hx fun h' o es ep a1 a2 a3 a4 a5=>⟨_,rfl,h _ _ ?_ r3⟩) (PySem.F.args_dict_pop_2 _ _)
  rw[drop_erase nd hj]
  refine d_write I (by rw[e];exact True.intro) a5 ⟨o,a1⟩ ⟨?_,hd,xs.eraseIdx j,KT.keeps (paired_erase j rel) fun c ys ec=>?_,o,es,ep,a1,a2,a3,a4,ndx⟩
  · exact Nat.le_trans (by rw[List.length_eraseIdx];split<;>lia) z
  · rw[upd_ne (ne_of ec e (fun z=>nomatch z))]
    exact ec
def tDPopT(td ty:TE):TE:=fun σ H Q=>td σ H fun x H1=>∃a,x=.ref a∧IsD H1 a∧ty σ H1 fun y H2=>∃kvs k v b,H2 a=some (.dT kvs)∧y=.ref b∧H2 b=some (.tup (k.map kV))∧valV kvs k=some v∧Q v (upd H2 a (.dT (dropK kvs k)))
theorem pe_dpopT(hu:X.A.units+1<cLine)(ho:PE X o td)(he:PE X e ty)(m:M1 X o "pop" apos e cpos):PE X (.Call (.Attribute o "pop" apos) [e] [] cpos) (tDPopT td ty):=by
  intro pins s σ H Q I h
  refine wpAny_Call_method m.base m.few m.line PySem.F.plainAttrs_dict PySem.F.slot_dict_pop PySem.F.type_dict_pop (thn (ho pins s σ H _ I h) fun u s1 ⟨x,H1,I1,rx,a,ex,d,q1⟩=>?_)
  subst ex
  obtain rfl:u=Value.ref a:=rx
  obtain⟨t1,t2,_⟩:=isD_at I1 d
  refine⟨t1,t2,?_⟩
  rw[m.trees]
  refine Calls.callWith_builtin rfl (Calls.evalArgs_plain (Calls.spliced_cons (thn (he pins s1 σ H1 _ I1 q1) fun iv s2 ⟨y,H2,I2,ry,kvs,k,v,b,ea,ey,eb,l,q2⟩=>Calls.spliced_nil ?_)))
  subst ey
  obtain rfl:iv=Value.ref b:=ry
  exact d_popT hu I2 ea eb l fun w' s3 I3 rw'=>⟨v,_,I3,rw',q2⟩
end
end FX
namespace FX
open PySem PySem.Spec PyProof.Rows L2
set_option linter.all false
def setL(l:List (T2×Addr×List T2))(a:Addr)(h:List T2):List (T2×Addr×List T2):=l.map fun q=>if q.2.1=a then(q.1,a,h) else q
theorem setL_adr(l:List (T2×Addr×List T2))(a:Addr)(h:List T2):(setL l a h).map (·.2.1)=l.map (·.2.1):=by
  unfold setL
  rw[List.map_map]
  refine List.map_congr_left fun q _=>?_
  show(if q.2.1=a then(q.1,a,h) else q).2.1=q.2.1
  by_cases e:q.2.1=a
  · rw[if_pos e];exact e.symm
  · rw[if_neg e]
theorem setL_key(l:List (T2×Addr×List T2))(a:Addr)(h:List T2):(setL l a h).map (fun q=>(tk q.1,V.ref q.2.1))=l.map fun q=>(tk q.1,V.ref q.2.1):=by
  unfold setL
  rw[List.map_map]
  refine List.map_congr_left fun q _=>?_
  show(tk (if q.2.1=a then(q.1,a,h) else q).1,V.ref (if q.2.1=a then(q.1,a,h) else q).2.1)=_
  by_cases e:q.2.1=a
  · rw[if_pos e,←e]
  · rw[if_neg e]
theorem mem_setL(m:q∈setL l a h):(∃q0∈l,q0.2.1=a∧q=(q0.1,a,h))∨(q∈l∧q.2.1≠a):=by
  unfold setL at m
  obtain⟨q0,h0,e⟩:=ZN m
  by_cases e1:q0.2.1=a
  · rw[if_pos e1] at e;exact .inl ⟨q0,h0,e1,e.symm⟩
  · rw[if_neg e1] at e;rw[←e];exact .inr ⟨h0,e1⟩
section
theorem HouseAt.setHold(x:HouseAt C H p G)(hq:q∈G.holds)(l:List T2):HouseAt C (upd H q.2.1 (dHand l)) p { G with holds:=setL G.holds q.2.1 l }:=by
  obtain⟨_,_,_,d1⟩:=x.nds
  obtain⟨n1,n2,n3,n4⟩:=d1 q hq
  have mem:q.2.1∈foot G:=by
    unfold foot
    exact ZD _ (ZD _ (ZD _ (ZD _ (List.mem_map_of_mem hq))))
  have np:=x.p_ne mem
  obtain⟨dx,e⟩:=x.ob
  refine⟨⟨dx,by rw[upd_ne np.symm];exact e⟩,by rw[upd_ne n1.symm];exact x.dh,by rw[upd_ne n2.symm];exact x.dO,?_,by rw[upd_ne n4.symm];exact x.dr,fun r hr=>?_,?_⟩
  · rw[upd_ne n3.symm]
    show H G.l=some (.dT ((setL G.holds q.2.1 l).map fun q=>(tk q.1,V.ref q.2.1)))
    rw[setL_key];exact x.dl
  · rcases mem_setL hr with⟨q0,_,e1,e2⟩|⟨h1,h2⟩
    · rw[e2];exact upd_same
    · rw[upd_ne h2];exact x.hl r h1
  · have e2:foot { G with holds:=setL G.holds q.2.1 l }=foot G:=by
      unfold foot
      rw[setL_adr]
    rw[e2];exact x.nd
end
def addT(l:List T2)(t:T2):List T2:=if t∈l then l else l++[t]
def delT(l:List T2)(t:T2):List T2:=l.filter fun u=>decide (u≠t)
theorem hand_find(l:List T2)(t:T2):l.find? (fun q=>decide (q=t))=if t∈l then some t else none:=by
  by_cases h:t∈l
  · rw[if_pos h]
    cases e:l.find? fun q=>decide (q=t) with
    | none=>exact absurd (List.find?_eq_none.mp e t h) (by simp)
    | some u =>
      have:=List.find?_some e
      have:u=t:=by simpa using this
      rw[this]
  · rw[if_neg h]
    exact List.find?_eq_none.mpr fun u hu=>by
      have:¬u=t:=fun z=>h (z▸hu)
      simpa using this
theorem valV_hand(l:List T2)(t:T2):valV (l.map fun q=>(tk q,V.bl true)) (tk t)=if t∈l then some (V.bl true) else none:=by
  rw[valV_tk (k:=fun q:T2=>q) (f:=fun _=>V.bl true),hand_find]
  by_cases h:t∈l
  · rw[if_pos h,if_pos h];rfl
  · rw[if_neg h,if_neg h];rfl
theorem putK_hand(l:List T2)(t:T2):putK (l.map fun q=>(tk q,V.bl true)) (tk t) (V.bl true)=(addT l t).map fun q=>(tk q,V.bl true):=by
  unfold addT
  by_cases h:t∈l
  · rw[if_pos h]
    unfold putK
    rw[valV_any,valV_hand,if_pos h,if_pos (show(some (V.bl true)).isSome=true from rfl),List.map_map]
    refine List.map_congr_left fun q _=>?_
    show(if tk q=tk t then(tk q,V.bl true) else(tk q,V.bl true))=_
    by_cases e:tk q=tk t
    · rw[if_pos e]
    · rw[if_neg e]
  · rw[if_neg h,putK_tk (k:=fun q:T2=>q) (f:=fun _=>V.bl true) _ (fun q hq z=>h (by rw[←z];exact hq)),ZF]
    rfl
theorem dropK_tk(l:List α)(k:α→T2)(f:α→V)(t:T2):dropK (l.map fun q=>(tk (k q),f q)) (tk t)=(l.filter fun q=>decide (k q≠t)).map fun q=>(tk (k q),f q):=by
  unfold dropK
  rw[List.filter_map]
  congr 1
  refine List.filter_congr fun q _=>?_
  show decide (tk (k q)≠tk t)=decide (k q≠t)
  by_cases e:k q=t
  · rw[e];simp
  · have e2:¬tk (k q)=tk t:=fun z=>e (tk_inj z)
    simp[e,e2]
def putI(l:List (T2×Int))(t:T2)(v:Int):List (T2×Int):=if t∈l.map (·.1) then l.map fun q=>if q.1=t then(q.1,v) else q else l++[(t,v)]
theorem putK_int(l:List (T2×Int))(t:T2)(v:Int):putK (l.map fun q=>(tk q.1,V.int q.2)) (tk t) (V.int v)=(putI l t v).map fun q=>(tk q.1,V.int q.2):=by
  unfold putI
  by_cases h:t∈l.map (·.1)
  · rw[if_pos h]
    unfold putK
    have e1:((l.map fun q=>(tk q.1,V.int q.2)).any fun kv=>decide (kv.1=tk t))=true:=by
      obtain⟨q,hq,e⟩:=ZN h
      exact List.any_eq_true.mpr ⟨(tk q.1,V.int q.2),List.mem_map_of_mem hq,by simp[e]⟩
    rw[e1,if_pos rfl,List.map_map,List.map_map]
    refine List.map_congr_left fun q _=>?_
    show(if tk q.1=tk t then(tk q.1,V.int v) else(tk q.1,V.int q.2))=(tk (if q.1=t then(q.1,v) else q).1,V.int (if q.1=t then(q.1,v) else q).2)
    by_cases e:q.1=t
    · rw[if_pos e,if_pos (by rw[e])]
    · rw[if_neg e,if_neg fun z=>e (tk_inj z)]
  · rw[if_neg h,putK_tk (k:=fun q:T2×Int=>q.1) (f:=fun q=>V.int q.2) _ fun q hq z=>h (List.mem_map.mpr ⟨q,hq,z⟩),ZF]
    rfl
end FX
namespace FX
open PySem PySem.Spec PyProof.Rows L2
set_option linter.all false
section
end
end FX
namespace FX
open PySem PySem.Spec PyProof.Rows L2
set_option linter.all false
noncomputable def isT (H:Hp) (tb:T2):Value→Bool
  | .ref a=>@decide (H a=some (.tup (tv tb))) (Classical.propDecidable _)
  | _=>false
section
end
end FX
namespace FX
open PySem PySem.Spec PyProof.Rows L2
set_option linter.all false
section
variable {prog:Program}{w:World}{A:Around}{R:Result→Shared→Prop}{s:Shared}{l:Addr}{items:Array Value}{n:Nat}{x:Value}
end
section
end
end FX
namespace FX
open PySem PySem.Spec PyProof.Rows L2
set_option linter.all false
section
end
section
end
end FX
namespace FX
open PySem PySem.Spec PyProof.Rows L2
set_option linter.all false
theorem p_lw:¬(("latest":Str)="waiting"):=by decide +kernel
def pflds(c:Int)(d:Addr):List (Str×V):=putF "waiting" (.ref d) (putF "latest" (.int c) [])
theorem pflds_eq(c:Int)(d:Addr):pflds c d=([("latest",V.int c),("waiting",V.ref d)]:List (Str×V)):=by grind [putF,V,p_lw,pflds]
theorem pflds_latest(c:Int)(d:Addr):(pflds c d).lookup ("latest":Str)=some (.int c):=by
  unfold pflds
  rw[lookup_putF,if_neg p_lw,lookup_putF,if_pos rfl]
theorem pflds_waiting(c:Int)(d:Addr):(pflds c d).lookup ("waiting":Str)=some (.ref d):=by
  unfold pflds
  rw[lookup_putF,if_pos rfl]
theorem pflds_no(c:Int)(d:Addr){m:Str}(h1:¬m="waiting")(h2:¬m="latest"):(pflds c d).lookup m=none:=by
  unfold pflds
  rw[lookup_putF,if_neg h1,lookup_putF,if_neg h2]
  all_goals rfl
theorem pflds_put(c y:Int)(d:Addr):putF "latest" (.int y) (pflds c d)=pflds y d:=by grind [pflds_eq,V,putF,pflds]
def kvsOf(ls:List (Int×Addr)):List (Key×V):=ls.map fun l=>(Sum.inl l.1,V.ref l.2)
structure PostAt(C:Addr)(H:Hp)(p d:Addr)(c:Int)(ls:List (Int×Addr)):Prop where
  ob:∃dx,H p=some (.ins C dx (pflds c d))
  dc:H d=some (.dK (kvsOf ls))
  le:∀l∈ls,l.1≤c
  nd:(ls.map (·.1)).Nodup
theorem PostAt.keep(x:PostAt C H p d c ls)(h1:∀o,H p=some o→H' p=some o)(h2:∀o,H d=some o→H' d=some o):PostAt C H' p d c ls :=
  ⟨let⟨dx,e⟩:=x.ob;⟨dx,h1 _ e⟩,h2 _ x.dc,x.le,x.nd⟩
theorem PostAt.ne(x:PostAt C H p d c ls):p≠d:=by
  obtain⟨dx,e⟩:=x.ob
  exact ne_of e x.dc (by intro z;cases z)
theorem kvs_len(ls:List (Int×Addr)):(kvsOf ls).length=ls.length:=ZA ..
theorem kvs_val:valV (kvsOf ls) (Sum.inl n)=(ls.find? fun l=>decide (l.1=n)).map fun l=>V.ref l.2:=by
  unfold valV kvsOf
  rw[List.find?_map,Option.map_map]
  congr 1
  congr 1
  funext l
  show decide ((Sum.inl l.1:Key)=Sum.inl n)=decide (l.1=n)
  by_cases e:l.1=n
  · rw[e];simp
  · rw[decide_eq_false e,decide_eq_false fun z=>e (Sum.inl.inj z)]
theorem kvs_no(h:∀l∈ls,l.1≠n):valV (kvsOf ls) (Sum.inl n)=none:=by
  rw[kvs_val,List.find?_eq_none.mpr fun l hl=>by simpa using h l hl]
  rfl
theorem find_mid{l1 l2:List (Int×Addr)}{n:Int}{t:Addr}(nd:((l1++(n,t)::l2).map (·.1)).Nodup):(l1++(n,t)::l2).find? (fun l=>decide (l.1=n))=some (n,t):=by
  rw[ZF,List.map_cons] at nd
  have h:∀l∈l1,¬l.1=n:=fun l hl e=>by
    have:=(List.nodup_append.mp nd).2.2 l.1 (List.mem_map_of_mem hl) n (ZL ..)
    exact this e
  rw[List.find?_append]
  have e1:l1.find? (fun l=>decide (l.1=n))=none:=List.find?_eq_none.mpr fun l hl=>by simpa using h l hl
  rw[e1]
  simp
theorem drop_mid(nd:((l1++(n,t)::l2).map (·.1)).Nodup):dropK (kvsOf (l1++(n,t)::l2)) (Sum.inl n)=kvsOf (l1++l2):=by
  rw[ZF,List.map_cons] at nd
  have h1:∀l∈l1,¬l.1=n:=fun l hl e=>(List.nodup_append.mp nd).2.2 l.1 (List.mem_map_of_mem hl) n (ZL ..) e
  have h2:∀l∈l2,¬l.1=n:=fun l hl e=>(List.nodup_cons.mp (List.nodup_append.mp nd).2.1).1 (by have m:=List.mem_map_of_mem (f:=fun x:Int×Addr=>x.1) hl;rw[e] at m;exact m)
  have all:∀ls:List (Int×Addr),(∀l∈ls,¬l.1=n)→dropK (kvsOf ls) (Sum.inl n:Key)=kvsOf ls:=fun ls h=>by
    refine dropK_no fun m=>?_
    unfold kvsOf at m
    rw[List.map_map] at m
    obtain⟨l,hl,e⟩:=ZN m
    exact h l hl (Sum.inl.inj e)
  unfold kvsOf
  rw[ZF,List.map_cons,ZF]
  unfold dropK
  rw[List.filter_append,List.filter_cons]
  have e0:decide (((Sum.inl (n,t).1,V.ref (n,t).2):Key×V).1≠Sum.inl n)=false:=by simp
  rw[e0]
  have a1:=all l1 h1
  have a2:=all l2 h2
  unfold dropK kvsOf at a1 a2
  rw[a1,a2]
  rfl
theorem kvs_put(h:∀l∈ls,l.1≠n):putK (kvsOf ls) (Sum.inl n:Key) (V.ref t)=kvsOf (ls++[(n,t)]):=by
  rw[putK_new _ (kvs_no h)]
  unfold kvsOf
  rw[ZF]
  rfl
structure WGh where
  share:Int
  hs:Addr
  po:Addr
  iq:Addr
  fi:Addr
  en:Addr
  pd:Addr
  c:Int
  ls:List (Int×Addr)
  qs:List (Addr×HGh)
  iqs:List (Int×Addr)
  fis:List (Int×Addr)
  ens:List (Int×Addr)
theorem w_houses_share:¬(("houses":Str)="share"):=by decide +kernel
theorem w_post_share:¬(("post":Str)="share"):=by decide +kernel
theorem w_post_houses:¬(("post":Str)="houses"):=by decide +kernel
theorem w_inq_share:¬(("inquiries":Str)="share"):=by decide +kernel
theorem w_inq_houses:¬(("inquiries":Str)="houses"):=by decide +kernel
theorem w_inq_post:¬(("inquiries":Str)="post"):=by decide +kernel
theorem w_finds_share:¬(("finds":Str)="share"):=by decide +kernel
theorem w_finds_houses:¬(("finds":Str)="houses"):=by decide +kernel
theorem w_finds_post:¬(("finds":Str)="post"):=by decide +kernel
theorem w_finds_inq:¬(("finds":Str)="inquiries"):=by decide +kernel
theorem w_enc_share:¬(("enclosed":Str)="share"):=by decide +kernel
theorem w_enc_houses:¬(("enclosed":Str)="houses"):=by decide +kernel
theorem w_enc_post:¬(("enclosed":Str)="post"):=by decide +kernel
theorem w_enc_inq:¬(("enclosed":Str)="inquiries"):=by decide +kernel
theorem w_enc_finds:¬(("enclosed":Str)="finds"):=by decide +kernel
def wflds(W:WGh):List (Str×V):=[("share",.int W.share),("houses",.ref W.hs),("post",.ref W.po),("inquiries",.ref W.iq),("finds",.ref W.fi),("enclosed",.ref W.en)]
theorem wf_share(W:WGh):(wflds W).lookup ("share":Str)=some (.int W.share):=by
  unfold wflds
  rw[lk_hd]
theorem wf_houses(W:WGh):(wflds W).lookup ("houses":Str)=some (.ref W.hs):=by
  unfold wflds
  rw[lk_tl w_houses_share,lk_hd]
theorem wf_post(W:WGh):(wflds W).lookup ("post":Str)=some (.ref W.po):=by
  unfold wflds
  rw[lk_tl w_post_share,lk_tl w_post_houses,lk_hd]
theorem wf_inq(W:WGh):(wflds W).lookup ("inquiries":Str)=some (.ref W.iq):=by
  unfold wflds
  rw[lk_tl w_inq_share,lk_tl w_inq_houses,lk_tl w_inq_post,lk_hd]
theorem wf_finds(W:WGh):(wflds W).lookup ("finds":Str)=some (.ref W.fi):=by
  unfold wflds
  rw[lk_tl w_finds_share,lk_tl w_finds_houses,lk_tl w_finds_post,lk_tl w_finds_inq,lk_hd]
theorem wf_no(W:WGh)(h:(["share","houses","post","inquiries","finds","enclosed"]:List Str).contains m=false):(wflds W).lookup m=none:=by
  simp only[List.contains_cons,Bool.or_eq_false_iff,beq_eq_false_iff_ne] at h
  obtain⟨h1,h2,h3,h4,h5,h6,_⟩:=h
  unfold wflds
  rw[lk_tl h1,lk_tl h2,lk_tl h3,lk_tl h4,lk_tl h5,lk_tl h6]
  rfl
theorem wf_all(W:WGh):putF "enclosed" (.ref W.en) (putF "finds" (.ref W.fi) (putF "inquiries" (.ref W.iq) (putF "post" (.ref W.po) (putF "houses" (.ref W.hs) (putF "share" (.int W.share) [])))))=wflds W:=by
  unfold wflds
  rw[pf_nil]
  rw[pf_tl (Ne.symm w_houses_share),pf_nil]
  rw[pf_tl (Ne.symm w_post_share),pf_tl (Ne.symm w_post_houses),pf_nil]
  rw[pf_tl (Ne.symm w_inq_share),pf_tl (Ne.symm w_inq_houses),pf_tl (Ne.symm w_inq_post),pf_nil]
  rw[pf_tl (Ne.symm w_finds_share),pf_tl (Ne.symm w_finds_houses),pf_tl (Ne.symm w_finds_post),pf_tl (Ne.symm w_finds_inq),pf_nil]
  rw[pf_tl (Ne.symm w_enc_share),pf_tl (Ne.symm w_enc_houses),pf_tl (Ne.symm w_enc_post),pf_tl (Ne.symm w_enc_inq),pf_tl (Ne.symm w_enc_finds),pf_nil]
def hfoot:List (Addr×HGh)→List Addr
  | []=>[]
  | q::l=>(q.1::foot q.2)++hfoot l
theorem hfoot_app:∀(l m:List (Addr×HGh)),hfoot (l++m)=hfoot l++hfoot m
  | [],m=>rfl
  | q::l,m=>by
    show(q.1::foot q.2)++hfoot (l++m)=((q.1::foot q.2)++hfoot l)++hfoot m
    rw[hfoot_app l m,List.append_assoc]
theorem mem_hfoot:∀{l:List (Addr×HGh)},b∈hfoot l↔∃q∈l,b=q.1∨b∈foot q.2
  | []=>⟨fun h=>by simp[hfoot] at h,fun⟨q,h,_⟩=>by simp at h⟩
  | q::l=>by
    show b∈(q.1::foot q.2)++hfoot l↔_
    rw[List.mem_append,List.mem_cons,mem_hfoot]
    constructor
    · rintro(h|⟨r,hr,h⟩)
      · exact⟨q,ZL ..,h⟩
      · exact⟨r,ZD _ hr,h⟩
    · rintro⟨r,hr,h⟩
      rcases ZM hr with rfl|hr
      · exact .inl h
      · exact .inr ⟨r,hr,h⟩
def wtop(p:Addr)(W:WGh):List Addr:=[p,W.hs,W.po,W.pd,W.iq,W.fi,W.en]
def wfoot(p:Addr)(W:WGh):List Addr:=wtop p W++hfoot W.qs
structure WorldAt(CW CH CP:Addr)(H:Hp)(p:Addr)(W:WGh):Prop where
  ob:∃dx,H p=some (.ins CW dx (wflds W))
  hs:H W.hs=some (.lst (W.qs.map fun q=>V.ref q.1))
  ho:∀q∈W.qs,HouseAt CH H q.1 q.2
  po:PostAt CP H W.po W.pd W.c W.ls
  iq:H W.iq=some (.dK (kvsOf W.iqs))
  fi:H W.fi=some (.dK (kvsOf W.fis))
  en:H W.en=some (.dK (kvsOf W.ens))
  nd:(wfoot p W).Nodup
def WFr(p:Addr)(W:WGh)(H H':Hp):Prop:=∀b o,H b=some o→b∉wfoot p W→H' b=some o
section
variable {CW CH CP p:Addr}{H H':Hp}{W:WGh}
theorem WorldAt.keep(x:WorldAt CW CH CP H p W)(k:∀b o,b∈wfoot p W→H b=some o→H' b=some o):WorldAt CW CH CP H' p W:=by
  have t:∀{b},b∈wtop p W→b∈wfoot p W:=fun h=>ZB _ h
  refine⟨let⟨dx,e⟩:=x.ob;⟨dx,k _ _ (t (by simp[wtop])) e⟩,k _ _ (t (by simp[wtop])) x.hs,fun q hq=>(x.ho q hq).keep fun b o hb e=>k _ _ (ZC _ (mem_hfoot.mpr ⟨q,hq,hb⟩)) e,
    x.po.keep (fun o e=>k _ _ (t (by simp[wtop])) e) (fun o e=>k _ _ (t (by simp[wtop])) e),k _ _ (t (by simp[wtop])) x.iq,k _ _ (t (by simp[wtop])) x.fi,k _ _ (t (by simp[wtop])) x.en,x.nd⟩
theorem WorldAt.same(x:WorldAt CW CH CP H p W)(s:Same H H'):WorldAt CW CH CP H' p W:=x.keep fun b o _ e=>s b o e
theorem WorldAt.some_at(x:WorldAt CW CH CP H p W)(hb:b∈wfoot p W):∃o,H b=some o∧(∀xs,o≠.tup xs)∧∀ob u,o≠.frz ob u:=by
  rcases ZI hb with hb|hb
  · simp only[wtop,List.mem_cons,List.not_mem_nil,or_false] at hb
    rcases hb with rfl|rfl|rfl|rfl|rfl|rfl|rfl
    · obtain⟨dx,e⟩:=x.ob
      exact⟨_,e,fun _ z=>(by cases z),fun _ _ z=>(by cases z)⟩
    · exact⟨_,x.hs,fun _ z=>(by cases z),fun _ _ z=>(by cases z)⟩
    · obtain⟨dx,e⟩:=x.po.ob
      exact⟨_,e,fun _ z=>(by cases z),fun _ _ z=>(by cases z)⟩
    · exact⟨_,x.po.dc,fun _ z=>(by cases z),fun _ _ z=>(by cases z)⟩
    · exact⟨_,x.iq,fun _ z=>(by cases z),fun _ _ z=>(by cases z)⟩
    · exact⟨_,x.fi,fun _ z=>(by cases z),fun _ _ z=>(by cases z)⟩
    · exact⟨_,x.en,fun _ z=>(by cases z),fun _ _ z=>(by cases z)⟩
  · obtain⟨q,hq,hb⟩:=mem_hfoot.mp hb
    rcases hb with rfl|hb
    · obtain⟨dx,e⟩:=(x.ho q hq).ob
      exact⟨_,e,fun _ z=>(by cases z),fun _ _ z=>(by cases z)⟩
    · obtain⟨kvs,e⟩:=(x.ho q hq).foot_dT hb
      exact⟨_,e,fun _ z=>(by cases z),fun _ _ z=>(by cases z)⟩
theorem WorldAt.tup_no(x:WorldAt CW CH CP H p W)(e:H b=some (.tup xs)):b∉wfoot p W:=fun m=>by
  obtain⟨o,e',h,_⟩:=x.some_at m
  rw[e] at e';cases e'
  exact h _ rfl
theorem WorldAt.none_no(x:WorldAt CW CH CP H p W)(e:H b=none):b∉wfoot p W:=fun m=>by
  obtain⟨o,e',_⟩:=x.some_at m
  rw[e] at e';cases e'
theorem WFr.keepT(x:WorldAt CW CH CP H p W)(f:WFr p W H H'):KeepT H H' :=
  ⟨fun a xs e=>f a _ e (x.tup_no e),fun a ob u e=>f a _ e fun m=>by
    obtain⟨o,e',_,h⟩:=x.some_at m
    rw[e] at e';cases e'
    exact h _ _ rfl⟩
theorem nd_mid{A X X' B:List Addr}(h:(A++(X++B)).Nodup)(hx:X'.Nodup)(k:∀b∈X',b∈X∨(b∉A∧b∉B)):(A++(X'++B)).Nodup:=by
  obtain⟨a1,a2,a3⟩:=List.nodup_append.mp h
  obtain⟨b1,b2,b3⟩:=List.nodup_append.mp a2
  refine List.nodup_append.mpr ⟨a1,List.nodup_append.mpr ⟨hx,b2,fun y hy z hz e=>?_⟩,fun y hy z hz e=>?_⟩
  · rcases k y hy with h|h
    · exact b3 y h z hz e
    · exact h.2 (e▸hz)
  · rcases ZI hz with hz|hz
    · rcases k z hz with h|h
      · exact a3 y hy z (ZB _ h) e
      · exact h.1 (e▸hy)
    · exact a3 y hy z (ZC _ hz) e
theorem WorldAt.step(x:WorldAt CW CH CP H p W){i:Nat}{q:Addr}{G G':HGh}(hi:W.qs[i]?=some (q,G))(S:HouseAt CH H' q G')(f:HFr q G H H')(nw:∀b∈foot G',b∈foot G∨H b=none) :
    WorldAt CW CH CP H' p { W with qs:=W.qs.set i (q,G') }∧WFr p W H H':=by
  obtain⟨hlt,_⟩:=ZJ hi
  have e1:W.qs=W.qs.take i++(q,G)::W.qs.drop (i+1):=by
    have:=List.take_append_drop i W.qs
    rw[←this]
    congr 1
    · rw[List.take_append_drop]
    · rw[List.take_append_drop]
      exact(List.drop_eq_getElem?_toList_append (l:=W.qs) (i:=i)).trans (by rw[hi];rfl)
  have e2:W.qs.set i (q,G')=W.qs.take i++(q,G')::W.qs.drop (i+1):=by
    rw[List.set_eq_take_append_cons_drop,if_pos hlt]
  generalize W.qs.take i=l1 at e1 e2
  generalize W.qs.drop (i+1)=l2 at e1 e2
  have hm:(q,G)∈W.qs:=ZP hi
  have nd:=x.nd
  unfold wfoot at nd
  rw[e1,hfoot_app] at nd
  have eA:wtop p W++(hfoot l1++hfoot ((q,G)::l2))=(wtop p W++hfoot l1)++((q::foot G)++hfoot l2):=by
    rw[List.append_assoc];rfl
  rw[eA] at nd
  obtain⟨a1,a2,a3⟩:=List.nodup_append.mp nd
  obtain⟨b1,b2,b3⟩:=List.nodup_append.mp a2
  have apart:∀b,(b∈wtop p W∨b∈hfoot l1∨b∈hfoot l2)→b≠q∧b∉foot G:=fun b hb=>by
    have no:b∉q::foot G:=fun m=>by
      rcases hb with hb|hb|hb
      · exact a3 b (ZB _ hb) b (ZB _ m) rfl
      · exact a3 b (ZC _ hb) b (ZB _ m) rfl
      · exact b3 b m b hb rfl
    exact⟨fun z=>no (by rw[z];exact ZL ..),fun z=>no (ZD _ z)⟩
  have kp:∀b o,(b∈wtop p W∨b∈hfoot l1∨b∈hfoot l2)→H b=some o→H' b=some o:=fun b o hb e=>f b o e (apart b hb).1 (apart b hb).2
  have t:∀{b},b∈wtop p W→b∈wtop p W∨b∈hfoot l1∨b∈hfoot l2:=fun h=>.inl h
  have hsm:W.qs.map (fun q=>V.ref q.1)=(W.qs.set i (q,G')).map fun q=>V.ref q.1:=by
    rw[e2,e1,ZF,ZF];rfl
  refine⟨⟨let⟨dx,e⟩:=x.ob;⟨dx,kp _ _ (t (by simp[wtop])) e⟩,?_,fun r hr=>?_,x.po.keep (fun o e=>kp _ _ (t (by simp[wtop])) e) (fun o e=>kp _ _ (t (by simp[wtop])) e),kp _ _ (t (by simp[wtop])) x.iq,kp _ _ (t (by simp[wtop])) x.fi,kp _ _ (t (by simp[wtop])) x.en,?_⟩,fun b o e hb=>?_⟩
  · have:=kp _ _ (t (b:=W.hs) (by simp[wtop])) x.hs
    rw[hsm] at this
    exact this
  · have hr:r∈W.qs.set i (q,G'):=hr
    rw[e2] at hr
    have oth:r∈l1∨r∈l2→HouseAt CH H' r.1 r.2:=fun h=>by
      have hW:r∈W.qs:=by
        rw[e1]
        exact h.elim (fun z=>ZB _ z) fun z=>ZC _ (ZD _ z)
      exact(x.ho r hW).keep fun b o hb e=>kp b o (h.elim (fun z=>.inr (.inl (mem_hfoot.mpr ⟨r,z,hb⟩))) fun z=>.inr (.inr (mem_hfoot.mpr ⟨r,z,hb⟩))) e
    rcases ZI hr with hr|hr
    · exact oth (.inl hr)
    · rcases ZM hr with rfl|hr
      · exact S
      · exact oth (.inr hr)
  · show(wtop p W++hfoot (W.qs.set i (q,G'))).Nodup
    rw[e2,hfoot_app]
    have eB:wtop p W++(hfoot l1++hfoot ((q,G')::l2))=(wtop p W++hfoot l1)++((q::foot G')++hfoot l2):=by
      rw[List.append_assoc];rfl
    rw[eB]
    refine nd_mid nd (List.nodup_cons.mpr ⟨fun m=>S.p_ne m rfl,S.nd⟩) fun b hb=>?_
    rcases ZM hb with rfl|hb
    · exact .inl (ZL ..)
    · rcases nw b hb with h|h
      · exact .inl (ZD _ h)
      · have no:=x.none_no h
        unfold wfoot at no
        rw[e1,hfoot_app] at no
        refine .inr ⟨fun m=>no ?_,fun m=>no ?_⟩
        · rcases ZI m with m|m
          · exact ZB _ m
          · exact ZC _ (ZB _ m)
        · exact ZC _ (ZC _ (ZC (q::foot G) m))
  · have hb':b∉hfoot W.qs:=fun m=>hb (ZC _ m)
    exact f b o e (fun z=>hb' (mem_hfoot.mpr ⟨_,hm,.inl z⟩)) fun z=>hb' (mem_hfoot.mpr ⟨_,hm,.inr z⟩)
theorem WorldAt.tops(x:WorldAt CW CH CP H p W):(W.po≠W.pd∧W.po≠p∧W.po≠W.hs∧W.po≠W.iq∧W.po≠W.fi∧W.po≠W.en)∧(W.pd≠p∧W.pd≠W.hs∧W.pd≠W.iq∧W.pd≠W.fi∧W.pd≠W.en)∧(W.iq≠p∧W.iq≠W.hs∧W.iq≠W.fi∧W.iq≠W.en)∧(W.fi≠p∧W.fi≠W.hs∧W.fi≠W.en)∧(W.en≠p∧W.en≠W.hs):=by
  have nd:=(List.nodup_append.mp x.nd).1
  simp only[wtop,List.nodup_cons,List.mem_cons,List.not_mem_nil,or_false,not_or,List.nodup_nil,and_true,not_false_eq_true] at nd
  obtain⟨⟨a1,a2,a3,a4,a5,a6⟩,⟨b1,b2,b3,b4,b5⟩,⟨c1,c2,c3,c4⟩,⟨d1,d2,d3⟩,⟨e1,e2⟩,f1⟩:=nd
  exact⟨⟨c1,Ne.symm a2,Ne.symm b1,c2,c3,c4⟩,⟨Ne.symm a3,Ne.symm b2,d1,d2,d3⟩,⟨Ne.symm a4,Ne.symm b3,e1,e2⟩,⟨Ne.symm a5,Ne.symm b4,f1⟩,⟨Ne.symm a6,Ne.symm b5⟩⟩
theorem WorldAt.top_house(x:WorldAt CW CH CP H p W)(hb:b∈wtop p W)(hq:q∈W.qs):b≠q.1∧b∉foot q.2:=by
  have h:=(List.nodup_append.mp x.nd).2.2 b hb
  exact⟨fun z=>h _ (mem_hfoot.mpr ⟨q,hq,.inl rfl⟩) z,fun z=>h _ (mem_hfoot.mpr ⟨q,hq,.inr z⟩) rfl⟩
theorem WorldAt.posted(x:WorldAt CW CH CP H p W)(S:PostAt CP H' W.po W.pd c ls)(f:∀b o,H b=some o→b≠W.po→b≠W.pd→H' b=some o) :
    WorldAt CW CH CP H' p { W with c:=c,ls:=ls }∧WFr p W H H':=by
  obtain⟨⟨a1,a2,a3,a4,a5,a6⟩,⟨b1,b2,b3,b4,b5⟩,_⟩:=x.tops
  refine⟨⟨let⟨dx,e⟩:=x.ob;⟨dx,f _ _ e (Ne.symm a2) (Ne.symm b1)⟩,f _ _ x.hs (Ne.symm a3) (Ne.symm b2),fun q hq=>(x.ho q hq).keep fun b o hb e=>f b o e ?_ ?_,S,f _ _ x.iq (Ne.symm a4) (Ne.symm b3),f _ _ x.fi (Ne.symm a5) (Ne.symm b4),f _ _ x.en (Ne.symm a6) (Ne.symm b5),x.nd⟩,fun b o e hb=>f b o e ?_ ?_⟩
  · rintro rfl
    have h:=x.top_house (b:=W.po) (by simp[wtop]) hq
    exact hb.elim h.1 h.2
  · rintro rfl
    have h:=x.top_house (b:=W.pd) (by simp[wtop]) hq
    exact hb.elim h.1 h.2
  · rintro rfl
    exact hb (ZB _ (by simp[wtop]))
  · rintro rfl
    exact hb (ZB _ (by simp[wtop]))
theorem WorldAt.inqs(x:WorldAt CW CH CP H p W):WorldAt CW CH CP (upd H W.iq (.dK (kvsOf l))) p { W with iqs:=l }∧WFr p W H (upd H W.iq (.dK (kvsOf l))):=by
  obtain⟨⟨a1,a2,a3,a4,a5,a6⟩,⟨b1,b2,b3,b4,b5⟩,⟨c1,c2,c3,c4⟩,_⟩:=x.tops
  have f:∀b o,H b=some o→b≠W.iq→(upd H W.iq (.dK (kvsOf l))) b=some o:=fun b o e h=>by rw[upd_ne h];exact e
  refine⟨⟨let⟨dx,e⟩:=x.ob;⟨dx,f _ _ e (Ne.symm c1)⟩,f _ _ x.hs (Ne.symm c2),fun q hq=>(x.ho q hq).keep fun b o hb e=>f b o e ?_,x.po.keep (fun o e=>f _ _ e a4) (fun o e=>f _ _ e b3),upd_same,f _ _ x.fi (Ne.symm c3),f _ _ x.en (Ne.symm c4),x.nd⟩,fun b o e hb=>f b o e ?_⟩
  · rintro rfl
    have h:=x.top_house (b:=W.iq) (by simp[wtop]) hq
    exact hb.elim h.1 h.2
  · rintro rfl
    exact hb (ZB _ (by simp[wtop]))
end
end FX
namespace FX
open PySem PySem.Spec PyProof.Rows L2
set_option linter.all false
def OutW(W:WGh)(h:Int):Prop:=h<0∨(W.qs.length:Int)≤h
def InW(W:WGh)(h:Int)(q:Addr)(G:HGh):Prop:=0≤h∧W.qs[h.toNat]?=some (q,G)
theorem InW.at(i:InW W h q G)(x:WorldAt CW CH CP H p W):HouseAt CH H q G:=x.ho (q,G) (ZP i.2)
theorem InW.lt(i:InW W h q G):0≤h∧h<W.qs.length:=by
  obtain⟨z,_⟩:=ZJ i.2
  have:=i.1
  exact⟨i.1,by lia⟩
theorem InW.atI(i:InW W h q G):L2.atI (W.qs.map fun q=>V.ref q.1) h=some (V.ref q):=atI_at i.1 (by rw[ZH,i.2];rfl)
theorem lookup_mem:∀{l:List (Str×NameKind)},l.lookup y=some k→(y,k)∈l
  | [],h=>by simp at h
  | (a,b)::l,h=>by
    rw[List.lookup_cons] at h
    by_cases e:y=a
    · have q1:(y==a)=true:=by rw[e];exact beq_self_eq_true a
      rw[q1] at h
      have h:b=k:=ZO h
      rw[e,h];exact ZL ..
    · have q1:(y==a)=false:=beq_eq_false_iff_ne.mpr e
      rw[q1] at h
      exact ZD _ (lookup_mem h)
theorem has_of{l:List (Str×NameKind)}{cl:List (Str×Addr)}{y:Str}(hc:∀p∈l,p.2=.cell∨p.2=.free→∃z,cl.lookup p.1=some z)(h:l.lookup y=some .cell∨l.lookup y=some .free):∃z,cl.lookup y=some z:=by
  rcases h with h|h
  · exact hc _ (lookup_mem h) (.inl rfl)
  · exact hc _ (lookup_mem h) (.inr rfl)
theorem hasG{a b c:Str}{cl:List (Str×Addr)}{y:Str}(h:([(a,NameKind.local),(b,NameKind.local),(c,NameKind.globalImplicit)]:List (Str×NameKind)).lookup y=some .cell∨([(a,NameKind.local),(b,NameKind.local),(c,NameKind.globalImplicit)]:List (Str×NameKind)).lookup y=some .free):∃z,cl.lookup y=some z :=
  has_of (fun p hp hk=>by
    simp only[List.mem_cons,List.not_mem_nil,or_false] at hp
    rcases hp with rfl|rfl|rfl<;>rcases hk with hk|hk<;>cases hk) h
theorem has6{a b c d e f:Str}{k1 k2 k3 k4:NameKind}{cl:List (Str×Addr)}{y:Str}(hc:∃z,cl.lookup c=some z)(hd:∃z,cl.lookup d=some z)(he:∃z,cl.lookup e=some z)(hf:∃z,cl.lookup f=some z)(h:([(a,NameKind.local),(b,NameKind.local),(c,k1),(d,k2),(e,k3),(f,k4)]:List (Str×NameKind)).lookup y=some .cell∨([(a,NameKind.local),(b,NameKind.local),(c,k1),(d,k2),(e,k3),(f,k4)]:List (Str×NameKind)).lookup y=some .free):∃z,cl.lookup y=some z :=
  has_of (fun p hp hk=>by
    simp only[List.mem_cons,List.not_mem_nil,or_false] at hp
    rcases hp with rfl|rfl|rfl|rfl|rfl|rfl
    · rcases hk with hk|hk<;>cases hk
    · rcases hk with hk|hk<;>cases hk
    · exact hc
    · exact hd
    · exact he
    · exact hf) h
section
end
structure Lies(H:Hp)(L:List Addr):Prop where
  nd:L.Nodup
  all:∀b∈L,∃o,H b=some o
theorem Lies.keep(x:Lies H L)(k:∀b o,H b=some o→∃o',H' b=some o'):Lies H' L:=⟨x.nd,fun b hb=>let⟨o,e⟩:=x.all b hb;k b o e⟩
theorem Lies.new(x:Lies H L)(h:H b=none)(h':∃o,H' b=some o)(k:∀b o,H b=some o→∃o',H' b=some o'):Lies H' (b::L) :=
  ⟨List.nodup_cons.mpr ⟨fun m=>(by obtain⟨o,e⟩:=x.all b m;rw[h] at e;cases e),x.nd⟩,fun c hc=>by
    rcases ZM hc with rfl|hc
    · exact h'
    · obtain⟨o,e⟩:=x.all c hc;exact k c o e⟩
end FX
namespace FX
open PySem PySem.Spec PyProof.Rows L2
set_option linter.all false
section
end
end FX
namespace FX
open PySem PySem.Spec PyProof.Rows L2
set_option linter.all false
theorem Lies.add(x:Lies H L)(nd:X.Nodup)(h:∀b∈X,H b=none)(h':∀b∈X,∃o,H' b=some o)(k:∀b o,H b=some o→∃o',H' b=some o'):Lies H' (X++L) :=
  ⟨List.nodup_append.mpr ⟨nd,x.nd,fun b hb c hc e=>by obtain⟨o,z⟩:=x.all c hc;rw[←e,h b hb] at z;cases z⟩,fun c hc=>by
    rcases ZI hc with hc|hc
    · exact h' c hc
    · obtain⟨o,e⟩:=x.all c hc;exact k c o e⟩
theorem Lies.perm(x:Lies H L)(p:L.Perm L'):Lies H L':=⟨p.nodup_iff.mp x.nd,fun b hb=>x.all b (p.mem_iff.mpr hb)⟩
def Kp(p:Addr)(H H':Hp):Prop:=∀b o,H b=some o→b≠p→H' b=some o
theorem Kp.trans(a:Kp p H H1)(b:Kp p H1 H2):Kp p H H2:=fun c o e h=>b c o (a c o e h) h
theorem Kp.updp:Kp p H (upd H p o):=fun b o' e h=>by rw[upd_ne h];exact e
theorem Kp.ex(k:Kp p H H')(hp:∃o,H' p=some o):∀b o,H b=some o→∃o',H' b=some o':=fun b o e=>by
  by_cases z:b=p
  · rw[z];exact hp
  · exact⟨o,k b o e z⟩
end FX
namespace FX
open PySem PySem.Spec PyProof.Rows L2
set_option linter.all false
end FX
namespace FX
open PySem PySem.Spec PyProof.Rows L2
set_option linter.all false
theorem WorldAt.lst_no(x:WorldAt CW CH CP H p W)(e:H b=some (.lst xs))(h:b≠W.hs):b∉wfoot p W:=fun hb=>by
  rcases ZI hb with hb|hb
  · simp only[wtop,List.mem_cons,List.not_mem_nil,or_false] at hb
    rcases hb with rfl|rfl|rfl|rfl|rfl|rfl|rfl
    · obtain⟨dx,e'⟩:=x.ob;rw[e] at e';cases e'
    · exact h rfl
    · obtain⟨dx,e'⟩:=x.po.ob;rw[e] at e';cases e'
    · have e':=x.po.dc;rw[e] at e';cases e'
    · have e':=x.iq;rw[e] at e';cases e'
    · have e':=x.fi;rw[e] at e';cases e'
    · have e':=x.en;rw[e] at e';cases e'
  · obtain⟨q,hq,hb⟩:=mem_hfoot.mp hb
    have ne:=(x.ho q hq).lst_ne e
    exact hb.elim ne.1 ne.2
end FX
namespace FX
open PySem PySem.Spec PyProof.Rows L2
set_option linter.all false
end FX
namespace FX
open PySem PySem.Spec PyProof.Rows L2
set_option linter.all false
section
variable {p:Addr}{H H':Hp}{G:HGh}
end
end FX
namespace FX
open PySem PySem.Spec PyProof.Rows L2
set_option linter.all false
abbrev HL:=List (T2×Addr×List T2)
def hs0(l:HL):List (T2×List T2):=l.map fun q=>(q.1,q.2.2)
structure Ok(G:HGh)(n:Nat):Prop where
  hn:G.hand.Nodup
  hz:G.hand.length≤n
  on:(G.outs.map (·.1)).Nodup
  oz:G.outs.length≤n
  ke:G.holds.map (·.1)=G.outs.map (·.1)
  rn:(G.recs.map (·.1)).Nodup
  rz:G.recs.length≤n
  ln:∀q∈G.holds,q.2.2.Nodup∧q.2.2.length≤n
  new:∀t∈G.outs.map (·.1),t.1=G.num∧t.2<G.made
  hk:∀t∈G.hand,t.1=G.num→t∈G.outs.map (·.1)
  lk:∀q∈G.holds,∀t∈q.2.2,t.1=G.num→t∈G.outs.map (·.1)
  rk:∀t∈G.recs.map (·.1),t.1≠G.num
section
end
section
end
end FX
namespace FX
open PySem PySem.Spec PyProof.Rows L2
set_option linter.all false
section
end
end FX
namespace FX
open PySem PySem.Spec PyProof.Rows L2
set_option linter.all false
section
variable {prog:Program}{w:World}{K:Type}[DecidableEq K]{knd:HeapKind prog w K}{A:Around}{E:Value→Shared→Prop}{s:Shared}
end
end FX
namespace FX
open PySem PySem.Spec PyProof.Rows L2
set_option linter.all false
section
variable {X:Cx}{pins:List (Addr×Obj)}{σ:L2.St}{H:Hp}{s:Shared}{A:Around}{E:Value→Shared→Prop}
end
section
variable {X:Cx}
end
end FX
namespace FX
open PySem PySem.Spec PyProof.Rows L2
set_option linter.all false
def hN(a b:Nat):Int:=reduceHash (Builtin.Tuple.tupleHashOf [hashInt (a:Int),hashInt (b:Int)])
end FX
namespace FX
open PySem PySem.Spec PyProof.Rows L2
set_option linter.all false
section
variable {p:Addr}{b:T2→Bool}{ts:List T2}{H:Hp}{tt:TT}{caps:List (Str×Nat)}{σ:L2.St}{Q:Hp→Prop}
end
end FX
namespace FX
open PySem PySem.Spec PyProof.Rows L2
set_option linter.all false
end FX
namespace FX
open PySem PySem.Spec PyProof.Rows L2
set_option linter.all false
section
end
end FX
namespace FX
open PySem PySem.Spec PyProof.Rows L2
set_option linter.all false
end FX
namespace FX
open PySem PySem.Spec PyProof.Rows L2
set_option linter.all false
end FX
namespace FX
open PySem PySem.Spec PyProof.Rows L2
set_option linter.all false
end FX
namespace FX
open PySem PySem.Spec PyProof.Rows L2
set_option linter.all false
end FX
namespace FX
open PySem PySem.Spec PyProof.Rows L2
set_option linter.all false
end FX
namespace FX
open PySem PySem.Spec PyProof.Rows L2
set_option linter.all false
end FX
namespace FX
open PySem PySem.Spec PyProof.Rows L2
set_option linter.all false
end FX
namespace FX
open PySem PySem.Spec PyProof.Rows L2
set_option linter.all false
section
end
end FX
namespace FX
open PySem PySem.Spec PyProof.Rows L2
set_option linter.all false
end FX
namespace FX
open PySem PySem.Spec PyProof.Rows L2
set_option linter.all false
section
variable {p:Addr}{H H':Hp}{G:HGh}
end
end FX
namespace FX
open PySem PySem.Spec PyProof.Rows L2
set_option linter.all false
section
variable {G M:HGh}{n:Nat}{R:List T2}
end
section
end
end FX
namespace FX
open PySem PySem.Spec PyProof.Rows L2
set_option linter.all false
section
end
end FX
namespace FX
open PySem PySem.Spec PyProof.Rows L2
set_option linter.all false
end FX
namespace FX
open PySem PySem.Spec PyProof.Rows L2
set_option linter.all false
section
end
section
end
section
end
section
variable {X:Cx}
end
end FX
namespace K53
open PySem L2 FX
set_option linter.all false
def top(i:Nat):Stmt:=PySem.Challenge.pw_farhold_k53_no_row.main.body.getD i (.Pass ⟨0,0,0,0⟩)
abbrev sInit:Stmt:=inClass (top 15) 0
abbrev sMake:Stmt:=inClass (top 15) 1
abbrev sHold:Stmt:=inClass (top 15) 2
abbrev sDrop:Stmt:=inClass (top 15) 3
abbrev sTake:Stmt:=inClass (top 15) 4
abbrev sFree:Stmt:=inClass (top 15) 5
abbrev sPart:Stmt:=inClass (top 15) 6
abbrev sCame:Stmt:=inClass (top 15) 7
abbrev sAdded:Stmt:=inClass (top 15) 8
abbrev sGiven:Stmt:=inClass (top 15) 9
abbrev sPassed:Stmt:=inClass (top 15) 10
abbrev sTick:Stmt:=inClass (top 15) 13
abbrev sState:Stmt:=inClass (top 15) 14
abbrev sTold:Stmt:=inClass (top 15) 15
abbrev sNear:Stmt:=inClass (top 15) 16
abbrev sNeedH:Stmt:=inClass (top 15) 18
abbrev sNeedN:Stmt:=inClass (top 15) 19
abbrev sNeedHo:Stmt:=inClass (top 15) 20
abbrev sPartR:Stmt:=inClass (top 15) 21
abbrev sAddR:Stmt:=inClass (top 15) 22
abbrev sCell:Stmt:=top 36
abbrev sParted:Stmt:=top 13
abbrev sStream:Stmt:=top 37
abbrev sClass:Stmt:=top 38
abbrev sLSay:Stmt:=top 39
abbrev sLNum:Stmt:=top 40
abbrev sGood:Stmt:=top 41
abbrev sOther:Stmt:=top 42
abbrev sBad:Stmt:=top 43
abbrev sSpoiled:Stmt:=top 44
abbrev sOdd:Stmt:=top 45
abbrev sLook:Stmt:=top 46
abbrev sLaw:Stmt:=top 47
abbrev sDInit:Stmt:=inClass (top 27) 0
abbrev sSay:Stmt:=inClass (top 27) 1
abbrev sMove:Stmt:=inClass (top 27) 2
abbrev sAct:Stmt:=inClass (top 27) 3
abbrev sLookD:Stmt:=inClass (top 27) 4
abbrev sHeldBy:Stmt:=inClass (top 27) 5
abbrev sReadWords:Stmt:=top 28
abbrev sReadWord:Stmt:=top 29
abbrev sReadNum:Stmt:=top 30
abbrev sWrThing:Stmt:=top 31
abbrev sWrLetter:Stmt:=top 32
abbrev sListed:Stmt:=top 33
abbrev sListedT:Stmt:=top 34
structure Txt(K:PySem.W.Frag)(mg:Str→Option Value)(C NHd NNr MI NW:Addr):Prop where
  cl:Cls K C
  nN:NoAttr K C "number"
  nM:NoAttr K C "made"
  nT:NoAttr K C "ticks"
  nH:NoAttr K C "hand"
  nO:NoAttr K C "outs"
  nL:NoAttr K C "holds"
  nR:NoAttr K C "records"
  mgC:mg "House"=some (.ref C)
  cNHd:XCls K mg "NotHeld" NHd
  cNNr:XCls K mg "NotNear" NNr
  cMI:XCls K mg "Missing" MI
  cNW:XCls K mg "NoWeight" NW
  len:mg "len"=none
  range:mg "range"=none
  tuple:mg "tuple"=none
  sorted:mg "sorted"=none
  isi:mg "isinstance"=none
def spNear(C:Addr):Sp:=fun vs H Q _=>∃(p t:Addr)(G:HGh)(th:T2),vs=[.ref p,.ref t]∧HouseAt C H p G∧H t=some (.tup (tv th))∧Q (.bl (decide (th.1=G.num))) H
def spNeedH(C NHd:Addr):Sp:=fun vs H Q E=>∃(p t:Addr)(G:HGh)(th:T2),vs=[.ref p,.ref t]∧HouseAt C H p G∧H t=some (.tup (tv th))∧((th∈G.hand∧Q .non H)∨(th∉G.hand∧E (.ref NHd) none H))
def spNeedN(C NNr:Addr):Sp:=fun vs H Q E=>∃(p t:Addr)(G:HGh)(th:T2),vs=[.ref p,.ref t]∧HouseAt C H p G∧H t=some (.tup (tv th))∧((th.1=G.num∧Q .non H)∨(th.1≠G.num∧E (.ref NNr) none H))
section
variable {P:Program}{w:World}{K:PySem.W.Frag}{mg:Str→Option Value}{base:Heap}{C NHd NNr MI NW:Addr}
theorem scN:FnScope ["self","thing"] ["self","thing"] (defScope sNear):=⟨rfl,rfl,rfl,by decide +kernel,rfl,by decide +kernel,by decide +kernel⟩
theorem ok_near{f:Addr}{fd:FuncData}(F:Fun K "is_near" "House.is_near" sNear f fd)(T:Txt K mg C NHd NNr MI NW):FnOk P w K mg base CX0 1 f fd ["self","thing"] (spNear C):=by
  refine F.ok scN (fun vs H Q E h=>?_) (fun cdv A outer s H vs Q E hr h=>?_)
  · obtain⟨p,t,G,th,rfl,_⟩:=h
    rfl
  · obtain⟨p,t,G,th,rfl,S,ht,k⟩:=h
    obtain⟨dx,hp⟩:=S.ob
    refine⟨_,pss_one (ps_ret (pe_cmp (pc_eqI (pe_ix ix_tup (pv 1) pe_int (fun _ _=>rfl)) (pe_fld (pv 0) rfl)))),?_⟩
    exact⟨_,rfl,⟨t,_,0,_,rfl,rfl,SqT.of ht,rfl,_,rfl,p,C,dx,_,_,rfl,hp,T.cl,T.nN,hf_number G,_,_,rfl,rfl,k⟩⟩
theorem hand_in{H:Hp}{d t:Addr}{l:List T2}{th:T2}(hd:H d=some (dHand l))(ht:H t=some (.tup (tv th))):DGet H d (.ref t) (if th∈l then some (V.bl true) else none):=by
  have:=DGet.t (k:=tk th) hd ht
  rw[valV_hand] at this
  exact this
theorem scNH:FnScope ["self","thing"] ["self","thing"] (defScope sNeedH):=⟨rfl,rfl,rfl,by decide +kernel,rfl,by decide +kernel,by decide +kernel⟩
theorem ok_needH{f:Addr}{fd:FuncData}(F:Fun K "need_in_hand" "House.need_in_hand" sNeedH f fd)(T:Txt K mg C NHd NNr MI NW):FnOk P w K mg base (CX1 P w) 1 f fd ["self","thing"] (spNeedH C NHd):=by
  refine ok1 F scNH (fun vs H Q E h=>?_) (fun cdv A outer s H vs Q E hr h=>?_)
  · obtain⟨p,t,G,th,rfl,_⟩:=h
    rfl
  · obtain⟨p,t,G,th,rfl,S,ht,k⟩:=h
    have hu:=hu_of hr
    obtain⟨dx,hp⟩:=S.ob
    refine⟨_,pss_one (ps_if (pt_cmp (pc_dnotin hu (pv 1) (pe_fld (pv 0) rfl))) (pss_one (ps_raise rfl rfl T.cNHd raises1)) pss_nil),?_⟩
    refine⟨_,rfl,_,rfl,p,C,dx,_,_,rfl,hp,T.cl,T.nH,hf_hand G,G.h,_,rfl,hand_in S.dh ht,_,rfl,?_⟩
    rcases k with⟨h,k⟩|⟨h,k⟩
    · rw[if_pos h];exact iteF k
    · rw[if_neg h];exact iteT k
end
end K53
namespace K53
open PySem L2 FX
set_option linter.all false
structure Mth(K:PySem.W.Frag)(C:Addr)(x qual:Str)(st:Stmt)(ps:List Str)(f:Addr)(fd:FuncData):Prop where
  fn:Fun K x qual st f fd
  bd:Binds K fd ps []
  mt:Meth K C x f
section
variable {P:Program}{w:World}{K:PySem.W.Frag}{mg:Str→Option Value}{base:Heap}{C NHd NNr MI NW:Addr}
theorem scNN:FnScope ["self","thing"] ["self","thing"] (defScope sNeedN):=⟨rfl,rfl,rfl,by decide +kernel,rfl,by decide +kernel,by decide +kernel⟩
theorem ok_needN{f f1:Addr}{fd fd1:FuncData}(F:Fun K "need_near" "House.need_near" sNeedN f fd)(T:Txt K mg C NHd NNr MI NW)(M1:Mth K C "is_near" "House.is_near" sNear ["self","thing"] f1 fd1):FnOk P w K mg base (CX1 P w) 2 f fd ["self","thing"] (spNeedN C NNr):=by
  have G1:FnOk P w K mg base (CX1 P w) 1 f1 fd1 ["self","thing"] (spNear C):=FX.FnOk.to1 (ok_near M1.fn T)
  refine ok1 F scNN (fun vs H Q E h=>?_) (fun cdv A outer s H vs Q E hr h=>?_)
  · obtain⟨p,t,G,th,rfl,_⟩:=h
    rfl
  · obtain⟨p,t,G,th,rfl,S,ht,k⟩:=h
    have hu:=hu_of hr
    obtain⟨dx,hp⟩:=S.ob
    refine⟨_,pss_one (ps_if (pt_not (pt_val (pe_meth (pl:=_) (pv 0) T.cl M1.mt G1 hr M1.bd .nil pass1 (pa_cons (pv 1) pa_nil)))) (pss_one (ps_raise rfl rfl T.cNNr raises1)) pss_nil),?_⟩
    refine⟨_,rfl,p,dx,_,rfl,hp,hf_no G (by decide +kernel),_,rfl,p,t,G,th,rfl,S,ht,_,rfl,?_⟩
    rcases k with⟨h,k⟩|⟨h,k⟩
    · rw[decide_eq_true h];exact iteF k
    · rw[decide_eq_false h];exact iteT k
theorem holds_get{H:Hp}{p t:Addr}{G:HGh}{th:T2}{a:Addr}{hl:List T2}(S:HouseAt C H p G)(ht:H t=some (.tup (tv th)))(f:G.holds.find? (fun q=>decide (q.1=th))=some (th,a,hl)):DGet H G.l (.ref t) (some (V.ref a))∧H a=some (dHand hl)∧(th,a,hl)∈G.holds:=by
  have:=DGet.t (k:=tk th) S.dl ht
  rw[valV_tk (k:=fun q:T2×Addr×List T2=>q.1) (f:=fun q=>V.ref q.2.1),f] at this
  exact⟨this,S.hl _ (List.mem_of_find?_eq_some f),List.mem_of_find?_eq_some f⟩
end
end K53
namespace K53
open PySem L2 FX
set_option linter.all false
section
variable {P:Program}{w:World}{K:PySem.W.Frag}{mg:Str→Option Value}{base:Heap}{C NHd NNr MI NW:Addr}
def Done(C:Addr)(p:Addr)(G:HGh)(H:Hp)(G':HGh)(k:Hp→Prop):Prop:=∀H',HouseAt C H' p G'→HFr p G H H'→k H'
def spHold(C NHd NNr:Addr):Sp:=fun vs H Q E=>∃(p a b:Addr)(G:HGh)(ta tb:T2),vs=[.ref p,.ref a,.ref b]∧HouseAt C H p G∧H a=some (.tup (tv ta))∧H b=some (.tup (tv tb)) ∧
  ((¬(ta∈G.hand∧tb∈G.hand)∧E (.ref NHd) none H)∨(ta∈G.hand∧tb∈G.hand∧ta.1≠G.num∧E (.ref NNr) none H) ∨
   (ta∈G.hand∧tb∈G.hand∧ta.1=G.num∧∃(ad:Addr)(hl:List T2),G.holds.find? (fun q=>decide (q.1=ta))=some (ta,ad,hl)∧hl.length≤500 ∧
      Done C p G H { G with ticks:=G.ticks+1,holds:=setL G.holds ad (addT hl tb) } (Q .non)))
def spFree(C NHd:Addr):Sp:=fun vs H Q E=>∃(p b:Addr)(G:HGh)(tb:T2),vs=[.ref p,.ref b]∧HouseAt C H p G∧H b=some (.tup (tv tb)) ∧
  ((tb∉G.hand∧E (.ref NHd) none H)∨(tb∈G.hand∧Done C p G H { G with ticks:=G.ticks+1,hand:=delT G.hand tb } (Q .non)))
theorem tick_done{p d:Addr}{G G1:HGh}{H H1:Hp}{o:HO}{dx:Addr}{k:Hp→Prop}(hd:d∈foot G)(hf:foot G1=foot G)(e:H1=upd H d o)(S1:HouseAt C H1 p G1)(D:Done C p G H { G1 with ticks:=G1.ticks+1 } k) :
    k (upd H1 p (.ins C dx (hflds { G1 with ticks:=G1.ticks+1 }))):=by
  refine D _ (S1.fld dx G1.made (G1.ticks+1)) fun b o' e1 h1 h2=>?_
  rw[upd_ne h1,e,upd_ne (fun z=>h2 (by rw[z];exact hd))]
  exact e1
theorem scH:FnScope ["self","a","b"] ["self","a","b"] (defScope sHold):=⟨rfl,rfl,rfl,by decide +kernel,rfl,by decide +kernel,by decide +kernel⟩
theorem foot_hold{G:HGh}{q:T2×Addr×List T2}(h:q∈G.holds):q.2.1∈foot G:=by
  unfold foot
  exact ZD _ (ZD _ (ZD _ (ZD _ (List.mem_map_of_mem h))))
theorem ok_hold{f f1 f2 f3:Addr}{fd fd1 fd2 fd3:FuncData}(F:Fun K "hold" "House.hold" sHold f fd)(T:Txt K mg C NHd NNr MI NW)(M1:Mth K C "is_near" "House.is_near" sNear ["self","thing"] f1 fd1)(M2:Mth K C "need_in_hand" "House.need_in_hand" sNeedH ["self","thing"] f2 fd2)(M3:Mth K C "need_near" "House.need_near" sNeedN ["self","thing"] f3 fd3):FnOk P w K mg base (CX1 P w) 3 f fd ["self","a","b"] (spHold C NHd NNr):=by
  have G2:FnOk P w K mg base (CX1 P w) 1 f2 fd2 ["self","thing"] (spNeedH C NHd):=ok_needH M2.fn T
  have G3:FnOk P w K mg base (CX1 P w) 2 f3 fd3 ["self","thing"] (spNeedN C NNr):=ok_needN M3.fn T M1
  refine ok1 F scH (fun vs H Q E h=>?_) (fun cdv A outer s H vs Q E hr h=>?_)
  · obtain⟨p,a,b,G,ta,tb,rfl,_⟩:=h
    rfl
  · obtain⟨p,a,b,G,ta,tb,rfl,S,ha,hb,k⟩:=h
    have hu:=hu_of hr
    have hr1:Room 1 _:=hr.mono (by decide)
    obtain⟨dx,hp⟩:=S.ob
    refine⟨_,pss_cons (ps_expr (pe_meth (pl:=_) (pv 0) T.cl M2.mt G2 hr1 M2.bd .nil pass1 (pa_cons (pv 1) pa_nil))) (pss_cons (ps_expr (pe_meth (pl:=_) (pv 0) T.cl M2.mt G2 hr1 M2.bd .nil pass1 (pa_cons (pv 2) pa_nil))) (pss_cons (ps_expr (pe_meth (pl:=_) (pv 0) T.cl M3.mt G3 hr M3.bd .nil pass1 (pa_cons (pv 1) pa_nil)))
      (pss_cons (ps_dput hu (pe_dget hu (pe_fld (pv 0) rfl) (pv 1) (fun _ _=>rfl)) (pv 2) pe_bl rfl) (pss_one (ps_fldaug (pv 0) pe_int in_add))))),?_⟩
    refine⟨_,rfl,p,dx,_,rfl,hp,hf_no G (by decide +kernel),_,rfl,p,a,G,ta,rfl,S,ha,?_⟩
    by_cases h1:ta∈G.hand
    · refine .inl ⟨h1,_,rfl,p,dx,_,rfl,hp,hf_no G (by decide +kernel),_,rfl,p,b,G,tb,rfl,S,hb,?_⟩
      by_cases h2:tb∈G.hand
      · refine .inl ⟨h2,_,rfl,p,dx,_,rfl,hp,hf_no G (by decide +kernel),_,rfl,p,a,G,ta,rfl,S,ha,?_⟩
        rcases k with⟨h,k⟩|⟨_,_,h,k⟩|⟨_,_,h,ad,hl,fnd,z,k⟩
        · exact absurd ⟨h1,h2⟩ h
        · exact .inr ⟨h,k⟩
        · obtain⟨g1,g2,g3⟩:=holds_get S ha fnd
          refine .inl ⟨h,_,rfl,p,C,dx,_,_,rfl,hp,T.cl,T.nL,hf_holds G,_,rfl,G.l,_,rfl,g1,_,rfl,ad,_,rfl,DPut.t (k:=tk tb) g2 hb (by rw[ZA];exact small1000 (by omega)),?_⟩
          rw[putK_hand]
          have S1:HouseAt C (upd H ad (dHand (addT hl tb))) p { G with holds:=setL G.holds ad (addT hl tb) }:=S.setHold g3 (addT hl tb)
          obtain⟨dx1,hp1⟩:=S1.ob
          refine⟨_,rfl,p,C,dx1,_,_,rfl,hp1,T.cl,T.nT,hf_ticks _,_,_,rfl,rfl,dx1,_,hp1,hf_len _,?_⟩
          rw[hf_put_ticks]
          exact tick_done (G1:={ G with holds:=setL G.holds ad (addT hl tb) }) (foot_hold g3) (by unfold foot;rw[setL_adr]) rfl S1 k
      · rcases k with⟨h,k⟩|⟨_,h,_⟩|⟨_,h,_⟩
        · exact .inr ⟨h2,k⟩
        · exact absurd h h2
        · exact absurd h h2
    · rcases k with⟨h,k⟩|⟨h,_⟩|⟨h,_⟩
      · exact .inr ⟨h1,k⟩
      · exact absurd h h1
      · exact absurd h h1
theorem scF:FnScope ["self","b"] ["self","b"] (defScope sFree):=⟨rfl,rfl,rfl,by decide +kernel,rfl,by decide +kernel,by decide +kernel⟩
theorem ok_free{f f2:Addr}{fd fd2:FuncData}(F:Fun K "free" "House.free" sFree f fd)(T:Txt K mg C NHd NNr MI NW)(M2:Mth K C "need_in_hand" "House.need_in_hand" sNeedH ["self","thing"] f2 fd2) :
    FnOk P w K mg base (CX1 P w) 2 f fd ["self","b"] (spFree C NHd):=by
  have G2:FnOk P w K mg base (CX1 P w) 1 f2 fd2 ["self","thing"] (spNeedH C NHd):=ok_needH M2.fn T
  refine ok1 F scF (fun vs H Q E h=>?_) (fun cdv A outer s H vs Q E hr h=>?_)
  · obtain⟨p,b,G,tb,rfl,_⟩:=h
    rfl
  · obtain⟨p,b,G,tb,rfl,S,hb,k⟩:=h
    have hu:=hu_of hr
    obtain⟨dx,hp⟩:=S.ob
    refine⟨_,pss_cons (ps_expr (pe_meth (pl:=_) (pv 0) T.cl M2.mt G2 hr M2.bd .nil pass1 (pa_cons (pv 1) pa_nil)))
      (pss_cons (ps_expr (pe_dpopT hu (pe_fld (pv 0) rfl) (pv 1) ⟨rfl,rfl,rfl,rfl⟩)) (pss_one (ps_fldaug (pv 0) pe_int in_add))),?_⟩
    refine⟨_,rfl,p,dx,_,rfl,hp,hf_no G (by decide +kernel),_,rfl,p,b,G,tb,rfl,S,hb,?_⟩
    rcases k with k|⟨h,k⟩
    · exact .inr k
    · refine .inl ⟨h,_,rfl,p,C,dx,_,_,rfl,hp,T.cl,T.nH,hf_hand G,G.h,rfl,.inr ⟨_,.inl S.dh⟩,_,rfl,_,tk tb,_,b,S.dh,rfl,hb,(by rw[valV_hand,if_pos h]),?_⟩
      rw[dropK_tk (k:=fun q:T2=>q) (f:=fun _=>V.bl true)]
      have S1:HouseAt C (upd H G.h (dHand (delT G.hand tb))) p { G with hand:=delT G.hand tb }:=S.setHand (delT G.hand tb)
      obtain⟨dx1,hp1⟩:=S1.ob
      refine⟨_,rfl,p,C,dx1,_,_,rfl,hp1,T.cl,T.nT,hf_ticks _,_,_,rfl,rfl,dx1,_,hp1,hf_len _,?_⟩
      rw[hf_put_ticks]
      exact tick_done (G1:={ G with hand:=delT G.hand tb }) (by simp[foot]) rfl rfl S1 k
end
end K53
namespace K53
open PySem L2 FX
set_option linter.all false
section
variable {P:Program}{w:World}{K:PySem.W.Frag}{mg:Str→Option Value}{base:Heap}{C NHd NNr MI NW:Addr}
def goes(n:Int):Int:=if n=1 then 1 else n / 2
def spParted:Sp:=fun vs H Q _=>∃n:Int,vs=[.int n]∧∀p,H p=none→Q (.ref p) (upd H p (.tup [.int (n-goes n),.int (goes n)]))
theorem scP:FnScope ["weight","goes"] ["weight"] (defScope sParted):=⟨rfl,rfl,rfl,by decide +kernel,rfl,by decide +kernel,by decide +kernel⟩
theorem ok_parted{f:Addr}{fd:FuncData}(F:Fun K "parted" "parted" sParted f fd):FnOk P w K mg base CX0 1 f fd ["weight"] spParted:=by
  refine F.ok scP (fun vs H Q E h=>?_) (fun cdv A outer s H vs Q E hr h=>?_)
  · obtain⟨n,rfl,_⟩:=h
    rfl
  · obtain⟨n,rfl,k⟩:=h
    refine⟨_,pss_cons (ps_if (pt_cmpR op_eq (pv 0) pe_int (nomark _)) (pss_one (ps_ret (pe_tup (pa_cons pe_int (pa_cons pe_int pa_nil))))) pss_nil)
      (pss_cons (ps_set (i:=1) scP.nd rfl (Or.inl rfl) (pe_op op_fdiv (pv 0) pe_int))
      (pss_one (ps_ret (pe_tup (pa_cons (pe_op op_sub (pv 0) (pv 1)) (pa_cons (pv 1) pa_nil)))))),?_⟩
    refine⟨_,rfl,rfl,_,rfl,?_⟩
    refine ite2 (fun c1=>?_) (fun c1=>?_)
    · have c1:n=1:=V.int.inj (of_decide_eq_true c1)
      subst c1
      exact⟨show 2≤sizeLine by decide,fun p hp=>k p hp⟩
    · have c1:¬n=1:=fun z=>by rw[z] at c1;simp at c1
      refine⟨_,rfl,_,_,rfl,rfl,⟨by decide,by decide⟩,?_⟩
      refine⟨_,rfl,_,rfl,_,_,rfl,rfl,_,rfl,(show 2≤sizeLine by decide),fun p hp=>?_⟩
      have:=k p hp
      unfold goes at this
      rw[if_neg c1] at this
      exact this
structure Gdf(K:PySem.W.Frag)(mg:Str→Option Value)(x:Str)(st:Stmt)(ps:List Str)(f:Addr)(fd:FuncData):Prop where
  fn:Fun K x x st f fd
  bd:Binds K fd ps []
  mg:mg x=some (.ref f)
def getI(l:List (T2×Int))(t:T2):Int:=((l.find? fun q=>decide (q.1=t)).map (·.2)).getD 0
def spPartR(C NW:Addr):Sp:=fun vs H Q E=>∃(p b:Addr)(G:HGh)(tb:T2)(wt:Int),vs=[.ref p,.ref b]∧HouseAt C H p G∧H b=some (.tup (tv tb))∧G.recs.find? (fun q=>decide (q.1=tb))=some (tb,wt)∧G.recs.length≤500 ∧
  ((wt=0∧E (.ref NW) none H)∨(wt≠0∧Done C p G H { G with recs:=putI G.recs tb (wt-goes wt) } (Q (.int (goes wt)))))
theorem int_get{H:Hp}{d t:Addr}{l:List (T2×Int)}{th:T2}(hd:H d=some (dInt l))(ht:H t=some (.tup (tv th))):DGet H d (.ref t) ((l.find? fun q=>decide (q.1=th)).map fun q=>V.int q.2):=by
  have:=DGet.t (k:=tk th) hd ht
  rw[valV_tk (k:=fun q:T2×Int=>q.1) (f:=fun q=>V.int q.2)] at this
  exact this
theorem scPR:FnScope ["self","b","weight","halves"] ["self","b"] (defScope sPartR):=⟨rfl,rfl,rfl,by decide +kernel,rfl,by decide +kernel,by decide +kernel⟩
theorem ok_partR{f fP:Addr}{fd fdP:FuncData}(F:Fun K "part_record" "House.part_record" sPartR f fd)(T:Txt K mg C NHd NNr MI NW)(MP:Gdf K mg "parted" sParted ["weight"] fP fdP):FnOk P w K mg base (CX1 P w) 2 f fd ["self","b"] (spPartR C NW):=by
  have GP:FnOk P w K mg base (CX1 P w) 1 fP fdP ["weight"] spParted:=FX.FnOk.to1 (ok_parted MP.fn)
  refine ok1 F scPR (fun vs H Q E h=>?_) (fun cdv A outer s H vs Q E hr h=>?_)
  · obtain⟨p,b,G,tb,wt,rfl,_⟩:=h
    rfl
  · obtain⟨p,b,G,tb,wt,rfl,S,hb,fnd,z,k⟩:=h
    have hu:=hu_of hr
    obtain⟨dx,hp⟩:=S.ob
    have g1:DGet H G.r (.ref b) (some (V.int wt)):=by
      have:=int_get S.dr hb
      rw[fnd] at this;exact this
    refine⟨_,pss_cons (ps_set (i:=2) scPR.nd rfl (Or.inl rfl) (pe_dget hu (pe_fld (pv 0) rfl) (pv 1) (fun _ _=>rfl)))
      (pss_cons (ps_if (pt_cmpR op_eq (pv 2) pe_int (nomark _)) (pss_one (ps_raise rfl rfl T.cNW raises1)) pss_nil)
      (pss_cons (ps_set (i:=3) scPR.nd rfl (Or.inl rfl) (pe_call GP hr (by rfl) MP.mg MP.fn.kp MP.bd .nil pass1 (pa_cons (pv 2) pa_nil)))
      (pss_cons (ps_dput hu (pe_fld (pv 0) rfl) (pv 1) (pe_ix ix_tup (pv 3) pe_int (fun _ _=>rfl)) rfl)
      (pss_one (ps_ret (pe_ix ix_tup (pv 3) pe_int (fun _ _=>rfl))))))),?_⟩
    refine⟨_,rfl,p,C,dx,_,_,rfl,hp,T.cl,T.nR,hf_records G,_,rfl,G.r,_,rfl,g1,?_⟩
    refine⟨_,rfl,rfl,_,rfl,?_⟩
    rcases k with⟨h,k⟩|⟨h,k⟩
    · rw[show decide (V.int wt=V.int 0)=true from decide_eq_true (by rw[h])]
      exact iteT k
    · rw[show decide (V.int wt=V.int 0)=false from decide_eq_false fun e=>h (V.int.inj e)]
      refine iteF ?_
      refine⟨_,rfl,wt,rfl,fun t ht=>?_⟩
      have s1:=same_new (o:=.tup [V.int (wt-goes wt),V.int (goes wt)]) ht
      have S1:=S.same s1
      have t1:(upd H t (.tup [V.int (wt-goes wt),V.int (goes wt)])) t=some (.tup [V.int (wt-goes wt),V.int (goes wt)]):=upd_same
      have b1:=s1 _ _ hb
      generalize upd H t (.tup [V.int (wt-goes wt),V.int (goes wt)])=H1 at s1 S1 t1 b1
      obtain⟨dx1,hp1⟩:=S1.ob
      refine⟨_,rfl,t,_,0,_,rfl,rfl,SqT.of t1,rfl,_,rfl,p,C,dx1,_,_,rfl,hp1,T.cl,T.nR,hf_records G,_,rfl,G.r,_,rfl,DPut.t (k:=tk tb) S1.dr b1 (by rw[ZA];exact small1000 (by omega)),?_⟩
      rw[putK_int]
      have S2:HouseAt C (upd H1 G.r (dInt (putI G.recs tb (wt-goes wt)))) p { G with recs:=putI G.recs tb (wt-goes wt) }:=S1.setRecs _
      have tr:t≠G.r:=fun e=>(S1.tup_ne t1).2 (by rw[e];simp[foot])
      refine⟨_,rfl,t,_,1,_,rfl,rfl,SqT.of (by rw[upd_ne tr];exact t1),rfl,?_⟩
      refine k _ S2 fun b' o e h1 h2=>?_
      rw[upd_ne fun e'=>h2 (by rw[e'];simp[foot])]
      exact s1 _ _ e
end
end K53
namespace K53
open PySem L2 FX
set_option linter.all false
section
variable {P:Program}{w:World}{K:PySem.W.Frag}{mg:Str→Option Value}{base:Heap}{C NHd NNr MI NW:Addr}
def spAddR(C:Addr):Sp:=fun vs H Q _=>∃(p b:Addr)(G:HGh)(tb:T2)(wt:Int),vs=[.ref p,.ref b,.int wt]∧HouseAt C H p G∧H b=some (.tup (tv tb))∧G.recs.length≤500 ∧
  Done C p G H { G with recs:=putI G.recs tb (getI G.recs tb+wt) } (Q .non)
theorem scAR:FnScope ["self","b","weight"] ["self","b","weight"] (defScope sAddR):=⟨rfl,rfl,rfl,by decide +kernel,rfl,by decide +kernel,by decide +kernel⟩
theorem ok_addR{f:Addr}{fd:FuncData}(F:Fun K "add_to_record" "House.add_to_record" sAddR f fd)(T:Txt K mg C NHd NNr MI NW):FnOk P w K mg base CX0 1 f fd ["self","b","weight"] (spAddR C):=by
  refine F.ok scAR (fun vs H Q E h=>?_) (fun cdv A outer s H vs Q E hr h=>?_)
  · obtain⟨p,b,G,tb,wt,rfl,_⟩:=h
    rfl
  · obtain⟨p,b,G,tb,wt,rfl,S,hb,z,k⟩:=h
    have hu:=hu_of hr
    obtain⟨dx,hp⟩:=S.ob
    refine⟨_,pss_one (ps_dput hu (pe_fld (pv 0) rfl) (pv 1) (pe_op op_add (pe_dget2 hu (pe_fld (pv 0) rfl) (pv 1) pe_int ⟨rfl,rfl,rfl,rfl⟩) (pv 2)) rfl),?_⟩
    have ei:((G.recs.find? fun q=>decide (q.1=tb)).map fun q=>V.int q.2).getD (V.int 0)=V.int (getI G.recs tb):=by
      unfold getI
      cases G.recs.find? fun q=>decide (q.1=tb)<;>rfl
    refine⟨_,rfl,p,C,dx,_,_,rfl,hp,T.cl,T.nR,hf_records G,G.r,rfl,.inr ⟨_,.inl S.dr⟩,_,rfl,_,int_get S.dr hb,?_⟩
    rw[ei]
    refine⟨_,rfl,_,_,rfl,rfl,_,rfl,p,C,dx,_,_,rfl,hp,T.cl,T.nR,hf_records G,_,rfl,G.r,_,rfl,DPut.t (k:=tk tb) S.dr hb (by rw[ZA];exact small1000 (by omega)),?_⟩
    rw[putK_int]
    refine k _ (S.setRecs _) fun b' o e h1 h2=>?_
    rw[upd_ne fun e'=>h2 (by rw[e'];simp[foot])]
    exact e
def spCame(C:Addr):Sp:=fun vs H Q _=>∃(p b:Addr)(G:HGh)(tb:T2)(wt:Int),vs=[.ref p,.ref b,.int wt]∧HouseAt C H p G∧H b=some (.tup (tv tb))∧G.hand.length≤500∧G.outs.length≤500∧G.recs.length≤500 ∧
  ((tb.1=G.num∧∃o,G.outs.find? (fun q=>decide (q.1=tb))=some (tb,o)∧Done C p G H { G with ticks:=G.ticks+1,hand:=addT G.hand tb,outs:=putI G.outs tb (o-wt) } (Q .non)) ∨
   (tb.1≠G.num∧Done C p G H { G with ticks:=G.ticks+1,hand:=addT G.hand tb,recs:=putI G.recs tb (getI G.recs tb+wt) } (Q .non)))
theorem scC:FnScope ["self","b","weight"] ["self","b","weight"] (defScope sCame):=⟨rfl,rfl,rfl,by decide +kernel,rfl,by decide +kernel,by decide +kernel⟩
theorem ok_came{f f1 f5:Addr}{fd fd1 fd5:FuncData}(F:Fun K "came" "House.came" sCame f fd)(T:Txt K mg C NHd NNr MI NW)(M1:Mth K C "is_near" "House.is_near" sNear ["self","thing"] f1 fd1)(M5:Mth K C "add_to_record" "House.add_to_record" sAddR ["self","b","weight"] f5 fd5) :
    FnOk P w K mg base CX0 2 f fd ["self","b","weight"] (spCame C):=by
  have G1:FnOk P w K mg base CX0 1 f1 fd1 ["self","thing"] (spNear C):=ok_near M1.fn T
  have G5:FnOk P w K mg base CX0 1 f5 fd5 ["self","b","weight"] (spAddR C):=ok_addR M5.fn T
  refine F.ok scC (fun vs H Q E h=>?_) (fun cdv A outer s H vs Q E hr h=>?_)
  · obtain⟨p,b,G,tb,wt,rfl,_⟩:=h
    rfl
  · obtain⟨p,b,G,tb,wt,rfl,S,hb,z1,z2,z3,k⟩:=h
    have hu:=hu_of hr
    obtain⟨dx,hp⟩:=S.ob
    refine⟨_,pss_cons (ps_dput hu (pe_fld (pv 0) rfl) (pv 1) pe_bl rfl)
      (pss_cons (ps_if (pt_val (pe_meth (pl:=_) (pv 0) T.cl M1.mt G1 hr M1.bd .nil pass0 (pa_cons (pv 1) pa_nil))) (pss_one (ps_daug hu (pe_fld (pv 0) rfl) (pv 1) (pv 2) in_sub (fun _ _ _=>rfl)))
        (pss_one (ps_expr (pe_meth (pl:=_) (pv 0) T.cl M5.mt G5 hr M5.bd .nil pass0 (pa_cons (pv 1) (pa_cons (pv 2) pa_nil))))))
      (pss_one (ps_fldaug (pv 0) pe_int in_add))),?_⟩
    refine⟨_,rfl,p,C,dx,_,_,rfl,hp,T.cl,T.nH,hf_hand G,_,rfl,G.h,_,rfl,DPut.t (k:=tk tb) S.dh hb (by rw[ZA];exact small1000 (by omega)),?_⟩
    rw[putK_hand]
    have S1:HouseAt C (upd H G.h (dHand (addT G.hand tb))) p { G with hand:=addT G.hand tb }:=S.setHand (addT G.hand tb)
    have fr1:HFr p G H (upd H G.h (dHand (addT G.hand tb))):=fun b' o e h1 h2=>by rw[upd_ne fun e'=>h2 (by rw[e'];simp[foot])];exact e
    have b1:=fr1 _ _ hb (S.tup_ne hb).1 (S.tup_ne hb).2
    rw[show(HO.dT ((addT G.hand tb).map fun q=>(tk q,V.bl true)))=dHand (addT G.hand tb) from rfl]
    generalize (upd H G.h (dHand (addT G.hand tb)))=H1 at S1 fr1 b1
    obtain⟨dx1,hp1⟩:=S1.ob
    refine⟨_,rfl,p,dx1,_,rfl,hp1,hf_no _ (by decide +kernel),_,rfl,p,b,_,tb,rfl,S1,b1,_,rfl,?_⟩
    rcases k with⟨h,o,fnd,k⟩|⟨h,k⟩
    · rw[show decide (tb.1=({ G with hand:=addT G.hand tb }:HGh).num)=true from decide_eq_true h]
      refine iteT ?_
      have g1:DGet H1 G.o (.ref b) (some (V.int o)):=by
        have:=int_get S1.dO b1
        rw[show({ G with hand:=addT G.hand tb }:HGh).outs=G.outs from rfl,fnd] at this
        exact this
      refine⟨_,rfl,p,C,dx1,_,_,rfl,hp1,T.cl,T.nO,hf_outs _,_,rfl,G.o,_,rfl,g1,_,rfl,_,_,rfl,rfl,_,DPut.t (k:=tk tb) S1.dO b1 (by rw[ZA];exact small1000 (by show G.outs.length≤1000;omega)),?_⟩
      rw[putK_int]
      have S2:=S1.setOuts (putI G.outs tb (o-wt))
      have fr2:HFr p G H (upd H1 G.o (dInt (putI G.outs tb (o-wt)))):=fun b' o' e h1 h2=>by rw[upd_ne fun e'=>h2 (by rw[e'];simp[foot])];exact fr1 _ _ e h1 h2
      obtain⟨dx2,hp2⟩:=S2.ob
      refine⟨_,rfl,p,C,dx2,_,_,rfl,hp2,T.cl,T.nT,hf_ticks _,_,_,rfl,rfl,dx2,_,hp2,hf_len _,?_⟩
      rw[hf_put_ticks]
      exact k _ (S2.fld dx2 G.made (G.ticks+1)) fun b' o e h1 h2=>by rw[upd_ne h1];exact fr2 _ _ e h1 h2
    · rw[show decide (tb.1=({ G with hand:=addT G.hand tb }:HGh).num)=false from decide_eq_false h]
      refine iteF ?_
      refine⟨_,rfl,p,dx1,_,rfl,hp1,hf_no _ (by decide +kernel),_,rfl,_,rfl,p,b,_,tb,wt,rfl,S1,b1,z3,fun H2 S2 fr2=>?_⟩
      obtain⟨dx2,hp2⟩:=S2.ob
      refine⟨_,rfl,p,C,dx2,_,_,rfl,hp2,T.cl,T.nT,hf_ticks _,_,_,rfl,rfl,dx2,_,hp2,hf_len _,?_⟩
      rw[hf_put_ticks]
      exact k _ (S2.fld dx2 G.made (G.ticks+1)) fun b' o e h1 h2=>by rw[upd_ne h1];exact fr2 _ _ (fr1 _ _ e h1 h2) h1 h2
def spPart(C NHd NW:Addr):Sp:=fun vs H Q E=>∃(p b:Addr)(G:HGh)(tb:T2)(sh:Int),vs=[.ref p,.ref b,.int sh]∧HouseAt C H p G∧H b=some (.tup (tv tb))∧G.outs.length≤500∧G.recs.length≤500 ∧
  ((tb∉G.hand∧E (.ref NHd) none H) ∨
   (tb∈G.hand∧tb.1=G.num∧∃o,G.outs.find? (fun q=>decide (q.1=tb))=some (tb,o)∧Done C p G H { G with ticks:=G.ticks+1,outs:=putI G.outs tb (o+sh) } (Q (.int sh))) ∨
   (tb∈G.hand∧tb.1≠G.num∧∃wt,G.recs.find? (fun q=>decide (q.1=tb))=some (tb,wt)∧((wt=0∧E (.ref NW) none H)∨(wt≠0∧Done C p G H { G with ticks:=G.ticks+1,recs:=putI G.recs tb (wt-goes wt) } (Q (.int (goes wt)))))))
theorem scPa:FnScope ["self","b","share","goes"] ["self","b","share"] (defScope sPart):=⟨rfl,rfl,rfl,by decide +kernel,rfl,by decide +kernel,by decide +kernel⟩
theorem ok_part{f f1 f2 f6 fP:Addr}{fd fd1 fd2 fd6 fdP:FuncData}(F:Fun K "part" "House.part" sPart f fd)(T:Txt K mg C NHd NNr MI NW)(M1:Mth K C "is_near" "House.is_near" sNear ["self","thing"] f1 fd1)(M2:Mth K C "need_in_hand" "House.need_in_hand" sNeedH ["self","thing"] f2 fd2)(M6:Mth K C "part_record" "House.part_record" sPartR ["self","b"] f6 fd6)(MP:Gdf K mg "parted" sParted ["weight"] fP fdP) :
    FnOk P w K mg base (CX1 P w) 3 f fd ["self","b","share"] (spPart C NHd NW):=by
  have G1:FnOk P w K mg base (CX1 P w) 1 f1 fd1 ["self","thing"] (spNear C):=FX.FnOk.to1 (ok_near M1.fn T)
  have G2:FnOk P w K mg base (CX1 P w) 1 f2 fd2 ["self","thing"] (spNeedH C NHd):=ok_needH M2.fn T
  have G6:FnOk P w K mg base (CX1 P w) 2 f6 fd6 ["self","b"] (spPartR C NW):=ok_partR M6.fn T MP
  refine ok1 F scPa (fun vs H Q E h=>?_) (fun cdv A outer s H vs Q E hr h=>?_)
  · obtain⟨p,b,G,tb,sh,rfl,_⟩:=h
    rfl
  · obtain⟨p,b,G,tb,sh,rfl,S,hb,z1,z2,k⟩:=h
    have hu:=hu_of hr
    have hr1:Room 1 _:=hr.mono (by decide)
    obtain⟨dx,hp⟩:=S.ob
    refine⟨_,pss_cons (ps_expr (pe_meth (pl:=_) (pv 0) T.cl M2.mt G2 hr1 M2.bd .nil pass1 (pa_cons (pv 1) pa_nil)))
      (pss_cons (ps_if (pt_val (pe_meth (pl:=_) (pv 0) T.cl M1.mt G1 hr1 M1.bd .nil pass1 (pa_cons (pv 1) pa_nil)))
        (pss_cons (ps_daug hu (pe_fld (pv 0) rfl) (pv 1) (pv 2) in_add (fun _ _ _=>rfl)) (pss_one (ps_set (i:=3) scPa.nd rfl (Or.inl rfl) (pv 2))))
        (pss_one (ps_set (i:=3) scPa.nd rfl (Or.inl rfl) (pe_meth (pl:=_) (pv 0) T.cl M6.mt G6 hr M6.bd .nil pass1 (pa_cons (pv 1) pa_nil)))))
      (pss_cons (ps_fldaug (pv 0) pe_int in_add) (pss_one (ps_ret (pv 3))))),?_⟩
    refine⟨_,rfl,p,dx,_,rfl,hp,hf_no G (by decide +kernel),_,rfl,p,b,G,tb,rfl,S,hb,?_⟩
    rcases k with k|⟨h1,h2,o,fnd,k⟩|⟨h1,h2,wt,fnd,k⟩
    · exact .inr k
    · refine .inl ⟨h1,_,rfl,p,dx,_,rfl,hp,hf_no G (by decide +kernel),_,rfl,p,b,G,tb,rfl,S,hb,_,rfl,?_⟩
      rw[decide_eq_true h2]
      refine iteT ?_
      have g1:DGet H G.o (.ref b) (some (V.int o)):=by
        have:=int_get S.dO hb
        rw[fnd] at this;exact this
      refine⟨_,rfl,p,C,dx,_,_,rfl,hp,T.cl,T.nO,hf_outs _,_,rfl,G.o,_,rfl,g1,_,rfl,_,_,rfl,rfl,_,DPut.t (k:=tk tb) S.dO hb (by rw[ZA];exact small1000 (by omega)),?_⟩
      rw[putK_int]
      have S1:HouseAt C (upd H G.o (dInt (putI G.outs tb (o+sh)))) p { G with outs:=putI G.outs tb (o+sh) }:=S.setOuts _
      obtain⟨dx1,hp1⟩:=S1.ob
      refine⟨_,rfl,_,rfl,p,C,dx1,_,_,rfl,hp1,T.cl,T.nT,hf_ticks _,_,_,rfl,rfl,dx1,_,hp1,hf_len _,?_⟩
      rw[hf_put_ticks]
      refine⟨_,rfl,?_⟩
      exact tick_done (G1:={ G with outs:=putI G.outs tb (o+sh) }) (by simp[foot]) rfl rfl S1 k
    · refine .inl ⟨h1,_,rfl,p,dx,_,rfl,hp,hf_no G (by decide +kernel),_,rfl,p,b,G,tb,rfl,S,hb,_,rfl,?_⟩
      rw[decide_eq_false h2]
      refine iteF ?_
      refine⟨_,rfl,p,dx,_,rfl,hp,hf_no G (by decide +kernel),_,rfl,p,b,G,tb,wt,rfl,S,hb,fnd,z2,?_⟩
      rcases k with k|⟨h3,k⟩
      · exact .inl k
      · refine .inr ⟨h3,fun H1 S1 fr1=>?_⟩
        obtain⟨dx1,hp1⟩:=S1.ob
        refine⟨_,rfl,p,C,dx1,_,_,rfl,hp1,T.cl,T.nT,hf_ticks _,_,_,rfl,rfl,dx1,_,hp1,hf_len _,?_⟩
        rw[hf_put_ticks]
        exact⟨_,rfl,k _ (S1.fld dx1 G.made (G.ticks+1)) fun b' o e h1 h2=>by rw[upd_ne h1];exact fr1 _ _ e h1 h2⟩
end
end K53
namespace K53
open PySem L2 FX
set_option linter.all false
def spInit(C:Addr):Sp:=fun vs H Q _=>∃(p dx:Addr)(n:Int),vs=[.ref p,.int n]∧H p=some (.ins C dx []) ∧
  ∀(h o l r:Addr)(H':Hp),H h=none→H o=none→H l=none→H r=none→HouseAt C H' p ⟨n,0,0,h,o,l,r,[],[],[],[]⟩→(∀b u,H b=some u→b≠p→H' b=some u)→Q .non H'
def spMake(C:Addr):Sp:=fun vs H Q _=>∃(p:Addr)(G:HGh),vs=[.ref p]∧HouseAt C H p G∧G.hand.length≤500∧G.outs.length≤500∧G.holds.length≤500 ∧
  (∀t∈G.hand,t≠(G.num,G.made))∧(∀q∈G.outs,q.1≠(G.num,G.made))∧(∀q∈G.holds,q.1≠(G.num,G.made)) ∧
  ∀(t a:Addr)(H':Hp),H t=none→H a=none→H' t=some (.tup (tv (G.num,G.made))) →
    HouseAt C H' p { G with made:=G.made+1,ticks:=G.ticks+1,hand:=G.hand++[(G.num,G.made)],outs:=G.outs++[((G.num,G.made),0)],holds:=G.holds++[((G.num,G.made),a,[])] }→HFr p G H H'→Q (.ref t) H'
def spTold(C:Addr)(K:PySem.W.Frag):Sp:=fun vs H Q _=>∃(p t:Addr)(G:HGh)(th:T2)(w:Int)(a:Addr)(hl hs:List T2),vs=[.ref p,.ref t]∧HouseAt C H p G∧H t=some (.tup (tv th)) ∧
  G.outs.find? (fun q=>decide (q.1=th))=some (th,w)∧G.holds.find? (fun q=>decide (q.1=th))=some (th,a,hl)∧hl.length<64∧hs.Perm hl∧hs.Pairwise lt2 ∧
  ∀(x:Addr)(H':Hp),Same H H'→RepT K H' (.ref x) (rowD (th,w,hs))→Q (.ref x) H'
structure Rows(G:HGh)(os:List (T2×Int×List T2)):Prop where
  pm:(os.map (·.1)).Perm (G.outs.map (·.1))
  pw:(os.map (·.1)).Pairwise lt2
  at_:∀q∈os,G.outs.find? (fun z=>decide (z.1=q.1))=some (q.1,q.2.1)∧∃a hl,G.holds.find? (fun z=>decide (z.1=q.1))=some (q.1,a,hl)∧hl.length<64∧q.2.2.Perm hl∧q.2.2.Pairwise lt2
def spState(C:Addr)(K:PySem.W.Frag):Sp:=fun vs H Q _=>∃(p:Addr)(G:HGh)(hs:List T2)(os:List (T2×Int×List T2))(rs:List (T2×Int)),vs=[.ref p]∧HouseAt C H p G∧G.hand.length<64∧G.outs.length<64∧G.recs.length<64 ∧
  hs.Perm G.hand∧hs.Pairwise lt2∧Rows G os∧rs.Perm G.recs∧(rs.map (·.1)).Pairwise lt2∧∀(x:Addr)(H':Hp),Same H H'→(∃xs,H' x=some (.tup xs))→RepT K H' (.ref x) (stD hs os rs)→Q (.ref x) H'
section
variable {P:Program}{w:World}{K:PySem.W.Frag}{mg:Str→Option Value}{base:Heap}{C NHd NNr MI NW:Addr}
theorem scI:FnScope ["self","number"] ["self","number"] (defScope sInit):=⟨rfl,rfl,rfl,by decide +kernel,rfl,by decide +kernel,by decide +kernel⟩
theorem ok_init{f:Addr}{fd:FuncData}(F:Fun K "__init__" "House.__init__" sInit f fd)(T:Txt K mg C NHd NNr MI NW):FnOk P w K mg base CX0 1 f fd ["self","number"] (spInit C):=by
  refine F.ok scI (fun vs H Q E h=>?_) (fun cdv A outer s H vs Q E hr h=>?_)
  · obtain⟨p,dx,n,rfl,_⟩:=h
    rfl
  · obtain⟨p,dx,n,rfl,hp,k⟩:=h
    refine⟨_,pss_cons (ps_fld (pv 0) (pv 1) rfl) (pss_cons (ps_fld (pv 0) pe_int rfl) (pss_cons (ps_fld (pv 0) pe_int rfl) (pss_cons (ps_fld (pv 0) pe_dnewT rfl) (pss_cons (ps_fld (pv 0) pe_dnewT rfl) (pss_cons (ps_fld (pv 0) pe_dnewT rfl) (pss_one (ps_fld (pv 0) pe_dnewT rfl))))))),?_⟩
    refine⟨_,rfl,_,rfl,p,C,dx,[],rfl,hp,T.cl,T.nN,(by show 0<1000;decide),?_⟩
    refine⟨_,rfl,p,C,dx,_,rfl,upd_same,T.cl,T.nM,(by show 1<1000;decide),?_⟩
    rw[upd_upd]
    refine⟨_,rfl,p,C,dx,_,rfl,upd_same,T.cl,T.nT,(by rw[pf_nil,pf_tl n_number_made,pf_nil];show 2<1000;decide),?_⟩
    rw[upd_upd]
    have step:∀{H1:Hp} {d:Addr} {fs:List (Str×V)} {o:HO},H1 p=some (.ins C dx fs)→(∀b u,H b=some u→b≠p→H1 b=some u)→H1 d=none→(upd H1 d o) p=some (.ins C dx fs)∧(∀b u,H b=some u→b≠p→(upd H1 d o) b=some u)∧d≠p∧H d=none:=fun{H1 d fs o} e1 e2 e3=>by
      have ndp:p≠d:=ne_of_none e1 e3
      refine⟨by rw[upd_ne ndp];exact e1,fun b u e hb=>by rw[upd_ne (ne_of_none (e2 b u e hb) e3)];exact e2 b u e hb,ndp.symm,?_⟩
      cases q:H d with
      | none=>rfl
      | some u=>rw[e2 d u q ndp.symm] at e3;cases e3
    have a0:∀b u,H b=some u→b≠p→(upd H p (.ins C dx (putF "ticks" (.int 0) (putF "made" (.int 0) (putF "number" (.int n) []))))) b=some u:=fun b u e hb=>by rw[upd_ne hb];exact e
    intro d1 h1
    obtain⟨b1,b2,b3,b4⟩:=step (o:=.dT []) upd_same a0 h1
    refine⟨_,rfl,p,C,dx,_,rfl,b1,T.cl,T.nH,?_,?_⟩
    · have:=length_putF "ticks" (.int 0) (putF "made" (.int 0) (putF "number" (.int n) []))
      have:=length_putF "made" (.int 0) (putF "number" (.int n) [])
      have:=length_putF "number" (.int n) []
      simp only[List.length_nil] at *
      omega
    have c0:∀{H1:Hp} {fs:List (Str×V)},(∀b u,H b=some u→b≠p→H1 b=some u)→∀b u,H b=some u→b≠p→(upd H1 p (.ins C dx fs)) b=some u:=fun e b u e1 hb=>by rw[upd_ne hb];exact e b u e1 hb
    intro d2 h2
    obtain⟨b5,b6,b7,b8⟩:=step (o:=.dT []) upd_same (c0 b2) h2
    refine⟨_,rfl,p,C,dx,_,rfl,b5,T.cl,T.nO,?_,?_⟩
    · have:=length_putF "hand" (.ref d1) (putF "ticks" (.int 0) (putF "made" (.int 0) (putF "number" (.int n) [])))
      have:=length_putF "ticks" (.int 0) (putF "made" (.int 0) (putF "number" (.int n) []))
      have:=length_putF "made" (.int 0) (putF "number" (.int n) [])
      have:=length_putF "number" (.int n) []
      simp only[List.length_nil] at *
      omega
    intro d3 h3
    obtain⟨b9,b10,b11,b12⟩:=step (o:=.dT []) upd_same (c0 b6) h3
    refine⟨_,rfl,p,C,dx,_,rfl,b9,T.cl,T.nL,?_,?_⟩
    · have:=length_putF "outs" (.ref d2) (putF "hand" (.ref d1) (putF "ticks" (.int 0) (putF "made" (.int 0) (putF "number" (.int n) []))))
      have:=length_putF "hand" (.ref d1) (putF "ticks" (.int 0) (putF "made" (.int 0) (putF "number" (.int n) [])))
      have:=length_putF "ticks" (.int 0) (putF "made" (.int 0) (putF "number" (.int n) []))
      have:=length_putF "made" (.int 0) (putF "number" (.int n) [])
      have:=length_putF "number" (.int n) []
      simp only[List.length_nil] at *
      omega
    intro d4 h4
    obtain⟨b13,b14,b15,b16⟩:=step (o:=.dT []) upd_same (c0 b10) h4
    refine⟨_,rfl,p,C,dx,_,rfl,b13,T.cl,T.nR,?_,?_⟩
    · have:=length_putF "holds" (.ref d3) (putF "outs" (.ref d2) (putF "hand" (.ref d1) (putF "ticks" (.int 0) (putF "made" (.int 0) (putF "number" (.int n) [])))))
      have:=length_putF "outs" (.ref d2) (putF "hand" (.ref d1) (putF "ticks" (.int 0) (putF "made" (.int 0) (putF "number" (.int n) []))))
      have:=length_putF "hand" (.ref d1) (putF "ticks" (.int 0) (putF "made" (.int 0) (putF "number" (.int n) [])))
      have:=length_putF "ticks" (.int 0) (putF "made" (.int 0) (putF "number" (.int n) []))
      have:=length_putF "made" (.int 0) (putF "number" (.int n) [])
      have:=length_putF "number" (.int n) []
      simp only[List.length_nil] at *
      omega
    have n12:d1≠d2:=fun z=>by rw[←z,upd_ne b3,upd_same] at h2;cases h2
    have n13:d1≠d3:=fun z=>by rw[←z,upd_ne b3,upd_ne n12,upd_ne b3,upd_same] at h3;cases h3
    have n23:d2≠d3:=fun z=>by rw[←z,upd_ne b7,upd_same] at h3;cases h3
    have n14:d1≠d4:=fun z=>by rw[←z,upd_ne b3,upd_ne n13,upd_ne b3,upd_ne n12,upd_ne b3,upd_same] at h4;cases h4
    have n24:d2≠d4:=fun z=>by rw[←z,upd_ne b7,upd_ne n23,upd_ne b7,upd_same] at h4;cases h4
    have n34:d3≠d4:=fun z=>by rw[←z,upd_ne b11,upd_same] at h4;cases h4
    refine k d1 d2 d3 d4 _ b4 b8 b12 b16 ⟨⟨dx,?_⟩,?_,?_,?_,?_,fun q hq=>by simp at hq,?_⟩ (c0 b14)
    · rw[upd_same,←hf_all]
    · rw[upd_ne b3,upd_ne n14,upd_ne b3,upd_ne n13,upd_ne b3,upd_ne n12,upd_ne b3,upd_same];rfl
    · rw[upd_ne b7,upd_ne n24,upd_ne b7,upd_ne n23,upd_ne b7,upd_same];rfl
    · rw[upd_ne b11,upd_ne n34,upd_ne b11,upd_same];rfl
    · rw[upd_ne b15,upd_same];rfl
    · simp[foot,n12,n13,n14,n23,n24,n34]
theorem scM:FnScope ["self","thing"] ["self"] (defScope sMake):=⟨rfl,rfl,rfl,by decide +kernel,rfl,by decide +kernel,by decide +kernel⟩
theorem ok_make{f:Addr}{fd:FuncData}(F:Fun K "make" "House.make" sMake f fd)(T:Txt K mg C NHd NNr MI NW):FnOk P w K mg base CX0 1 f fd ["self"] (spMake C):=by
  refine F.ok scM (fun vs H Q E h=>?_) (fun cdv A outer s H vs Q E hr h=>?_)
  · obtain⟨p,G,rfl,_⟩:=h
    rfl
  · obtain⟨p,G,rfl,S,z1,z2,z3,f1,f2,f3,k⟩:=h
    have hu:=hu_of hr
    refine⟨_,pss_cons (ps_set (i:=1) scM.nd rfl (Or.inl rfl) (pe_tup (pa_cons (pe_fld (pv 0) rfl) (pa_cons (pe_fld (pv 0) rfl) pa_nil))))
      (pss_cons (ps_fldaug (pv 0) pe_int in_add)
      (pss_cons (ps_dput hu (pe_fld (pv 0) rfl) (pv 1) pe_int rfl)
      (pss_cons (ps_dput hu (pe_fld (pv 0) rfl) (pv 1) pe_dnewT rfl)
      (pss_cons (ps_dput hu (pe_fld (pv 0) rfl) (pv 1) pe_bl rfl)
      (pss_cons (ps_fldaug (pv 0) pe_int in_add)
      (pss_one (ps_ret (pv 1)))))))),?_⟩
    obtain⟨dx,hp⟩:=S.ob
    refine⟨_,rfl,p,C,dx,_,_,rfl,hp,T.cl,T.nN,hf_number G,_,rfl,p,C,dx,_,_,rfl,hp,T.cl,T.nM,hf_made G,(by show 2≤sizeLine;decide),fun t ht=>?_⟩
    have s1:=same_new (o:=.tup [V.int G.num,V.int G.made]) ht
    have S1:=S.same s1
    have t1:(upd H t (.tup [V.int G.num,V.int G.made])) t=some (.tup (tv (G.num,G.made))):=upd_same
    generalize upd H t (.tup [V.int G.num,V.int G.made])=H1 at s1 S1 t1
    obtain⟨dx1,hp1⟩:=S1.ob
    refine⟨_,rfl,p,C,dx1,_,_,rfl,hp1,T.cl,T.nM,hf_made G,_,_,rfl,rfl,dx1,_,hp1,hf_len G,?_⟩
    rw[hf_put_made]
    have S2:=S1.fld dx1 (G.made+1) G.ticks
    have fr2:∀b o,H1 b=some o→b≠p→(upd H1 p (.ins C dx1 (hflds { G with made:=G.made+1 }))) b=some o:=fun b o e hb=>by rw[upd_ne hb];exact e
    have tp:=S1.tup_ne t1
    have t2:=fr2 _ _ t1 tp.1
    have S2:HouseAt C (upd H1 p (.ins C dx1 (hflds { G with made:=G.made+1 }))) p { G with made:=G.made+1 }:=S2
    generalize upd H1 p (.ins C dx1 (hflds { G with made:=G.made+1 }))=H2 at S2 fr2 t2
    obtain⟨dx2,hp2⟩:=S2.ob
    refine⟨_,rfl,p,C,dx2,_,_,rfl,hp2,T.cl,T.nO,hf_outs _,_,rfl,G.o,_,rfl,DPut.t (k:=tk (G.num,G.made)) S2.dO t2 (by rw[ZA];exact small1000 (by show G.outs.length≤1000;omega)),?_⟩
    have e3:putK (G.outs.map fun(q:T2×Int)=>(tk q.1,V.int q.2)) (tk (G.num,G.made)) (V.int 0)=(G.outs++[((G.num,G.made),0)]).map fun(q:T2×Int)=>(tk q.1,V.int q.2):=by
      rw[putK_tk (k:=fun q:T2×Int=>q.1) (f:=fun q=>V.int q.2) _ f2,ZF];rfl
    have S3:=S2.setOuts (G.outs++[((G.num,G.made),0)])
    unfold dInt at S3
    rw[←e3] at S3
    have tn2:=S2.tup_ne t2
    have fr3:∀b o,H2 b=some o→b∉foot G→(upd H2 G.o (.dT (putK (G.outs.map fun(q:T2×Int)=>(tk q.1,V.int q.2)) (tk (G.num,G.made)) (V.int 0)))) b=some o:=fun b o e hb=>by rw[upd_ne (fun z=>hb (by rw[z];simp[foot]))];exact e
    have t3:=fr3 _ _ t2 tn2.2
    generalize (upd H2 G.o (.dT (putK (G.outs.map fun(q:T2×Int)=>(tk q.1,V.int q.2)) (tk (G.num,G.made)) (V.int 0))))=H3 at S3 fr3 t3
    intro a ha
    have s4:=same_new (o:=.dT []) ha
    have S4:=S3.same s4
    have a4:(upd H3 a (.dT [])) a=some (dHand []):=upd_same
    have t4:=s4 _ _ t3
    have af:a∉foot G:=fun m=>by
      obtain⟨kvs,e⟩:=S3.foot_dT (b:=a) (by have:foot { G with made:=G.made+1,outs:=G.outs++[((G.num,G.made),(0:Int))] }=foot G:=rfl;rw[this];exact m)
      rw[ha] at e;cases e
    generalize upd H3 a (.dT [])=H4 at s4 S4 a4 t4
    obtain⟨dx4,hp4⟩:=S4.ob
    refine⟨_,rfl,p,C,dx4,_,_,rfl,hp4,T.cl,T.nL,hf_holds _,_,rfl,G.l,_,rfl,DPut.t (k:=tk (G.num,G.made)) S4.dl t4 (by rw[ZA];exact small1000 (by show G.holds.length≤1000;omega)),?_⟩
    have e5:putK (G.holds.map fun(q:T2×Addr×List T2)=>(tk q.1,V.ref q.2.1)) (tk (G.num,G.made)) (V.ref a)=(G.holds++[((G.num,G.made),a,[])]).map fun(q:T2×Addr×List T2)=>(tk q.1,V.ref q.2.1):=by
      rw[putK_tk (k:=fun q:T2×Addr×List T2=>q.1) (f:=fun q=>V.ref q.2.1) _ f3,ZF];rfl
    have S5:=S4.addHold (G.num,G.made) a4 af
    unfold dRef at S5
    rw[←e5] at S5
    have fr5:∀b o,H4 b=some o→b∉foot G→(upd H4 G.l (.dT (putK (G.holds.map fun(q:T2×Addr×List T2)=>(tk q.1,V.ref q.2.1)) (tk (G.num,G.made)) (V.ref a)))) b=some o:=fun b o e hb=>by rw[upd_ne (fun z=>hb (by rw[z];simp[foot]))];exact e
    have t5:=fr5 _ _ t4 tn2.2
    generalize (upd H4 G.l (.dT (putK (G.holds.map fun(q:T2×Addr×List T2)=>(tk q.1,V.ref q.2.1)) (tk (G.num,G.made)) (V.ref a))))=H5 at S5 fr5 t5
    obtain⟨dx5,hp5⟩:=S5.ob
    refine⟨_,rfl,p,C,dx5,_,_,rfl,hp5,T.cl,T.nH,hf_hand _,_,rfl,G.h,_,rfl,DPut.t (k:=tk (G.num,G.made)) S5.dh t5 (by rw[ZA];exact small1000 (by show G.hand.length≤1000;omega)),?_⟩
    have e6:putK (G.hand.map fun(q:T2)=>(tk q,V.bl true)) (tk (G.num,G.made)) (V.bl true)=(G.hand++[(G.num,G.made)]).map fun(q:T2)=>(tk q,V.bl true):=by
      rw[putK_tk (k:=fun q:T2=>q) (f:=fun _=>V.bl true) _ f1,ZF];rfl
    have S6:=S5.setHand (G.hand++[(G.num,G.made)])
    unfold dHand at S6
    rw[←e6] at S6
    have fr6:∀b o,H5 b=some o→b∉foot G→(upd H5 G.h (.dT (putK (G.hand.map fun(q:T2)=>(tk q,V.bl true)) (tk (G.num,G.made)) (V.bl true)))) b=some o:=fun b o e hb=>by rw[upd_ne (fun z=>hb (by rw[z];simp[foot]))];exact e
    have t6:=fr6 _ _ t5 tn2.2
    generalize (upd H5 G.h (.dT (putK (G.hand.map fun(q:T2)=>(tk q,V.bl true)) (tk (G.num,G.made)) (V.bl true))))=H6 at S6 fr6 t6
    obtain⟨dx6,hp6⟩:=S6.ob
    refine⟨_,rfl,p,C,dx6,_,_,rfl,hp6,T.cl,T.nT,hf_ticks _,_,_,rfl,rfl,dx6,_,hp6,hf_len _,?_⟩
    rw[hf_put_ticks]
    have S7:=S6.fld dx6 (G.made+1) (G.ticks+1)
    have hfree:∀{b:Addr},H1 b=none→H b=none:=fun{b} e=>same_free s1 e
    have fr7:HFr p G H (upd H6 p (.ins C dx6 (hflds { G with made:=G.made+1,ticks:=G.ticks+1,outs:=G.outs++[((G.num,G.made),0)],holds:=G.holds++[((G.num,G.made),a,[])],hand:=G.hand++[(G.num,G.made)] }))):=fun b o e hb hf=>by
      rw[upd_ne hb]
      exact fr6 _ _ (fr5 _ _ (s4 _ _ (fr3 _ _ (fr2 _ _ (s1 _ _ e) hb) hf)) hf) hf
    refine⟨_,rfl,k t a _ ht ?_ (by rw[upd_ne tp.1];exact t6) S7 fr7⟩
    cases q:H a with
    | none=>rfl
    | some u =>
      exfalso
      have nap:a≠p:=fun z=>by rw[z,S3.ob.choose_spec] at ha;cases ha
      have:H3 a=some u:=fr3 _ _ (fr2 _ _ (s1 _ _ q) nap) af
      rw[ha] at this;cases this
end
end K53
namespace K53
open PySem L2 FX
set_option linter.all false
theorem has3{a b c:Str}{k:NameKind}{cl:List (Str×Addr)}{y:Str}(hc:∃z,cl.lookup c=some z)(h:([(a,NameKind.local),(b,NameKind.local),(c,k)]:List (Str×NameKind)).lookup y=some .cell∨([(a,NameKind.local),(b,NameKind.local),(c,k)]:List (Str×NameKind)).lookup y=some .free):∃z,cl.lookup y=some z:=by
  by_cases e3:y=c
  · rw[e3];exact hc
  · exfalso
    have q3:(y==c)=false:=beq_eq_false_iff_ne.mpr e3
    by_cases e1:y=a
    · have q1:(y==a)=true:=by rw[e1];exact beq_self_eq_true a
      simp only[List.lookup_cons,q1] at h
      rcases h with h|h<;>cases h
    · have q1:(y==a)=false:=beq_eq_false_iff_ne.mpr e1
      by_cases e2:y=b
      · have q2:(y==b)=true:=by rw[e2];exact beq_self_eq_true b
        simp only[List.lookup_cons,q1,q2] at h
        rcases h with h|h<;>cases h
      · have q2:(y==b)=false:=beq_eq_false_iff_ne.mpr e2
        simp only[List.lookup_cons,q1,q2,q3,List.lookup_nil] at h
        rcases h with h|h<;>cases h
theorem recs_rep{K:PySem.W.Frag}{H:Hp}:∀{as:List Addr} {rs:List (T2×Int)},Paired (RecAt H) as rs→Paired (RepT K H) (as.map V.ref) (rs.map recD)
  | _,_,.nil=>.nil
  | _,_,.cons ⟨ka,e1,e2⟩ t=>.cons (.tupP (SqT.of e1) (.cons (th_rep e2) (.cons (.int _) .nil))) (recs_rep t)
theorem recs_same{H H':Hp}(s:Same H H'){as:List Addr}{rs:List (T2×Int)}(x:Paired (RecAt H) as rs):Paired (RecAt H') as rs:=paired_mono (fun _ _ ⟨ka,e1,e2⟩=>⟨ka,s _ _ e1,s _ _ e2⟩) x
section
variable {P:Program}{w:World}{K:PySem.W.Frag}{mg:Str→Option Value}{base:Heap}{C NHd NNr MI NW:Addr}
theorem scTo:FnScope ["self","thing"] ["self","thing"] (defScope sTold):=⟨rfl,rfl,rfl,by decide +kernel,rfl,by decide +kernel,by decide +kernel⟩
theorem map_fst_pair{α β:Type}(f:α→β)(l:List α):(l.map fun t=>(t,f t)).map (·.1)=l:=by
  rw[List.map_map];exact List.map_id' l
theorem ok_told{f:Addr}{fd:FuncData}(F:Fun K "told" "House.told" sTold f fd)(T:Txt K mg C NHd NNr MI NW):FnOk P w K mg base CX0 1 f fd ["self","thing"] (spTold C K):=by
  refine F.ok scTo (fun vs H Q E h=>?_) (fun cdv A outer s H vs Q E hr h=>?_)
  · obtain⟨p,t,G,th,w,a,hl,hs,rfl,_⟩:=h
    rfl
  · obtain⟨p,t,G,th,wt,a,hl,hs,rfl,S,ht,f1,f2,h64,pm,pw,k⟩:=h
    have hu:=hu_of hr
    obtain⟨dx,hp⟩:=S.ob
    have g1:DGet H G.o (.ref t) (some (V.int wt)):=by
      have:=DGet.t (k:=tk th) S.dO ht
      rw[valV_tk (k:=fun q:T2×Int=>q.1) (f:=fun q=>V.int q.2),f1] at this
      exact this
    have g2:DGet H G.l (.ref t) (some (V.ref a)):=by
      have:=DGet.t (k:=tk th) S.dl ht
      rw[valV_tk (k:=fun q:T2×Addr×List T2=>q.1) (f:=fun q=>V.ref q.2.1),f2] at this
      exact this
    have g3:H a=some (dHand hl):=S.hl _ (List.mem_of_find?_eq_some f2)
    refine⟨_,pss_one (ps_ret (pe_tup (pa_cons (pv 1) (pa_cons (pe_dget hu (pe_fld (pv 0) rfl) (pv 1) (fun _ _=>rfl)) (pa_cons (pe_callTy call_tuple_of (by rfl) T.tuple PyProof.Rows.boot_tuple (pa_cons (pe_callB (call_sorted_things rfl) (by rfl) T.sorted PyProof.Rows.boot_sorted (pa_cons (pe_dget hu (pe_fld (pv 0) rfl) (pv 1) (fun _ _=>rfl)) pa_nil)) pa_nil)) pa_nil))))),?_⟩
    refine⟨_,rfl,_,rfl,p,C,dx,_,_,rfl,hp,T.cl,T.nO,hf_outs G,_,rfl,G.o,_,rfl,g1,_,rfl,p,C,dx,_,_,rfl,hp,T.cl,T.nL,hf_holds G,_,rfl,G.l,_,rfl,g2,a,_,hs,rfl,hand_rd g3,(by rw[ZA];exact h64),(by rw[map_fst_pair];exact pm),pw,fun r as hr ha=>?_⟩
    refine⟨r,_,rfl,.inl ⟨SqL.of upd_same,fun x2 hx2=>⟨(by show 3≤sizeLine;decide),fun x hx=>?_⟩⟩⟩
    have s1:=same_new (o:=.lst (as.map V.ref)) hr
    have s2:=same_new (o:=.tup (as.map V.ref)) hx2
    have s3:=same_new (o:=.tup [V.ref t,V.int wt,V.ref x2]) hx
    have ss:=same_trans s1 (same_trans s2 s3)
    refine k x _ ss ?_
    refine .tupP (SqT.of upd_same) (.cons (th_rep (ss _ _ ht)) (.cons (.int _) (.cons (.tupP (SqT.of (s3 _ _ upd_same)) (ths_rep (paired_mono (fun _ _ e=>ss _ _ e) ha))) .nil)))
theorem scS:FnScope ["self","hand","things","records"] ["self"] (defScope sState):=⟨rfl,rfl,rfl,by decide +kernel,rfl,by decide +kernel,by decide +kernel⟩
theorem ok_state{f fT:Addr}{fd fdT:FuncData}(F:Fun K "state" "House.state" sState f fd)(T:Txt K mg C NHd NNr MI NW)(FT:Fun K "told" "House.told" sTold fT fdT)(bT:Binds K fdT ["self","thing"] [])(mT:Meth K C "told" fT) :
    FnOk P w K mg base CX0 2 f fd ["self"] (spState C K):=by
  have GT:FnOk P w K mg base CX0 1 fT fdT ["self","thing"] (spTold C K):=ok_told FT T
  refine F.ok scS (fun vs H Q E h=>?_) (fun cdv A outer s H vs Q E hr h=>?_)
  · obtain⟨p,G,hs,os,rs,rfl,_⟩:=h
    rfl
  · obtain⟨p,G,hs,os,rs,rfl,S,z1,z2,z3,pm,pw,R,pmr,pwr,k⟩:=h
    have hr1:Room 1 _:=hr.mono (by decide)
    obtain⟨dx,hp⟩:=S.ob
    refine⟨_,pss_cons (ps_set (i:=1) scS.nd rfl (Or.inl rfl) (pe_callTy call_tuple_of (by rfl) T.tuple PyProof.Rows.boot_tuple (pa_cons (pe_callB (call_sorted_things rfl) (by rfl) T.sorted PyProof.Rows.boot_sorted (pa_cons (pe_fld (pv 0) rfl) pa_nil)) pa_nil)))
      (pss_cons (ps_set (i:=2) scS.nd rfl (Or.inl rfl) (pe_callTy call_tuple_of (by rfl) T.tuple PyProof.Rows.boot_tuple (pa_cons (pe_comp (caps:=[("self",0)]) rfl (pi_list (pe_callB (call_sorted_things rfl) (by rfl) T.sorted PyProof.Rows.boot_sorted (pa_cons (pe_fld (pv 0) rfl) pa_nil)))
          rfl (by decide +kernel) rfl (by decide +kernel) rfl ⟨rfl,trivial⟩ (fun y h=>has3 ⟨_,rfl⟩ h) ⟨⟨rfl,rfl,rfl,rfl⟩,trivial⟩ (by decide +kernel) (fun _ _ _ _ _=>pts_nil)
          (fun _ _ _ _ _=>pe_meth (pv 1) T.cl mT GT hr1 bT .nil pass0 (pa_cons (pv 0) pa_nil))) pa_nil)))
      (pss_cons (ps_set (i:=3) scS.nd rfl (Or.inl rfl) (pe_callTy call_tuple_of (by rfl) T.tuple PyProof.Rows.boot_tuple (pa_cons (pe_callB (call_sorted_items rfl (hu64 hr)) (by rfl) T.sorted PyProof.Rows.boot_sorted (pa_cons (pe_bm0 PySem.F.plainAttrs_dict PySem.F.slot_dict_items PySem.F.type_dict_items mt_items (pe_fld (pv 0) rfl)) pa_nil)) pa_nil)))
      (pss_one (ps_ret (pe_tup (pa_cons (pv 1) (pa_cons (pv 2) (pa_cons (pv 3) pa_nil)))))))),?_⟩
    refine⟨_,rfl,p,C,dx,_,_,rfl,hp,T.cl,T.nH,hf_hand G,G.h,_,hs,rfl,hand_rd S.dh,(by rw[ZA];exact z1),(by rw[map_fst_pair];exact pm),pw,fun r1 as1 hr1' ha1=>⟨r1,_,rfl,.inl ⟨SqL.of upd_same,fun x1 hx1=>?_⟩⟩⟩
    have s1:=same_new (o:=.lst (as1.map V.ref)) hr1'
    have s2:=same_new (o:=.tup (as1.map V.ref)) hx1
    have ss1:=same_trans s1 s2
    have S1:=S.same ss1
    have q1:(upd (upd H r1 (.lst (as1.map V.ref))) x1 (.tup (as1.map V.ref))) x1=some (.tup (as1.map V.ref)):=upd_same
    have ha1':ThsAt (upd (upd H r1 (.lst (as1.map V.ref))) x1 (.tup (as1.map V.ref))) as1 hs:=paired_mono (fun _ _ e=>ss1 _ _ e) ha1
    generalize upd (upd H r1 (.lst (as1.map V.ref))) x1 (.tup (as1.map V.ref))=H1 at ss1 S1 q1 ha1'
    obtain⟨dx1,hp1⟩:=S1.ob
    have e0:((G.outs.map fun q=>(q.1,V.int q.2)).map (·.1))=G.outs.map (·.1):=by rw[List.map_map];rfl
    refine⟨_,rfl,p,C,dx1,_,_,rfl,hp1,T.cl,T.nO,hf_outs G,G.o,_,os.map (·.1),rfl,int_rd S1.dO,(by rw[ZA];exact z2),(by rw[e0];exact R.pm),R.pw,fun r2 as2 hr2 ha2=>⟨r2,rfl,⟨_,SqL.of upd_same⟩,fun q hq=>?_⟩⟩
    have s3:=same_new (o:=.lst (as2.map V.ref)) hr2
    have er2:(upd H1 r2 (.lst (as2.map V.ref))) r2=some (.lst (as2.map V.ref)):=upd_same
    have S2:=S1.same s3
    have ss2:=same_trans ss1 s3
    have ha2':ThsAt (upd H1 r2 (.lst (as2.map V.ref))) as2 (os.map (·.1)):=paired_mono (fun _ _ e=>s3 _ _ e) ha2
    have ha1b:ThsAt (upd H1 r2 (.lst (as2.map V.ref))) as1 hs:=paired_mono (fun _ _ e=>s3 _ _ e) ha1'
    have q1b:=s3 _ _ q1
    generalize upd H1 r2 (.lst (as2.map V.ref))=H2 at s3 er2 S2 ss2 ha2' ha1b q1b hq
    have hlen:as2.length=os.length:=by have:=Paired.length ha2;rw[ZA] at this;exact this
    have hos:os.length<64:=by
      have h1:=R.pm.length_eq
      rw[ZA,ZA] at h1
      omega
    refine comp_list (K:=K) (a:=r2) (xs:=as2.map V.ref) (tt:=fun _ H Q=>Q true H) (te:=tMeth C "told" (spTold C K) [] E0 (tVar 1) (tCons (tVar 0) tNil)) (caps:=[("self",0)]) (σ:=[some (.ref p),some (.ref x1),none,none]) (fun i ys H3=>H3 q=some (.lst ys)∧Same H2 H3∧Paired (RepT K H3) ys ((os.take i).map rowD)) ⟨upd_same,same_new hq,by rw[List.take_zero];exact .nil⟩ (fun i ys H3 _ h=>⟨SqL.of (h.2.1 _ _ er2),h.1⟩) ?_ ?_
    · rintro i x ys H3 N hx ⟨e3,s4,pr⟩ hN
      refine iteT ?_
      rw[ZH] at hx
      cases hai:as2[i]? with
      | none=>rw[hai] at hx;cases hx
      | some ai =>
        rw[hai] at hx
        cases hx
        have hio:i<os.length:=by rw[←hlen];exact(ZJ hai).1
        obtain⟨qo,hqo⟩:=get_of_lt hio
        have eth:=paired_get ha2' i ai qo.1 hai (by rw[ZH,hqo];rfl)
        obtain⟨f1,a,hl,f2,f3,f4,f5⟩:=R.at_ qo (ZP hqo)
        have S3:=S2.same s4
        obtain⟨dx3,hp3⟩:=S3.ob
        refine⟨_,rfl,p,dx3,_,rfl,hp3,hf_no G (by decide +kernel),_,rfl,p,ai,G,qo.1,qo.2.1,a,hl,qo.2.2,rfl,S3,s4 _ _ eth,f1,f2,f3,f4,f5,fun x2 H5 s5 rep=>⟨s5 _ _ e3,?_,hN _ _ ⟨upd_same,fun b o e=>?_,?_⟩⟩⟩
        · have:=Paired.length pr
          rw[this,ZA]
          exact small1000 (Nat.le_trans (List.length_take_le _ _) (by omega))
        · have nb:b≠q:=ne_of_none e hq
          rw[upd_ne nb];exact s5 _ _ (s4 _ _ e)
        · have kq:KeepT H5 (upd H5 q (.lst (ys++[V.ref x2]))):=KeepT.upd fun o' e=>by
            rw[s5 _ _ e3] at e;cases e;exact⟨fun _ z=>(by cases z),fun _ _ z=>(by cases z)⟩
          have et:(os.take (i+1)).map rowD=(os.take i).map rowD++[rowD qo]:=by
            rw[List.take_add_one,hqo,ZF];rfl
          rw[et]
          exact paired_snoc (rep.keep kq) (paired_mono (fun _ _ r=>(r.keep (KeepT.of_same s5)).keep kq) pr)
    · rintro ys H3 ⟨e3,s4,pr⟩
      rw[ZA,hlen,List.take_length] at pr
      refine⟨q,_,rfl,.inl ⟨SqL.of e3,fun x2 hx2=>?_⟩⟩
      have s5:=same_new (o:=.tup ys) hx2
      have ss3:=same_trans ss2 (same_trans s4 s5)
      have S4:=(S2.same s4).same s5
      have q2:(upd H3 x2 (.tup ys)) x2=some (.tup ys):=upd_same
      have q1c:=s5 _ _ (s4 _ _ q1b)
      have ha1c:ThsAt (upd H3 x2 (.tup ys)) as1 hs:=paired_mono (fun _ _ e=>s5 _ _ (s4 _ _ e)) ha1b
      have pr':Paired (RepT K (upd H3 x2 (.tup ys))) ys (os.map rowD):=paired_mono (fun _ _ r=>r.keep (KeepT.of_same s5)) pr
      generalize upd H3 x2 (.tup ys)=H4 at s5 ss3 S4 q2 q1c ha1c pr'
      obtain⟨dx4,hp4⟩:=S4.ob
      have dr4:=S4.dr
      refine⟨_,rfl,p,C,dx4,_,_,rfl,hp4,T.cl,T.nR,hf_records G,(.inr (.inr (.inl ⟨rfl,.inr ⟨_,dr4⟩⟩))),G.r,_,rfl,rfl,dr4,fun v hv=>?_⟩
      have s6:=same_new (o:=itemsO v G.r) hv
      refine⟨v,G.r,G.recs,rs,rfl,upd_same,s6 _ _ dr4,z3,pmr,pwr,fun r3 as3 H7 s7 hr3 e7 pr7=>⟨r3,_,rfl,.inl ⟨SqL.of e7,fun x3 hx3=>?_⟩⟩⟩
      have s8:=same_new (o:=.tup (as3.map V.ref)) hx3
      refine⟨_,rfl,_,rfl,_,rfl,(by show 3≤sizeLine;decide),fun x hx=>?_⟩
      have s9:=same_new (o:=.tup [V.ref x1,V.ref x2,V.ref x3]) hx
      have ss4:=same_trans s6 (same_trans s7 (same_trans s8 s9))
      refine k x _ (same_trans ss3 ss4) ⟨_,upd_same⟩ ?_
      refine .tupP (SqT.of upd_same) (.cons (.tupP (SqT.of (ss4 _ _ q1c)) (ths_rep (paired_mono (fun _ _ e=>ss4 _ _ e) ha1c))) (.cons (.tupP (SqT.of (ss4 _ _ q2)) (paired_mono (fun _ _ r=>r.keep (KeepT.of_same ss4)) pr')) (.cons (.tupP (SqT.of (s9 _ _ upd_same)) (recs_rep (recs_same (same_trans s8 s9) pr7))) .nil)))
end
end K53
namespace K53
open PySem L2 FX
set_option linter.all false
section
variable {P:Program}{w:World}{K:PySem.W.Frag}{mg:Str→Option Value}{base:Heap}{C NHd NNr MI NW:Addr}
theorem scCe:FnScope ["_law_script","_law_k","_law_number_here"] ["_law_script","_law_k"] (defScope sCell):=⟨rfl,rfl,rfl,by decide +kernel,rfl,by decide +kernel,by decide +kernel⟩
def spCell(K:PySem.W.Frag):Sp:=fun vs H Q _=>∃(a:Addr)(ns:List Int)(k:Int),vs=[.ref a,.int k]∧SqL K H a (ns.map V.int)∧ns.length≤63∧0≤k∧k≤1000∧∀v:Int,Q (.int v) H
theorem ok_cell{f:Addr}{fd:FuncData}(F:Fun K "_law_cell" "_law_cell" sCell f fd)(hn:mg "len"=none):FnOk P w K mg base CX0 1 f fd ["_law_script","_law_k"] (spCell K):=by
  refine F.ok scCe (fun vs H Q E h=>?_) (fun cdv A outer s H vs Q E hr h=>?_)
  · obtain⟨a,ns,k,rfl,_⟩:=h
    rfl
  · obtain⟨a,ns,k,rfl,hS,hl,h0,h100,kk⟩:=h
    have hlen:(ns.map V.int).length=ns.length:=ZA ..
    have item:∀i:Int,0≤i→i<ns.length→∃v,atI (ns.map V.int) i=some (.int v):=fun i a b=>by
      obtain⟨x,hx⟩:=get_of_lt (xs:=ns) (j:=i.toNat) (by omega)
      exact⟨x,atI_at a (by rw[ZH,hx];rfl)⟩
    refine⟨_,pss_cons (ps_if (pt_cmpR op_lt (pv 1) (pe_callB call_len_seq (by rfl) hn PySem.boot_len (pa_cons (pv 0) pa_nil)) (nomark _)) (pss_one (ps_ret (pe_ix ix_list (pv 0) (pv 1) (fun _ _=>rfl)))) pss_nil)
      (pss_cons (ps_set (i:=2) scCe.nd rfl (Or.inl rfl) (pe_op op_add (pe_op op_mul (pv 1) pe_int) pe_int))
      (pss_cons (ps_if (pt_cmpR op_gt (pe_callB call_len_seq (by rfl) hn PySem.boot_len (pa_cons (pv 0) pa_nil)) pe_int (nomark _))
        (pss_one (ps_set (i:=2) scCe.nd rfl (Or.inl rfl) (pe_op op_mod (pe_op op_add (pe_op op_mul (pe_ix ix_list (pv 0) (pe_op op_mod (pe_op op_mul (pv 1) pe_int) (pe_callB call_len_seq (by rfl) hn PySem.boot_len (pa_cons (pv 0) pa_nil))) (fun _ _=>rfl)) pe_int) (pe_op op_mul (pv 1) pe_int)) pe_int))) pss_nil)
      (pss_one (ps_ret (pe_op op_mod (pe_op op_mul (pv 2) (pv 2)) pe_int))))),?_⟩
    refine⟨_,rfl,_,rfl,a,_,rfl,.inl hS,_,_,rfl,rfl,_,rfl,?_⟩
    refine ite2 (fun c1=>?_) (fun _=>?_)
    · have c1:=of_decide_eq_true c1
      obtain⟨v,hv⟩:=item k h0 (by rw[hlen] at c1;exact c1)
      exact⟨_,rfl,_,rfl,a,_,_,_,rfl,rfl,hS,hv,kk v⟩
    · refine⟨_,rfl,_,_,rfl,rfl,.inr ⟨by decide,by decide⟩,_,_,rfl,rfl,?_⟩
      refine⟨_,rfl,a,_,rfl,.inl hS,_,_,rfl,rfl,_,rfl,?_⟩
      refine ite2 (fun c2=>?_) (fun _=>?_)
      · have c2:=of_decide_eq_true c2
        have hpos:(0:Int)<(ns.length:Int):=by rw[hlen] at c2;exact c2
        obtain⟨v,hv⟩:=item (k*7 % (ns.length:Int)) (Int.emod_nonneg _ (by omega)) (Int.emod_lt_of_pos _ hpos)
        refine⟨_,rfl,_,rfl,_,_,rfl,rfl,.inr ⟨by decide,by decide⟩,_,rfl,a,_,rfl,.inl hS,_,_,rfl,rfl,(by rw[hlen];exact hpos),a,_,_,_,rfl,rfl,hS,(by rw[hlen];exact hv),_,_,rfl,rfl,.inr ⟨by decide,by decide⟩,
          _,rfl,_,_,rfl,rfl,.inr ⟨by decide,by decide⟩,_,_,rfl,rfl,_,_,rfl,rfl,(show(0:Int)<2147483647 by decide),?_⟩
        refine⟨_,rfl,_,rfl,_,_,rfl,rfl,.inl ⟨?_,?_⟩,_,_,rfl,rfl,(show(0:Int)<2147483629 by decide),kk _⟩
        · have:=Int.emod_nonneg (v*48271+k*7919) (show(2147483647:Int)≠0 by decide)
          omega
        · have:=Int.emod_lt_of_pos (v*48271+k*7919) (show(0:Int)<2147483647 by decide)
          omega
      · exact⟨_,rfl,_,rfl,_,_,rfl,rfl,.inl ⟨by omega,by omega⟩,_,_,rfl,rfl,(show(0:Int)<2147483629 by decide),kk _⟩
end
end K53
namespace K53
open PySem L2 FX
set_option linter.all false
abbrev sSpent:Stmt:=inClass (top 15) 17
abbrev sIInit:Stmt:=inClass (top 20) 0
abbrev sPInit:Stmt:=inClass (top 22) 0
abbrev sPPut:Stmt:=inClass (top 22) 1
abbrev sPLetters:Stmt:=inClass (top 22) 2
abbrev sPTaken:Stmt:=inClass (top 22) 3
abbrev sWInit:Stmt:=inClass (top 24) 0
abbrev sWMake:Stmt:=inClass (top 24) 1
abbrev sWHold:Stmt:=inClass (top 24) 2
abbrev sWDrop:Stmt:=inClass (top 24) 3
abbrev sWTake:Stmt:=inClass (top 24) 4
abbrev sWFree:Stmt:=inClass (top 24) 5
abbrev sWSend:Stmt:=inClass (top 24) 6
abbrev sWClean:Stmt:=inClass (top 24) 7
abbrev sWAsk:Stmt:=inClass (top 24) 8
abbrev sWDeliver:Stmt:=inClass (top 24) 9
abbrev sWState:Stmt:=inClass (top 24) 10
abbrev sWTick:Stmt:=inClass (top 24) 11
abbrev sWLetters:Stmt:=inClass (top 24) 12
abbrev sWInquiry:Stmt:=inClass (top 24) 13
abbrev sWHouse:Stmt:=inClass (top 24) 14
abbrev sWWeight:Stmt:=inClass (top 24) 15
abbrev sWAskAll:Stmt:=inClass (top 24) 20
structure TxtP(K:PySem.W.Frag)(mg:Str→Option Value)(C NL:Addr):Prop where
  cl:Cls K C
  nL:NoAttr K C "latest"
  nW:NoAttr K C "waiting"
  mgC:mg "Post"=some (.ref C)
  cNL:XCls K mg "NoLetter" NL
  list:mg "list"=none
def spPInit(C:Addr):Sp:=fun vs H Q _=>∃(p dx:Addr),vs=[.ref p]∧H p=some (.ins C dx [])∧∀(d:Addr)(H':Hp),H d=none→PostAt C H' p d 0 []→(∀b o,H b=some o→b≠p→H' b=some o)→Q .non H'
def spPPut(C:Addr):Sp:=fun vs H Q _=>∃(p d:Addr)(c:Int)(ls:List (Int×Addr))(k s g a:V),vs=[.ref p,k,s,g,a]∧PostAt C H p d c ls∧ls.length≤500 ∧
  ∀(t:Addr)(H':Hp),H t=none→H' t=some (.tup [.int (c+1),k,s,g,a])→PostAt C H' p d (c+1) (ls++[(c+1,t)])→(∀b o,H b=some o→b≠p→b≠d→H' b=some o)→Q (.int (c+1)) H'
def spPLetters(C:Addr):Sp:=fun vs H Q _=>∃(p d:Addr)(c:Int)(ls:List (Int×Addr)),vs=[.ref p]∧PostAt C H p d c ls ∧
  ∀(l:Addr)(H':Hp),H l=none→H' l=some (.lst (ls.map fun x=>V.ref x.2))→Same H H'→Q (.ref l) H'
def spPTaken(C NL:Addr):Sp:=fun vs H Q E=>∃(p d:Addr)(c:Int)(ls:List (Int×Addr))(n:Int),vs=[.ref p,.int n]∧PostAt C H p d c ls ∧
  ((∃(l1 l2:List (Int×Addr))(t:Addr),ls=l1++(n,t)::l2∧∀(H':Hp),PostAt C H' p d c (l1++l2)→(∀b o,H b=some o→b≠d→H' b=some o)→Q (.ref t) H')∨((∀l∈ls,l.1≠n)∧E (.ref NL) none H))
section
variable {P:Program}{w:World}{K:PySem.W.Frag}{mg:Str→Option Value}{base:Heap}
theorem scPI:FnScope ["self"] ["self"] (defScope sPInit):=⟨rfl,rfl,rfl,by decide +kernel,rfl,by decide +kernel,by decide +kernel⟩
theorem ok_pinit{f C NL:Addr}{fd:FuncData}(F:Fun K "__init__" "Post.__init__" sPInit f fd)(T:TxtP K mg C NL):FnOk P w K mg base CX0 1 f fd ["self"] (spPInit C):=by
  refine F.ok scPI (fun vs H Q E h=>?_) (fun cdv A outer s H vs Q E hr h=>?_)
  · obtain⟨p,dx,rfl,_⟩:=h
    rfl
  · obtain⟨p,dx,rfl,hp,k⟩:=h
    refine⟨_,pss_cons (ps_fld (pv 0) pe_int rfl) (pss_one (ps_fld (pv 0) pe_dnewK rfl)),?_⟩
    refine⟨_,rfl,p,C,dx,[],rfl,hp,T.cl,T.nL,(by show 0<1000;decide),?_⟩
    intro d hd
    have hpd:p≠d:=fun z=>by rw[←z,upd_same] at hd;cases hd
    have hd':H d=none:=by rw[upd_ne (Ne.symm hpd)] at hd;exact hd
    refine⟨_,rfl,p,C,dx,_,rfl,(by rw[upd_ne hpd];exact upd_same),T.cl,T.nW,(by show 1<1000;decide),?_⟩
    refine k d _ hd' ⟨⟨dx,upd_same⟩,by rw[upd_ne (Ne.symm hpd),upd_same];rfl,fun l hl=>by simp at hl,List.nodup_nil⟩ fun b o e hb=>?_
    rw[upd_ne hb,upd_ne (ne_of_none e hd'),upd_ne hb]
    exact e
theorem scPP:FnScope ["self","kind","sender","goal","about"] ["self","kind","sender","goal","about"] (defScope sPPut):=⟨rfl,rfl,rfl,by decide +kernel,rfl,by decide +kernel,by decide +kernel⟩
theorem ok_pput{f C NL:Addr}{fd:FuncData}(F:Fun K "put" "Post.put" sPPut f fd)(T:TxtP K mg C NL):FnOk P w K mg base CX0 1 f fd ["self","kind","sender","goal","about"] (spPPut C):=by
  refine F.ok scPP (fun vs H Q E h=>?_) (fun cdv A outer s H vs Q E hr h=>?_)
  · obtain⟨p,d,c,ls,k,s,g,a,rfl,_⟩:=h
    rfl
  · obtain⟨p,d,c,ls,kk,ss,gg,aa,rfl,S,hl,k⟩:=h
    have hu:=hu_of hr
    obtain⟨⟨dx,h1⟩,hd,le,nd⟩:=id S
    have npd:p≠d:=S.ne
    refine⟨_,pss_cons (ps_fldaug (pv 0) pe_int in_add)
      (pss_cons (ps_dput hu (pe_fld (pv 0) rfl) (pe_fld (pv 0) rfl) (pe_tup (pa_cons (pe_fld (pv 0) rfl) (pa_cons (pv 1) (pa_cons (pv 2) (pa_cons (pv 3) (pa_cons (pv 4) pa_nil)))))) rfl)
      (pss_one (ps_ret (pe_fld (pv 0) rfl)))),?_⟩
    refine⟨_,rfl,p,C,dx,_,_,rfl,h1,T.cl,T.nL,pflds_latest _ _,_,_,rfl,rfl,dx,_,h1,(by rw[pflds_eq];show 2<1000;decide),?_⟩
    rw[pflds_put]
    have h2:(upd H p (.ins C dx (pflds (c+1) d))) p=some (.ins C dx (pflds (c+1) d)):=upd_same
    have d2:(upd H p (.ins C dx (pflds (c+1) d))) d=some (.dK (kvsOf ls)):=by rw[upd_ne npd.symm];exact hd
    refine⟨_,rfl,p,C,dx,_,_,rfl,h2,T.cl,T.nL,pflds_latest _ _,_,rfl,_,rfl,_,rfl,_,rfl,(by show 5≤sizeLine;decide),?_⟩
    intro t ht
    have npt:p≠t:=ne_of_none h2 ht
    have ndt:d≠t:=ne_of_none d2 ht
    have ht':H t=none:=by rw[upd_ne npt.symm] at ht;exact ht
    have h3:∀o,(upd (upd H p (.ins C dx (pflds (c+1) d))) t o) p=some (.ins C dx (pflds (c+1) d)):=fun o=>by rw[upd_ne npt];exact h2
    have d3:∀o,(upd (upd H p (.ins C dx (pflds (c+1) d))) t o) d=some (.dK (kvsOf ls)):=fun o=>by rw[upd_ne ndt];exact d2
    refine⟨_,rfl,p,C,dx,_,_,rfl,h3 _,T.cl,T.nW,pflds_waiting _ _,_,rfl,p,C,dx,_,_,rfl,h3 _,T.cl,T.nL,pflds_latest _ _,d,_,rfl,DPut.k (k:=Sum.inl (c+1)) (d3 _) (by rw[kvs_len];exact small1000 (by omega)),?_⟩
    have hnew:valV (kvsOf ls) (Sum.inl (c+1):Key)=none:=by
      rw[kvs_val,List.find?_eq_none.mpr fun l hl=>by have:=le l hl;simp;omega]
      rfl
    have eput:putK (kvsOf ls) (Sum.inl (c+1):Key) (V.ref t)=kvsOf (ls++[(c+1,t)]):=by
      rw[putK_new _ hnew]
      unfold kvsOf
      rw[ZF]
      rfl
    rw[eput]
    refine⟨_,rfl,p,C,dx,_,_,rfl,(by rw[upd_ne npd];exact h3 _),T.cl,T.nL,pflds_latest _ _,?_⟩
    refine k t _ ht' (by rw[upd_ne ndt.symm,upd_same]) ⟨⟨dx,by rw[upd_ne npd];exact h3 _⟩,upd_same,fun l hl=>?_,?_⟩ fun b o e hp hb=>?_
    · rcases ZI hl with hl|hl
      · have:=le l hl;omega
      · have e:l=(c+1,t):=by simpa using hl
        rw[e]
        exact Int.le_refl _
    · rw[ZF]
      refine nd_snoc nd fun m=>?_
      obtain⟨l,hl,e⟩:=ZN m
      have:=le l hl
      have e':l.1=c+1:=e
      omega
    · rw[upd_ne hb,upd_ne (ne_of_none e ht'),upd_ne hp]
      exact e
theorem scPL:FnScope ["self"] ["self"] (defScope sPLetters):=⟨rfl,rfl,rfl,by decide +kernel,rfl,by decide +kernel,by decide +kernel⟩
theorem ok_pletters{f C NL:Addr}{fd:FuncData}(F:Fun K "letters" "Post.letters" sPLetters f fd)(T:TxtP K mg C NL):FnOk P w K mg base CX0 1 f fd ["self"] (spPLetters C):=by
  refine F.ok scPL (fun vs H Q E h=>?_) (fun cdv A outer s H vs Q E hr h=>?_)
  · obtain⟨p,d,c,ls,rfl,_⟩:=h
    rfl
  · obtain⟨p,d,c,ls,rfl,S,k⟩:=h
    obtain⟨⟨dx,h1⟩,hd,le,nd⟩:=id S
    refine⟨_,pss_one (ps_ret (pe_callTy (call_list_values rfl) (by rfl) T.list PyProof.Rows.boot_list (pa_cons (pe_bm0 PySem.F.plainAttrs_dict PySem.F.slot_dict_values PySem.F.type_dict_values mt_values (pe_fld (pv 0) rfl)) pa_nil))),?_⟩
    refine⟨_,rfl,p,C,dx,_,_,rfl,h1,T.cl,T.nW,pflds_waiting _ _,(.inr (.inr (.inl ⟨rfl,.inl ⟨_,hd⟩⟩))),d,_,rfl,rfl,hd,fun v hv=>?_⟩
    have ndv:d≠v:=ne_of_none hd hv
    refine⟨v,d,_,rfl,upd_same,by rw[upd_ne ndv];exact hd,fun l hl=>?_⟩
    have nvl:l≠v:=fun z=>by rw[z,upd_same] at hl;cases hl
    have hl':H l=none:=by rw[upd_ne nvl] at hl;exact hl
    refine k l _ hl' (by rw[upd_same];unfold kvsOf;rw[List.map_map];rfl) fun b o e=>?_
    rw[upd_ne (ne_of_none e hl'),upd_ne (ne_of_none e hv)]
    exact e
theorem scPT:FnScope ["self","n"] ["self","n"] (defScope sPTaken):=⟨rfl,rfl,rfl,by decide +kernel,rfl,by decide +kernel,by decide +kernel⟩
theorem ok_ptaken{f C NL:Addr}{fd:FuncData}(F:Fun K "taken" "Post.taken" sPTaken f fd)(T:TxtP K mg C NL):FnOk P w K mg base (CX1 P w) 1 f fd ["self","n"] (spPTaken C NL):=by
  refine ok1 F scPT (fun vs H Q E h=>?_) (fun cdv A outer s H vs Q E hr h=>?_)
  · obtain⟨p,d,c,ls,n,rfl,_⟩:=h
    rfl
  · obtain⟨p,d,c,ls,n,rfl,S,k⟩:=h
    have hu:=hu_of hr
    obtain⟨⟨dx,h1⟩,hd,le,nd⟩:=id S
    have npd:p≠d:=S.ne
    refine⟨_,pss_cons (ps_if (pt_cmp (pc_dnotin hu (pv 1) (pe_fld (pv 0) rfl))) (pss_one (ps_raise rfl rfl T.cNL raises1)) pss_nil)
      (pss_one (ps_ret (pe_dpop1 (pe_fld (pv 0) rfl) (pv 1) ⟨rfl,rfl,rfl,rfl⟩))),?_⟩
    refine⟨_,rfl,_,rfl,p,C,dx,_,_,rfl,h1,T.cl,T.nW,pflds_waiting _ _,d,_,rfl,DGet.k (k:=Sum.inl n) hd,_,rfl,?_⟩
    rcases k with⟨l1,l2,t,rfl,k⟩|⟨hno,k⟩
    · have ev:valV (kvsOf (l1++(n,t)::l2)) (Sum.inl n:Key)=some (.ref t):=by rw[kvs_val,find_mid nd];rfl
      rw[ev]
      refine iteF ?_
      refine⟨_,rfl,p,C,dx,_,_,rfl,h1,T.cl,T.nW,pflds_waiting _ _,d,rfl,.inl ⟨_,.inl hd⟩,_,rfl,_,Sum.inl n,_,hd,rfl,ev,?_⟩
      rw[drop_mid nd]
      refine k _ ⟨⟨dx,by rw[upd_ne npd];exact h1⟩,upd_same,fun l hl=>le l ?_,?_⟩ fun b o e hb=>by rw[upd_ne hb];exact e
      · rcases ZI hl with hl|hl
        · exact ZB _ hl
        · exact ZC _ (ZD _ hl)
      · rw[ZF,List.map_cons] at nd
        rw[ZF]
        refine List.nodup_append.mpr ⟨(List.nodup_append.mp nd).1,(List.nodup_cons.mp (List.nodup_append.mp nd).2.1).2,fun a ha b hb=>(List.nodup_append.mp nd).2.2 a ha b (ZD _ hb)⟩
    · have ev:valV (kvsOf ls) (Sum.inl n:Key)=none:=by
        rw[kvs_val,List.find?_eq_none.mpr fun l hl=>by simpa using hno l hl]
        rfl
      rw[ev]
      exact iteT k
end
section
variable {P:Program}{w:World}{K:PySem.W.Frag}{mg:Str→Option Value}{base:Heap}{C NHd NNr MI NW:Addr}
def spSpent(C:Addr):Sp:=fun vs H Q _=>∃(p t:Addr)(G:HGh)(th:T2),vs=[.ref p,.ref t]∧HouseAt C H p G∧H t=some (.tup (tv th))∧Q (.bl (decide ((G.recs.find? (fun q=>decide (q.1=th))).map (·.2)=some 0))) H
theorem scSp:FnScope ["self","thing"] ["self","thing"] (defScope sSpent):=⟨rfl,rfl,rfl,by decide +kernel,rfl,by decide +kernel,by decide +kernel⟩
theorem ok_spent{f:Addr}{fd:FuncData}(F:Fun K "is_spent" "House.is_spent" sSpent f fd)(T:Txt K mg C NHd NNr MI NW):FnOk P w K mg base CX0 1 f fd ["self","thing"] (spSpent C):=by
  refine F.ok scSp (fun vs H Q E h=>?_) (fun cdv A outer s H vs Q E hr h=>?_)
  · obtain⟨p,t,G,th,rfl,_⟩:=h
    rfl
  · obtain⟨p,t,G,th,rfl,S,ht,k⟩:=h
    have hu:=hu_of hr
    obtain⟨dx,hp⟩:=S.ob
    refine⟨_,pss_one (ps_ret (pe_cmpR op_eq (pe_dget1 hu (pe_fld (pv 0) rfl) (pv 1) ⟨rfl,rfl,rfl,rfl⟩) pe_int (nomark _))),?_⟩
    refine⟨_,rfl,p,C,dx,_,_,rfl,hp,T.cl,T.nR,hf_records G,G.r,rfl,.inr ⟨_,.inl S.dr⟩,_,rfl,_,int_get S.dr ht,?_⟩
    cases e:(G.recs.find? fun q=>decide (q.1=th)) with
    | none =>
      rw[e] at k
      exact⟨rfl,k⟩
    | some q =>
      rw[e] at k
      refine⟨rfl,?_⟩
      have e2:decide (V.int q.2=V.int 0)=decide ((some q).map (·.2)=some (0:Int)):=by simp
      show Q (V.bl (decide (V.int q.2=V.int 0))) H
      rw[e2]
      exact k
def spIInit(C:Addr):Sp:=fun vs H Q _=>∃(p dx:Addr)(n:Int),vs=[.ref p,.int n]∧H p=some (.ins C dx [])∧∀H':Hp,(∀b u,H b=some u→b≠p→H' b=some u)→(∃u,H' p=some u)→Q .non H'
structure TxtI(K:PySem.W.Frag)(mg:Str→Option Value)(C:Addr):Prop where
  cl:Cls K C
  nM:NoAttr K C "many"
  nS:NoAttr K C "states"
  nF:NoAttr K C "first_ticks"
  nT:NoAttr K C "second_ticks"
  mgC:mg "Inquiry"=some (.ref C)
theorem scII:FnScope ["self","many"] ["self","many"] (defScope sIInit):=⟨rfl,rfl,rfl,by decide +kernel,rfl,by decide +kernel,by decide +kernel⟩
theorem ok_iinit{f:Addr}{fd:FuncData}(F:Fun K "__init__" "Inquiry.__init__" sIInit f fd)(T:TxtI K mg C):FnOk P w K mg base CX0 1 f fd ["self","many"] (spIInit C):=by
  refine F.ok scII (fun vs H Q E h=>?_) (fun cdv A outer s H vs Q E hr h=>?_)
  · obtain⟨p,dx,n,rfl,_⟩:=h
    rfl
  · obtain⟨p,dx,n,rfl,hp,k⟩:=h
    refine⟨_,pss_cons (ps_fld (pv 0) (pv 1) rfl) (pss_cons (ps_fld (pv 0) pe_dnewK rfl) (pss_cons (ps_fld (pv 0) pe_dnewK rfl) (pss_one (ps_fld (pv 0) pe_dnewK rfl)))),?_⟩
    have l1:=length_putF "many" (.int n) []
    refine⟨_,rfl,_,rfl,p,C,dx,[],rfl,hp,T.cl,T.nM,(by show 0<1000;decide),fun d1 h1=>?_⟩
    have np1:p≠d1:=ne_of_none upd_same h1
    have l2:=fun v=>length_putF "states" v (putF "many" (.int n) [])
    refine⟨_,rfl,p,C,dx,_,rfl,(by rw[upd_ne np1];exact upd_same),T.cl,T.nS,(by simp only[List.length_nil] at l1;omega),fun d2 h2=>?_⟩
    have np2:p≠d2:=ne_of_none upd_same h2
    have l3:=fun v u=>length_putF "first_ticks" u (putF "states" v (putF "many" (.int n) []))
    refine⟨_,rfl,p,C,dx,_,rfl,(by rw[upd_ne np2];exact upd_same),T.cl,T.nF,(by have:=l2 (.ref d1);simp only[List.length_nil] at l1;omega),fun d3 h3=>?_⟩
    have np3:p≠d3:=ne_of_none upd_same h3
    refine⟨_,rfl,p,C,dx,_,rfl,(by rw[upd_ne np3];exact upd_same),T.cl,T.nT,(by have:=l2 (.ref d1);have:=l3 (.ref d1) (.ref d2);simp only[List.length_nil] at l1;omega),?_⟩
    refine k _ (fun b u e hb=>?_) ⟨_,upd_same⟩
    have k1:(upd H p (.ins C dx (putF "many" (.int n) []))) b=some u:=by rw[upd_ne hb];exact e
    have n1:b≠d1:=ne_of_none k1 h1
    have k2:(upd (upd (upd H p (.ins C dx (putF "many" (.int n) []))) d1 (.dK [])) p (.ins C dx (putF "states" (.ref d1) (putF "many" (.int n) [])))) b=some u:=by rw[upd_ne hb,upd_ne n1];exact k1
    have n2:b≠d2:=ne_of_none k2 h2
    have k3:(upd (upd (upd (upd (upd H p (.ins C dx (putF "many" (.int n) []))) d1 (.dK [])) p (.ins C dx (putF "states" (.ref d1) (putF "many" (.int n) [])))) d2 (.dK [])) p (.ins C dx (putF "first_ticks" (.ref d2) (putF "states" (.ref d1) (putF "many" (.int n) []))))) b=some u:=by rw[upd_ne hb,upd_ne n2];exact k2
    have n3:b≠d3:=ne_of_none k3 h3
    rw[upd_ne hb,upd_ne n3]
    exact k3
end
end K53
namespace K53
open PySem L2 FX
set_option linter.all false
structure TxtW(K:PySem.W.Frag)(mg:Str→Option Value)(C NH NI:Addr):Prop where
  cl:Cls K C
  nS:NoAttr K C "share"
  nH:NoAttr K C "houses"
  nP:NoAttr K C "post"
  nI:NoAttr K C "inquiries"
  nF:NoAttr K C "finds"
  nE:NoAttr K C "enclosed"
  mgC:mg "World"=some (.ref C)
  cNH:XCls K mg "NoHouse" NH
  cNI:XCls K mg "NoInquiry" NI
section
variable {P:Program}{w:World}{K:PySem.W.Frag}{mg:Str→Option Value}{base:Heap}{CW C CP NH NI NL NHd NNr MI NW:Addr}
def spWHouse(CW C CP NH:Addr):Sp:=fun vs H Q E=>∃(p:Addr)(h:Int)(W:WGh),vs=[.ref p,.int h]∧WorldAt CW C CP H p W∧((OutW W h∧E (.ref NH) none H)∨∃q G,InW W h q G∧Q (.ref q) H)
theorem scWHouse:FnScope ["self","h"] ["self","h"] (defScope sWHouse):=⟨rfl,rfl,rfl,by decide +kernel,rfl,by decide +kernel,by decide +kernel⟩
theorem ok_whouse{f:Addr}{fd:FuncData}(F:Fun K "house" "World.house" sWHouse f fd)(T:Txt K mg C NHd NNr MI NW)(TW:TxtW K mg CW NH NI):FnOk P w K mg base (CX1 P w) 1 f fd ["self","h"] (spWHouse CW C CP NH):=by
  refine ok1 F scWHouse (fun vs H Q E h=>?_) (fun cdv A outer s H vs Q E hr h=>?_)
  · obtain⟨p,h,W,rfl,_⟩:=h
    rfl
  · obtain⟨p,h,W,rfl,S,k⟩:=h
    obtain⟨dx,hp⟩:=S.ob
    refine⟨_,pss_cons (ps_if (PW.pt (pw_or (pt_cmpR op_lt (pv 1) pe_int (nomark _)) (pw_or1 (pt_cmpR op_ge (pv 1) (pe_callB call_len_seq (by rfl) T.len PySem.boot_len (pa_cons (pe_fld (pv 0) rfl) pa_nil)) (nomark _))))) (pss_one (ps_raise rfl rfl TW.cNH raises1)) pss_nil)
      (pss_one (ps_ret (pe_ix ix_list (pe_fld (pv 0) rfl) (pv 1) (fun _ _=>rfl)))),?_⟩
    have e0:((W.qs.map fun q=>V.ref q.1).length:Int)=W.qs.length:=by simp
    refine⟨_,rfl,_,_,rfl,rfl,_,rfl,?_⟩
    rcases k with⟨o,k⟩|⟨q,G,i,k⟩
    · refine ite2 (fun _=>iteT k) (fun c=>?_)
      have c:¬h<0:=fun z=>c (decide_eq_true z)
      refine⟨_,rfl,_,rfl,p,CW,dx,_,_,rfl,hp,TW.cl,TW.nH,wf_houses W,W.hs,_,rfl,.inl (SqL.of S.hs),_,_,rfl,rfl,_,rfl,?_⟩
      rw[e0,decide_eq_true (show(W.qs.length:Int)≤h from o.resolve_left c)]
      exact iteT k
    · obtain⟨i1,i2⟩:=i.lt
      rw[decide_eq_false (show ¬h<0 by omega)]
      refine iteF ?_
      refine⟨_,rfl,_,rfl,p,CW,dx,_,_,rfl,hp,TW.cl,TW.nH,wf_houses W,W.hs,_,rfl,.inl (SqL.of S.hs),_,_,rfl,rfl,_,rfl,?_⟩
      rw[e0,decide_eq_false (show ¬(W.qs.length:Int)≤h by omega)]
      refine iteF ?_
      exact⟨_,rfl,p,CW,dx,_,_,rfl,hp,TW.cl,TW.nH,wf_houses W,_,rfl,W.hs,_,_,_,rfl,rfl,SqL.of S.hs,i.atI,k⟩
def spWMake(CW C CP NH:Addr):Sp:=fun vs H Q E=>∃(p:Addr)(h:Int)(W:WGh),vs=[.ref p,.int h]∧WorldAt CW C CP H p W∧((OutW W h∧E (.ref NH) none H)∨∃q G,InW W h q G∧spMake C [.ref q] H Q E)
theorem scWMake:FnScope ["self","h"] ["self","h"] (defScope sWMake):=⟨rfl,rfl,rfl,by decide +kernel,rfl,by decide +kernel,by decide +kernel⟩
theorem ok_wmake{f fH f1:Addr}{fd dH d1:FuncData}(F:Fun K "make" "World.make" sWMake f fd)(T:Txt K mg C NHd NNr MI NW)(TW:TxtW K mg CW NH NI)(MH:Mth K CW "house" "World.house" sWHouse ["self","h"] fH dH)(M1:Mth K C "make" "House.make" sMake ["self"] f1 d1)(G1:FnOk P w K mg base (CX1 P w) 1 f1 d1 ["self"] (spMake C)):FnOk P w K mg base (CX1 P w) 2 f fd ["self","h"] (spWMake CW C CP NH):=by
  have GH:FnOk P w K mg base (CX1 P w) 1 fH dH ["self","h"] (spWHouse CW C CP NH):=ok_whouse MH.fn T TW
  refine ok1 F scWMake (fun vs H Q E h=>?_) (fun cdv A outer s H vs Q E hr h=>?_)
  · obtain⟨p,h,W,rfl,_⟩:=h
    rfl
  · obtain⟨p,h,W,rfl,S,k⟩:=h
    have hr1:Room 1 _:=hr.mono (by decide)
    obtain⟨dx,hp⟩:=S.ob
    refine⟨_,pss_one (ps_ret (pe_meth0 (pl:=_) (pe_meth (pl:=_) (pv 0) TW.cl MH.mt GH hr1 MH.bd .nil pass1 (pa_cons (pv 1) pa_nil)) T.cl M1.mt G1 hr M1.bd .nil pass1)),?_⟩
    refine⟨_,rfl,p,dx,_,rfl,hp,wf_no W (by decide +kernel),_,rfl,p,h,W,rfl,S,?_⟩
    rcases k with k|⟨q,G,i,k⟩
    · exact .inl k
    · obtain⟨dx1,hq⟩:=(i.at S).ob
      exact .inr ⟨q,G,i,q,dx1,_,rfl,hq,hf_no G (by decide +kernel),k⟩
def spWHold(CW C CP NH NHd NNr:Addr):Sp:=fun vs H Q E=>∃(p:Addr)(h:Int)(va vb:V)(W:WGh),vs=[.ref p,.int h,va,vb]∧WorldAt CW C CP H p W∧((OutW W h∧E (.ref NH) none H)∨∃q G,InW W h q G∧spHold C NHd NNr [.ref q,va,vb] H (fun _ H'=>Q .non H') E)
theorem scWHold:FnScope ["self","h","a","b"] ["self","h","a","b"] (defScope sWHold):=⟨rfl,rfl,rfl,by decide +kernel,rfl,by decide +kernel,by decide +kernel⟩
theorem ok_whold{f fH f1:Addr}{fd dH d1:FuncData}(F:Fun K "hold" "World.hold" sWHold f fd)(T:Txt K mg C NHd NNr MI NW)(TW:TxtW K mg CW NH NI)(MH:Mth K CW "house" "World.house" sWHouse ["self","h"] fH dH)(M1:Mth K C "hold" "House.hold" sHold ["self","a","b"] f1 d1)(G1:FnOk P w K mg base (CX1 P w) 3 f1 d1 ["self","a","b"] (spHold C NHd NNr)):FnOk P w K mg base (CX1 P w) 4 f fd ["self","h","a","b"] (spWHold CW C CP NH NHd NNr):=by
  have GH:FnOk P w K mg base (CX1 P w) 1 fH dH ["self","h"] (spWHouse CW C CP NH):=ok_whouse MH.fn T TW
  refine ok1 F scWHold (fun vs H Q E h=>?_) (fun cdv A outer s H vs Q E hr h=>?_)
  · obtain⟨p,h,va,vb,W,rfl,_⟩:=h
    rfl
  · obtain⟨p,h,va,vb,W,rfl,S,k⟩:=h
    have hr1:Room 1 _:=hr.mono (by decide)
    obtain⟨dx,hp⟩:=S.ob
    refine⟨_,pss_one (ps_expr (pe_meth (pl:=_) (pe_meth (pl:=_) (pv 0) TW.cl MH.mt GH hr1 MH.bd .nil pass1 (pa_cons (pv 1) pa_nil)) T.cl M1.mt G1 hr M1.bd .nil pass1 (pa_cons (pv 2) (pa_cons (pv 3) pa_nil)))),?_⟩
    refine⟨_,rfl,p,dx,_,rfl,hp,wf_no W (by decide +kernel),_,rfl,p,h,W,rfl,S,?_⟩
    rcases k with k|⟨q,G,i,k⟩
    · exact .inl k
    · obtain⟨dx1,hq⟩:=(i.at S).ob
      exact .inr ⟨q,G,i,q,dx1,_,rfl,hq,hf_no G (by decide +kernel),_,rfl,_,rfl,k⟩
def spWFree(CW C CP NH NHd:Addr):Sp:=fun vs H Q E=>∃(p:Addr)(h:Int)(vb:V)(W:WGh),vs=[.ref p,.int h,vb]∧WorldAt CW C CP H p W∧((OutW W h∧E (.ref NH) none H)∨∃q G,InW W h q G∧spFree C NHd [.ref q,vb] H (fun _ H'=>Q .non H') E)
theorem scWFree:FnScope ["self","h","b"] ["self","h","b"] (defScope sWFree):=⟨rfl,rfl,rfl,by decide +kernel,rfl,by decide +kernel,by decide +kernel⟩
theorem ok_wfree{f fH f1:Addr}{fd dH d1:FuncData}(F:Fun K "free" "World.free" sWFree f fd)(T:Txt K mg C NHd NNr MI NW)(TW:TxtW K mg CW NH NI)(MH:Mth K CW "house" "World.house" sWHouse ["self","h"] fH dH)(M1:Mth K C "free" "House.free" sFree ["self","b"] f1 d1)(G1:FnOk P w K mg base (CX1 P w) 2 f1 d1 ["self","b"] (spFree C NHd)):FnOk P w K mg base (CX1 P w) 3 f fd ["self","h","b"] (spWFree CW C CP NH NHd):=by
  have GH:FnOk P w K mg base (CX1 P w) 1 fH dH ["self","h"] (spWHouse CW C CP NH):=ok_whouse MH.fn T TW
  refine ok1 F scWFree (fun vs H Q E h=>?_) (fun cdv A outer s H vs Q E hr h=>?_)
  · obtain⟨p,h,vb,W,rfl,_⟩:=h
    rfl
  · obtain⟨p,h,vb,W,rfl,S,k⟩:=h
    have hr1:Room 1 _:=hr.mono (by decide)
    obtain⟨dx,hp⟩:=S.ob
    refine⟨_,pss_one (ps_expr (pe_meth (pl:=_) (pe_meth (pl:=_) (pv 0) TW.cl MH.mt GH hr1 MH.bd .nil pass1 (pa_cons (pv 1) pa_nil)) T.cl M1.mt G1 hr M1.bd .nil pass1 (pa_cons (pv 2) pa_nil))),?_⟩
    refine⟨_,rfl,p,dx,_,rfl,hp,wf_no W (by decide +kernel),_,rfl,p,h,W,rfl,S,?_⟩
    rcases k with k|⟨q,G,i,k⟩
    · exact .inl k
    · obtain⟨dx1,hq⟩:=(i.at S).ob
      exact .inr ⟨q,G,i,q,dx1,_,rfl,hq,hf_no G (by decide +kernel),_,rfl,k⟩
def spWState(CW C CP NH:Addr)(K:PySem.W.Frag):Sp:=fun vs H Q E=>∃(p:Addr)(h:Int)(W:WGh),vs=[.ref p,.int h]∧WorldAt CW C CP H p W∧((OutW W h∧E (.ref NH) none H)∨∃q G,InW W h q G∧spState C K [.ref q] H Q E)
theorem scWState:FnScope ["self","h"] ["self","h"] (defScope sWState):=⟨rfl,rfl,rfl,by decide +kernel,rfl,by decide +kernel,by decide +kernel⟩
theorem ok_wstate{f fH f1:Addr}{fd dH d1:FuncData}(F:Fun K "state" "World.state" sWState f fd)(T:Txt K mg C NHd NNr MI NW)(TW:TxtW K mg CW NH NI)(MH:Mth K CW "house" "World.house" sWHouse ["self","h"] fH dH)(M1:Mth K C "state" "House.state" sState ["self"] f1 d1)(G1:FnOk P w K mg base (CX1 P w) 2 f1 d1 ["self"] (spState C K)):FnOk P w K mg base (CX1 P w) 3 f fd ["self","h"] (spWState CW C CP NH K):=by
  have GH:FnOk P w K mg base (CX1 P w) 1 fH dH ["self","h"] (spWHouse CW C CP NH):=ok_whouse MH.fn T TW
  refine ok1 F scWState (fun vs H Q E h=>?_) (fun cdv A outer s H vs Q E hr h=>?_)
  · obtain⟨p,h,W,rfl,_⟩:=h
    rfl
  · obtain⟨p,h,W,rfl,S,k⟩:=h
    have hr1:Room 1 _:=hr.mono (by decide)
    obtain⟨dx,hp⟩:=S.ob
    refine⟨_,pss_one (ps_ret (pe_meth0 (pl:=_) (pe_meth (pl:=_) (pv 0) TW.cl MH.mt GH hr1 MH.bd .nil pass1 (pa_cons (pv 1) pa_nil)) T.cl M1.mt G1 hr M1.bd .nil pass1)),?_⟩
    refine⟨_,rfl,p,dx,_,rfl,hp,wf_no W (by decide +kernel),_,rfl,p,h,W,rfl,S,?_⟩
    rcases k with k|⟨q,G,i,k⟩
    · exact .inl k
    · obtain⟨dx1,hq⟩:=(i.at S).ob
      exact .inr ⟨q,G,i,q,dx1,_,rfl,hq,hf_no G (by decide +kernel),k⟩
end
end K53
namespace K53
open PySem L2 FX
set_option linter.all false
section
variable {P:Program}{w:World}{K:PySem.W.Frag}{mg:Str→Option Value}{base:Heap}{CW C CP CI NH NI NL NHd NNr MI NW:Addr}
def spWLetters(CW C CP:Addr):Sp:=fun vs H Q _=>∃(p:Addr)(W:WGh),vs=[.ref p]∧WorldAt CW C CP H p W∧∀(l:Addr)(H':Hp),H l=none→H' l=some (.lst (W.ls.map fun x=>V.ref x.2))→Same H H'→Q (.ref l) H'
theorem scWLetters:FnScope ["self"] ["self"] (defScope sWLetters):=⟨rfl,rfl,rfl,by decide +kernel,rfl,by decide +kernel,by decide +kernel⟩
theorem ok_wletters{f f1:Addr}{fd d1:FuncData}(F:Fun K "letters" "World.letters" sWLetters f fd)(TW:TxtW K mg CW NH NI)(TP:TxtP K mg CP NL)(M1:Mth K CP "letters" "Post.letters" sPLetters ["self"] f1 d1):FnOk P w K mg base CX0 2 f fd ["self"] (spWLetters CW C CP):=by
  have G1:FnOk P w K mg base CX0 1 f1 d1 ["self"] (spPLetters CP):=ok_pletters M1.fn TP
  refine F.ok scWLetters (fun vs H Q E h=>?_) (fun cdv A outer s H vs Q E hr h=>?_)
  · obtain⟨p,W,rfl,_⟩:=h
    rfl
  · obtain⟨p,W,rfl,S,k⟩:=h
    obtain⟨dx,hp⟩:=S.ob
    obtain⟨dx1,hq⟩:=S.po.ob
    refine⟨_,pss_one (ps_ret (pe_meth0 (pl:=_) (pe_fld (pv 0) rfl) TP.cl M1.mt G1 hr M1.bd .nil pass0)),?_⟩
    exact⟨_,rfl,p,CW,dx,_,_,rfl,hp,TW.cl,TW.nP,wf_post W,W.po,dx1,_,rfl,hq,pflds_no _ _ (by decide +kernel) (by decide +kernel),W.po,W.pd,W.c,W.ls,rfl,S.po,k⟩
def spWInquiry(CW C CP NI:Addr)(K:PySem.W.Frag):Sp:=fun vs H Q E=>∃(p:Addr)(n:Int)(W:WGh),vs=[.ref p,.int n]∧WorldAt CW C CP H p W∧(((∀l∈W.iqs,l.1≠n)∧E (.ref NI) none H)∨((∃l∈W.iqs,l.1=n)∧(∀l∈W.fis,l.1≠n)∧∀(x:Addr)(H':Hp),Same H H'→RepT K H' (.ref x) (.tuple [.bool false,.tuple []])→Q (.ref x) H'))
theorem scWInquiry:FnScope ["self","n"] ["self","n"] (defScope sWInquiry):=⟨rfl,rfl,rfl,by decide +kernel,rfl,by decide +kernel,by decide +kernel⟩
theorem ok_winquiry{f:Addr}{fd:FuncData}(F:Fun K "inquiry" "World.inquiry" sWInquiry f fd)(TW:TxtW K mg CW NH NI):FnOk P w K mg base (CX1 P w) 1 f fd ["self","n"] (spWInquiry CW C CP NI K):=by
  refine ok1 F scWInquiry (fun vs H Q E h=>?_) (fun cdv A outer s H vs Q E hr h=>?_)
  · obtain⟨p,n,W,rfl,_⟩:=h
    rfl
  · obtain⟨p,n,W,rfl,S,k⟩:=h
    have hu:=hu_of hr
    obtain⟨dx,hp⟩:=S.ob
    refine⟨_,pss_cons (ps_if (pt_cmp (pc_dnotin hu (pv 1) (pe_fld (pv 0) rfl))) (pss_one (ps_raise rfl rfl TW.cNI raises1)) pss_nil)
      (pss_cons (ps_if (pt_cmp (pc_dnotin hu (pv 1) (pe_fld (pv 0) rfl))) (pss_one (ps_ret (pe_tup (pa_cons pe_bl (pa_cons (pe_tup pa_nil) pa_nil))))) pss_nil) pss_never),?_⟩
    refine⟨_,rfl,_,rfl,p,CW,dx,_,_,rfl,hp,TW.cl,TW.nI,wf_inq W,W.iq,_,rfl,DGet.k (k:=Sum.inl n) S.iq,_,rfl,?_⟩
    rcases k with⟨h1,k⟩|⟨⟨l,hl,e⟩,h2,k⟩
    · rw[kvs_no h1]
      exact iteT k
    · have e1:∃v,valV (kvsOf W.iqs) (Sum.inl n:Key)=some v:=by
        rw[kvs_val]
        cases q:W.iqs.find? fun l=>decide (l.1=n) with
        | none=>exact absurd e (by simpa using List.find?_eq_none.mp q l hl)
        | some v=>exact⟨_,rfl⟩
      obtain⟨v,e1⟩:=e1
      rw[e1]
      refine iteF ⟨_,rfl,_,rfl,p,CW,dx,_,_,rfl,hp,TW.cl,TW.nF,wf_finds W,W.fi,_,rfl,DGet.k (k:=Sum.inl n) S.fi,_,rfl,?_⟩
      rw[kvs_no h2]
      refine iteT ⟨Nat.zero_le _,fun e2 he2=>⟨(by show 2≤sizeLine;decide),fun x hx=>?_⟩⟩
      have s1:=same_new (o:=.tup []) he2
      have s2:=same_new (o:=.tup [V.bl false,V.ref e2]) hx
      refine k x _ (same_trans s1 s2) (.tupP (SqT.of upd_same) (.cons (.bl _) (.cons (.tupP (SqT.of (s2 _ _ upd_same)) .nil) .nil)))
def Came(G:HGh)(tb:T2)(wt:Int)(G':HGh):Prop:=(tb.1=G.num∧∃o,G.outs.find? (fun q=>decide (q.1=tb))=some (tb,o)∧G'={ G with ticks:=G.ticks+1,hand:=addT G.hand tb,outs:=putI G.outs tb (o-wt) })∨(tb.1≠G.num∧G'={ G with ticks:=G.ticks+1,hand:=addT G.hand tb,recs:=putI G.recs tb (getI G.recs tb+wt) })
theorem Came.foot{G G':HGh}{tb:T2}{wt:Int}(h:Came G tb wt G'):foot G'=foot G:=by
  rcases h with⟨_,o,_,rfl⟩|⟨_,rfl⟩<;>rfl
def HoldLet(H:Hp)(t:Addr)(n h g:Int)(tb:T2)(wt:Int):Prop:=∃a b,H t=some (.tup [.int n,.str "hold",.int h,.int g,.ref a])∧H a=some (.tup [.ref b,.int wt])∧H b=some (.tup (tv tb))
theorem HoldLet.keep{H H':Hp}{t:Addr}{n h g:Int}{tb:T2}{wt:Int}(x:HoldLet H t n h g tb wt)(k:KeepT H H'):HoldLet H' t n h g tb wt:=let⟨a,b,e1,e2,e3⟩:=x;⟨a,b,k.tup _ _ e1,k.tup _ _ e2,k.tup _ _ e3⟩
def spWWeight(CW C CP:Addr):Sp:=fun vs H Q _=>∃(p t:Addr)(W:WGh)(n h g:Int)(tb:T2)(wt:Int)(q:Addr)(G G':HGh),vs=[.ref p,.ref t]∧WorldAt CW C CP H p W∧HoldLet H t n h g tb wt∧InW W g q G∧Came G tb wt G'∧G.hand.length≤500∧G.outs.length≤500∧G.recs.length≤500 ∧
  ∀H',WorldAt CW C CP H' p { W with qs:=W.qs.set g.toNat (q,G') }→WFr p W H H'→Q .non H'
theorem scWWeight:FnScope ["self","letter","kind","house","thing","weight"] ["self","letter"] (defScope sWWeight):=⟨rfl,rfl,rfl,by decide +kernel,rfl,by decide +kernel,by decide +kernel⟩
theorem ok_wweight{f f1:Addr}{fd d1:FuncData}(F:Fun K "weight_came" "World.weight_came" sWWeight f fd)(T:Txt K mg C NHd NNr MI NW)(TW:TxtW K mg CW NH NI)(M1:Mth K C "came" "House.came" sCame ["self","b","weight"] f1 d1)(G1:FnOk P w K mg base CX0 2 f1 d1 ["self","b","weight"] (spCame C)):FnOk P w K mg base CX0 3 f fd ["self","letter"] (spWWeight CW C CP):=by
  refine F.ok scWWeight (fun vs H Q E h=>?_) (fun cdv A outer s H vs Q E hr h=>?_)
  · obtain⟨p,t,W,n,h,g,tb,wt,q,G,G',rfl,_⟩:=h
    rfl
  · obtain⟨p,t,W,n,h,g,tb,wt,q,G,G',rfl,S,⟨a,b,e1,e2,e3⟩,i,cm,z1,z2,z3,k⟩:=h
    obtain⟨dx,hp⟩:=S.ob
    refine⟨_,pss_cons (ps_set (i:=2) scWWeight.nd rfl (Or.inl rfl) (pe_ix ix_tup (pv 1) pe_int (fun _ _=>rfl)))
      (pss_cons (ps_set (i:=3) scWWeight.nd rfl (Or.inl rfl) (pe_ix ix_list (pe_fld (pv 0) rfl) (pe_ix ix_tup (pv 1) pe_int (fun _ _=>rfl)) (fun _ _=>rfl)))
      (pss_cons (ps_set (i:=4) scWWeight.nd rfl (Or.inl rfl) (pe_ix ix_tup (pe_ix ix_tup (pv 1) pe_int (fun _ _=>rfl)) pe_int (fun _ _=>rfl)))
      (pss_cons (ps_set (i:=5) scWWeight.nd rfl (Or.inl rfl) (pe_ix ix_tup (pe_ix ix_tup (pv 1) pe_int (fun _ _=>rfl)) pe_int (fun _ _=>rfl)))
      (pss_one (ps_if (pt_cmpR op_eq (pv 2) pe_str (nomark _)) (pss_one (ps_expr (pe_meth (pl:=_) (pv 3) T.cl M1.mt G1 hr M1.bd .nil pass0 (pa_cons (pv 4) (pa_cons (pv 5) pa_nil))))) pss_never))))),?_⟩
    refine⟨_,rfl,t,_,_,_,rfl,rfl,SqT.of e1,rfl,?_⟩
    refine⟨_,rfl,p,CW,dx,_,_,rfl,hp,TW.cl,TW.nH,wf_houses W,_,rfl,t,_,_,_,rfl,rfl,SqT.of e1,rfl,W.hs,_,_,_,rfl,rfl,SqL.of S.hs,i.atI,?_⟩
    refine⟨_,rfl,t,_,_,_,rfl,rfl,SqT.of e1,rfl,a,_,_,_,rfl,rfl,SqT.of e2,rfl,?_⟩
    refine⟨_,rfl,t,_,_,_,rfl,rfl,SqT.of e1,rfl,a,_,_,_,rfl,rfl,SqT.of e2,rfl,?_⟩
    refine⟨_,rfl,rfl,_,rfl,?_⟩
    rw[decide_eq_true (show V.str "hold"=V.str "hold" from rfl)]
    refine iteT ?_
    obtain⟨dx1,hq⟩:=(i.at S).ob
    refine⟨_,rfl,q,dx1,_,rfl,hq,hf_no G (by decide +kernel),_,rfl,_,rfl,q,b,G,tb,wt,rfl,i.at S,e3,z1,z2,z3,?_⟩
    have dn:Done C q G H G' fun H'=>Q .non H':=fun H' S' fr=>by
      obtain⟨x1,x2⟩:=S.step i.2 S' fr fun b hb=>.inl (by rw[cm.foot] at hb;exact hb)
      exact k H' x1 x2
    rcases cm with⟨h1,o,h2,rfl⟩|⟨h1,rfl⟩
    · exact .inl ⟨h1,o,h2,dn⟩
    · exact .inr ⟨h1,dn⟩
def spWDeliver(CW C CP NL:Addr):Sp:=fun vs H Q E=>∃(p:Addr)(n:Int)(W:WGh),vs=[.ref p,.int n]∧WorldAt CW C CP H p W∧(((∀l∈W.ls,l.1≠n)∧E (.ref NL) none H) ∨
  ∃(l1 l2:List (Int×Addr))(t:Addr)(m h g:Int)(tb:T2)(wt:Int)(q:Addr)(G G':HGh),W.ls=l1++(n,t)::l2∧HoldLet H t m h g tb wt∧InW W g q G∧Came G tb wt G'∧G.hand.length≤500∧G.outs.length≤500∧G.recs.length≤500 ∧
    ∀(x:Addr)(H':Hp),WorldAt CW C CP H' p { W with ls:=l1++l2,qs:=W.qs.set g.toNat (q,G') }→WFr p W H H'→H' x=some (.lst [])→Q (.ref x) H')
theorem scWDeliver:FnScope ["self","n","letter","kind"] ["self","n"] (defScope sWDeliver):=⟨rfl,rfl,rfl,by decide +kernel,rfl,by decide +kernel,by decide +kernel⟩
theorem ok_wdeliver{f f1 f2:Addr}{fd d1 d2:FuncData}(F:Fun K "deliver" "World.deliver" sWDeliver f fd)(TW:TxtW K mg CW NH NI)(TP:TxtP K mg CP NL)(M1:Mth K CP "taken" "Post.taken" sPTaken ["self","n"] f1 d1)(M2:Mth K CW "weight_came" "World.weight_came" sWWeight ["self","letter"] f2 d2)(G2:FnOk P w K mg base CX0 3 f2 d2 ["self","letter"] (spWWeight CW C CP)):FnOk P w K mg base (CX1 P w) 4 f fd ["self","n"] (spWDeliver CW C CP NL):=by
  have G1:FnOk P w K mg base (CX1 P w) 1 f1 d1 ["self","n"] (spPTaken CP NL):=ok_ptaken M1.fn TP
  have G2':FnOk P w K mg base (CX1 P w) 3 f2 d2 ["self","letter"] (spWWeight CW C CP):=FX.FnOk.to1 G2
  refine ok1 F scWDeliver (fun vs H Q E h=>?_) (fun cdv A outer s H vs Q E hr h=>?_)
  · obtain⟨p,n,W,rfl,_⟩:=h
    rfl
  · obtain⟨p,n,W,rfl,S,k⟩:=h
    have hr1:Room 1 _:=hr.mono (by decide)
    obtain⟨dx,hp⟩:=S.ob
    obtain⟨dx1,hq⟩:=S.po.ob
    refine⟨_,pss_cons (ps_set (i:=2) scWDeliver.nd rfl (Or.inl rfl) (pe_meth (pl:=_) (pe_fld (pv 0) rfl) TP.cl M1.mt G1 hr1 M1.bd .nil pass1 (pa_cons (pv 1) pa_nil)))
      (pss_cons (ps_set (i:=3) scWDeliver.nd rfl (Or.inl rfl) (pe_ix ix_tup (pv 2) pe_int (fun _ _=>rfl)))
      (pss_cons (ps_if (pt_cmpR op_eq (pv 3) pe_str (nomark _)) pss_never pss_nil)
      (pss_cons (ps_if (pt_cmpR op_eq (pv 3) pe_str (nomark _)) pss_never pss_nil)
      (pss_cons (ps_if (pt_cmpR op_eq (pv 3) pe_str (nomark _)) pss_never pss_nil)
      (pss_cons (ps_if (pt_cmpR op_eq (pv 3) pe_str (nomark _)) pss_never pss_nil)
      (pss_cons (ps_expr (pe_meth (pl:=_) (pv 0) TW.cl M2.mt G2' hr M2.bd .nil pass1 (pa_cons (pv 2) pa_nil)))
      (pss_one (ps_ret (pe_lst pa_nil))))))))),?_⟩
    refine⟨_,rfl,p,CW,dx,_,_,rfl,hp,TW.cl,TW.nP,wf_post W,W.po,dx1,_,rfl,hq,pflds_no _ _ (by decide +kernel) (by decide +kernel),_,rfl,W.po,W.pd,W.c,W.ls,n,rfl,S.po,?_⟩
    rcases k with k|⟨l1,l2,t,m,h,g,tb,wt,q,G,G',el,hl,i,cm,z1,z2,z3,k⟩
    · exact .inr k
    · refine .inl ⟨l1,l2,t,el,fun H1 S1 fr1=>?_⟩
      obtain⟨W1,wf1⟩:=S.posted S1 fun b o e h1 h2=>fr1 b o e h2
      have hl1:=hl.keep (WFr.keepT S wf1)
      obtain⟨a,b,e1,_⟩:=id hl1
      obtain⟨dx2,hp2⟩:=W1.ob
      have no:∀{x y:Str},¬x=y→decide (V.str x=V.str y)=false:=fun e=>decide_eq_false fun z=>e (V.str.inj z)
      refine⟨_,rfl,t,_,_,_,rfl,rfl,SqT.of e1,rfl,?_⟩
      refine⟨_,rfl,rfl,_,rfl,?_⟩
      rw[no (by decide +kernel)]
      refine iteF ⟨_,rfl,rfl,_,rfl,?_⟩
      rw[no (by decide +kernel)]
      refine iteF ⟨_,rfl,rfl,_,rfl,?_⟩
      rw[no (by decide +kernel)]
      refine iteF ⟨_,rfl,rfl,_,rfl,?_⟩
      rw[no (by decide +kernel)]
      refine iteF ⟨_,rfl,p,dx2,_,rfl,hp2,wf_no _ (by decide +kernel),_,rfl,p,t,_,m,h,g,tb,wt,q,G,G',rfl,W1,hl1,i,cm,z1,z2,z3,fun H2 W2 wf2=>?_⟩
      refine⟨Nat.zero_le _,fun x hx=>?_⟩
      have s3:=same_new (o:=.lst []) hx
      refine k x _ (W2.same s3) (fun b o e hb=>s3 _ _ (wf2 b o (wf1 b o e hb) hb)) upd_same
end
end K53
namespace K53
open PySem L2 FX
set_option linter.all false
section
variable {P:Program}{w:World}{K:PySem.W.Frag}{mg:Str→Option Value}{base:Heap}{CW C CP CI NH NI NL NHd NNr MI NW:Addr}
def spWSend(CW C CP NH NHd:Addr):Sp:=fun vs H Q E=>∃(p b:Addr)(h g:Int)(W:WGh)(tb:T2),vs=[.ref p,.int h,.int g,.ref b]∧WorldAt CW C CP H p W∧H b=some (.tup (tv tb))∧(((OutW W h∨((∃q G,InW W h q G)∧OutW W g))∧E (.ref NH) none H) ∨
  ∃q G,InW W h q G∧(∃q2 G2,InW W g q2 G2)∧G.outs.length≤500∧G.recs.length≤500∧((tb∉G.hand∧E (.ref NHd) none H) ∨
    (tb∈G.hand∧tb.1=G.num∧∃o,G.outs.find? (fun q=>decide (q.1=tb))=some (tb,o)∧G.recs.find? (fun q=>decide (q.1=tb))=none∧W.ls.length≤500 ∧
      ∀(t:Addr)(H':Hp),WorldAt CW C CP H' p { W with qs:=W.qs.set h.toNat (q,{ G with ticks:=G.ticks+1,outs:=putI G.outs tb (o+W.share) }),c:=W.c+1,ls:=W.ls++[(W.c+1,t)] }→HoldLet H' t (W.c+1) h g tb W.share→WFr p W H H'→Q (.int (W.c+1)) H')))
theorem scWSend:FnScope ["self","h","g","b","house","weight"] ["self","h","g","b"] (defScope sWSend):=⟨rfl,rfl,rfl,by decide +kernel,rfl,by decide +kernel,by decide +kernel⟩
theorem ok_wsend{f fH f1 f2 f3:Addr}{fd dH d1 d2 d3:FuncData}(F:Fun K "send" "World.send" sWSend f fd)(T:Txt K mg C NHd NNr MI NW)(TW:TxtW K mg CW NH NI)(TP:TxtP K mg CP NL)(MH:Mth K CW "house" "World.house" sWHouse ["self","h"] fH dH)(M1:Mth K C "part" "House.part" sPart ["self","b","share"] f1 d1)(G1:FnOk P w K mg base (CX1 P w) 3 f1 d1 ["self","b","share"] (spPart C NHd NW))(M2:Mth K C "is_spent" "House.is_spent" sSpent ["self","thing"] f2 d2)(M3:Mth K CP "put" "Post.put" sPPut ["self","kind","sender","goal","about"] f3 d3) :
    FnOk P w K mg base (CX1 P w) 4 f fd ["self","h","g","b"] (spWSend CW C CP NH NHd):=by
  have GH:FnOk P w K mg base (CX1 P w) 1 fH dH ["self","h"] (spWHouse CW C CP NH):=ok_whouse MH.fn T TW
  have G2:FnOk P w K mg base (CX1 P w) 1 f2 d2 ["self","thing"] (spSpent C):=FX.FnOk.to1 (ok_spent M2.fn T)
  have G3:FnOk P w K mg base (CX1 P w) 1 f3 d3 ["self","kind","sender","goal","about"] (spPPut CP):=FX.FnOk.to1 (ok_pput M3.fn TP)
  refine ok1 F scWSend (fun vs H Q E h=>?_) (fun cdv A outer s H vs Q E hr h=>?_)
  · obtain⟨p,b,h,g,W,tb,rfl,_⟩:=h
    rfl
  · obtain⟨p,b,h,g,W,tb,rfl,S,hb,k⟩:=h
    have hr1:Room 1 _:=hr.mono (by decide)
    obtain⟨dx,hp⟩:=S.ob
    refine⟨_,pss_cons (ps_set (i:=4) scWSend.nd rfl (Or.inl rfl) (pe_meth (pl:=_) (pv 0) TW.cl MH.mt GH hr1 MH.bd .nil pass1 (pa_cons (pv 1) pa_nil)))
      (pss_cons (ps_expr (pe_meth (pl:=_) (pv 0) TW.cl MH.mt GH hr1 MH.bd .nil pass1 (pa_cons (pv 2) pa_nil)))
      (pss_cons (ps_set (i:=5) scWSend.nd rfl (Or.inl rfl) (pe_meth (pl:=_) (pv 4) T.cl M1.mt G1 hr M1.bd .nil pass1 (pa_cons (pv 3) (pa_cons (pe_fld (pv 0) rfl) pa_nil))))
      (pss_cons (ps_if (pt_val (pe_meth (pl:=_) (pv 4) T.cl M2.mt G2 hr1 M2.bd .nil pass1 (pa_cons (pv 3) pa_nil))) pss_never pss_nil)
      (pss_one (ps_ret (pe_meth (pl:=_) (pe_fld (pv 0) rfl) TP.cl M3.mt G3 hr1 M3.bd .nil pass1 (pa_cons pe_str (pa_cons (pv 1) (pa_cons (pv 2) (pa_cons (pe_tup (pa_cons (pv 3) (pa_cons (pv 5) pa_nil))) pa_nil)))))))))),?_⟩
    refine⟨_,rfl,p,dx,_,rfl,hp,wf_no W (by decide +kernel),_,rfl,p,h,W,rfl,S,?_⟩
    rcases k with⟨o|⟨⟨q,G,i⟩,o⟩,k⟩|⟨q,G,i,⟨q2,G2,i2⟩,z1,z2,k⟩
    · exact .inl ⟨o,k⟩
    · exact .inr ⟨q,G,i,_,rfl,p,dx,_,rfl,hp,wf_no W (by decide +kernel),_,rfl,p,g,W,rfl,S,.inl ⟨o,k⟩⟩
    · obtain⟨dx1,hq⟩:=(i.at S).ob
      refine .inr ⟨q,G,i,_,rfl,p,dx,_,rfl,hp,wf_no W (by decide +kernel),_,rfl,p,g,W,rfl,S,.inr ⟨q2,G2,i2,?_⟩⟩
      refine⟨_,rfl,q,dx1,_,rfl,hq,hf_no G (by decide +kernel),_,rfl,_,rfl,p,CW,dx,_,_,rfl,hp,TW.cl,TW.nS,wf_share W,q,b,G,tb,W.share,rfl,i.at S,hb,z1,z2,?_⟩
      rcases k with k|⟨h1,h2,o,h3,h4,z3,k⟩
      · exact .inl k
      · refine .inr (.inl ⟨h1,h2,o,h3,fun H1 S1 fr1=>?_⟩)
        obtain⟨W1,wf1⟩:=S.step i.2 S1 fr1 fun b hb=>.inl hb
        have kt1:=WFr.keepT S wf1
        obtain⟨dx2,hq1⟩:=S1.ob
        refine⟨_,rfl,q,dx2,_,rfl,hq1,hf_no _ (by decide +kernel),_,rfl,q,b,_,tb,rfl,S1,kt1.tup _ _ hb,_,rfl,?_⟩
        have e4:decide (((G.recs.find? (fun q=>decide (q.1=tb))).map (·.2))=some 0)=false:=by rw[h4];rfl
        rw[e4]
        refine iteF ?_
        obtain⟨dx3,hp3⟩:=W1.ob
        obtain⟨dx4,hq4⟩:=W1.po.ob
        refine⟨_,rfl,p,CW,dx3,_,_,rfl,hp3,TW.cl,TW.nP,wf_post _,W.po,dx4,_,rfl,hq4,pflds_no _ _ (by decide +kernel) (by decide +kernel),_,rfl,_,rfl,_,rfl,_,rfl,(by show 2≤sizeLine;decide),fun a ha=>?_⟩
        have s2:=same_new (o:=.tup [V.ref b,V.int W.share]) ha
        have W2:=W1.same s2
        refine⟨W.po,W.pd,W.c,W.ls,_,_,_,_,rfl,W2.po,z3,fun t H3 ht et S3 fr3=>?_⟩
        obtain⟨W3,wf3⟩:=W2.posted S3 fr3
        have kt3:=WFr.keepT W2 wf3
        refine k t H3 W3 ⟨a,b,et,kt3.tup _ _ upd_same,kt3.tup _ _ (s2 _ _ (kt1.tup _ _ hb))⟩ fun b' o' e' hb'=>?_
        have e1:=wf1 b' o' e' hb'
        refine fr3 b' o' (s2 _ _ e1) (fun z=>hb' (ZB _ (by rw[z];simp[wtop]))) fun z=>hb' (ZB _ (by rw[z];simp[wtop]))
def askD(c b n turn:Int)(i:Nat):PyData:=.tuple [.int (c+1+i),.str "ask",.int b,.int i,.tuple [.int n,.int turn]]
structure Lets(K:PySem.W.Frag)(H:Hp)(c b n turn:Int)(L:List (Int×Addr))(m:Nat):Prop where
  num:L.map (·.1)=(List.range m).map fun(i:Nat)=>c+1+(i:Int)
  rep:Paired (fun(x:Int×Addr)(i:Nat)=>RepT K H (.ref x.2) (askD c b n turn i)) L (List.range m)
theorem Lets.keep{H H':Hp}{c b n turn:Int}{L:List (Int×Addr)}{m:Nat}(x:Lets K H c b n turn L m)(k:KeepT H H'):Lets K H' c b n turn L m:=⟨x.num,paired_mono (fun _ _ r=>r.keep k) x.rep⟩
theorem Lets.len{H:Hp}{c b n turn:Int}{L:List (Int×Addr)}{m:Nat}(x:Lets K H c b n turn L m):L.length=m:=by have:=Paired.length x.rep;rw[List.length_range] at this;exact this
def spWAskAll(CW C CP:Addr)(K:PySem.W.Frag):Sp:=fun vs H Q _=>∃(p:Addr)(b n turn:Int)(W:WGh),vs=[.ref p,.int b,.int n,.int turn]∧WorldAt CW C CP H p W∧W.qs.length≤12∧W.ls.length≤400 ∧
  ∀(l:Addr)(L:List (Int×Addr))(H':Hp),WorldAt CW C CP H' p { W with c:=W.c+(W.qs.length:Nat),ls:=W.ls++L }→Lets K H' W.c b n turn L W.qs.length→WFr p W H H'→Q (.ref l) H'
theorem scWAskAll:FnScope ["self","beginner","n","turn"] ["self","beginner","n","turn"] (defScope sWAskAll):=⟨rfl,rfl,rfl,by decide +kernel,rfl,by decide +kernel,by decide +kernel⟩
theorem ok_waskall{f f3:Addr}{fd d3:FuncData}(F:Fun K "ask_all" "World.ask_all" sWAskAll f fd)(T:Txt K mg C NHd NNr MI NW)(TW:TxtW K mg CW NH NI)(TP:TxtP K mg CP NL)(M3:Mth K CP "put" "Post.put" sPPut ["self","kind","sender","goal","about"] f3 d3) :
    FnOk P w K mg base CX0 2 f fd ["self","beginner","n","turn"] (spWAskAll CW C CP K):=by
  have G3:FnOk P w K mg base CX0 1 f3 d3 ["self","kind","sender","goal","about"] (spPPut CP):=ok_pput M3.fn TP
  refine F.ok scWAskAll (fun vs H Q E h=>?_) (fun cdv A outer s H vs Q E hr h=>?_)
  · obtain⟨p,b,n,turn,W,rfl,_⟩:=h
    rfl
  · obtain⟨p,b,n,turn,W,rfl,S,z1,z2,k⟩:=h
    obtain⟨dx,hp⟩:=S.ob
    refine⟨_,pss_one (ps_ret (pe_comp (te:=tMeth CP "put" (spPPut CP) [] E0 (tFld K (tVar 1) "post") (tCons (tC (.str "ask")) (tCons (tVar 2) (tCons (tVar 0) (tCons (tTup (tCons (tVar 3) (tCons (tVar 4) tNil))) tNil))))) (caps:=[("self",0),("beginner",1),("n",2),("turn",3)]) rfl (pi_range1 rfl T.range (pa_cons (pe_callB call_len_seq (by rfl) T.len PySem.boot_len (pa_cons (pe_fld (pv 0) rfl) pa_nil)) pa_nil))
          rfl (by decide +kernel) rfl (by decide +kernel) rfl ⟨rfl,rfl,rfl,rfl,trivial⟩ (fun y h=>has6 ⟨_,rfl⟩ ⟨_,rfl⟩ ⟨_,rfl⟩ ⟨_,rfl⟩ h) ⟨⟨rfl,rfl,rfl,rfl⟩,⟨rfl,rfl,rfl,rfl⟩,⟨rfl,rfl,rfl,rfl⟩,⟨rfl,rfl,rfl,rfl⟩,trivial⟩ (by decide +kernel) (fun _ _ _ _ _=>pts_nil)
          (fun _ _ _ _ _=>pe_meth (pl:=_) (pe_fld (pv 1) rfl) TP.cl M3.mt G3 hr M3.bd .nil pass0 (pa_cons pe_str (pa_cons (pv 2) (pa_cons (pv 0) (pa_cons (pe_tup (pa_cons (pv 3) (pa_cons (pv 4) pa_nil))) pa_nil))))))),?_⟩
    have e0:((W.qs.map fun q=>V.ref q.1).length:Int)=W.qs.length:=by simp
    refine⟨_,rfl,p,CW,dx,_,_,rfl,hp,TW.cl,TW.nH,wf_houses W,W.hs,_,rfl,.inl (SqL.of S.hs),(W.qs.length:Int),(by rw[e0]),by omega,by omega,fun r hr'=>?_⟩
    rw[Int.toNat_natCast]
    have s0:=same_new (o:=.lst []) hr'
    have S0:=S.same s0
    have S0':WorldAt CW C CP (upd H r (.lst [])) p { W with c:=W.c+((0:Nat):Int),ls:=W.ls++[] }:=by
      rw[show W.c+((0:Nat):Int)=W.c by simp,List.append_nil];exact S0
    refine comp_range (lo:=0) (n:=W.qs.length) (tt:=fun _ H Q=>Q true H) (te:=tMeth CP "put" (spPPut CP) [] E0 (tFld K (tVar 1) "post") (tCons (tC (.str "ask")) (tCons (tVar 2) (tCons (tVar 0) (tCons (tTup (tCons (tVar 3) (tCons (tVar 4) tNil))) tNil))))) (caps:=[("self",0),("beginner",1),("n",2),("turn",3)]) (σ:=[some (.ref p),some (.int b),some (.int n),some (.int turn)])
      (fun i ys H2=>H2 r=some (.lst ys)∧ys.length=i∧∃L,WorldAt CW C CP H2 p { W with c:=W.c+(i:Nat),ls:=W.ls++L }∧Lets K H2 W.c b n turn L i∧WFr p W H H2) ⟨upd_same,rfl,[],S0',⟨rfl,.nil⟩,fun b o e _=>s0 b o e⟩ (fun i ys H2 _ h=>h.1) ?_ ?_
    · rintro i ys H2 N hi ⟨er,ly,L,W2,l2,wf2⟩ hN
      refine iteT ?_
      have rno:r∉wfoot p { W with c:=W.c+(i:Nat),ls:=W.ls++L }:=fun m=>S.none_no hr' m
      obtain⟨dx2,hp2⟩:=W2.ob
      obtain⟨dx3,hq2⟩:=W2.po.ob
      refine⟨_,rfl,p,CW,dx2,_,_,rfl,hp2,TW.cl,TW.nP,wf_post _,W.po,dx3,_,rfl,hq2,pflds_no _ _ (by decide +kernel) (by decide +kernel),_,rfl,_,rfl,_,rfl,_,rfl,(by show 2≤sizeLine;decide),fun a ha=>?_⟩
      have s3:=same_new (o:=.tup [V.int n,V.int turn]) ha
      have W3:=W2.same s3
      refine⟨W.po,W.pd,_,_,_,_,_,_,rfl,W3.po,(by rw[ZE,l2.len];omega),fun t H4 ht et S4 fr4=>?_⟩
      obtain⟨W4,wf4⟩:=W3.posted S4 fr4
      have kt3:=KeepT.of_same s3
      have kt4:=WFr.keepT W3 wf4
      have er4:H4 r=some (.lst ys):=wf4 _ _ (s3 _ _ er) rno
      refine⟨er4,small1000 (by omega),hN _ _ ⟨upd_same,by rw[ZE,ly];rfl,L++[(W.c+(i:Nat)+1,t)],?_,?_,?_⟩⟩
      · have e1:W.c+((i+1:Nat):Int)=W.c+(i:Nat)+1:=by omega
        rw[e1,←List.append_assoc]
        exact W4.keep fun b o hb e=>by rw[upd_ne (fun z=>rno (by rw[←z];exact hb))];exact e
      · have kq:KeepT H4 (upd H4 r (.lst (ys++[V.int (W.c+(i:Nat)+1)]))):=KeepT.upd fun o' e=>by
          rw[er4] at e;cases e;exact⟨fun _ z=>(by cases z),fun _ _ z=>(by cases z)⟩
        have kk:=(kt3.trans kt4).trans kq
        refine⟨by rw[ZF,l2.num,List.range_succ,ZF];congr 1;show [W.c+(i:Nat)+1]=[W.c+1+(i:Int)];congr 1;omega,?_⟩
        rw[List.range_succ]
        refine paired_snoc ?_ (paired_mono (fun _ _ rr=>rr.keep kk) l2.rep)
        have ea:=kt4.tup _ _ (show(upd H2 a (.tup [V.int n,V.int turn])) a=some (.tup [V.int n,V.int turn]) from upd_same)
        have e1:W.c+1+(i:Int)=W.c+(i:Nat)+1:=by omega
        have e2:(0:Int)+(i:Int)=(i:Int):=by omega
        rw[e2] at et
        unfold askD
        rw[e1]
        exact .tupP (SqT.of (kq.tup _ _ et)) (.cons (.int _) (.cons (.str _) (.cons (.int _) (.cons (.int _) (.cons (.tupP (SqT.of (kq.tup _ _ ea)) (.cons (.int _) (.cons (.int _) .nil))) .nil)))))
      · intro b' o' e' hb'
        have hbr:b'≠r:=fun z=>by rw[z] at e';rw[hr'] at e';cases e'
        rw[upd_ne hbr]
        exact wf4 b' o' (s3 _ _ (wf2 b' o' e' hb')) hb'
    · rintro ys H2 ⟨er,ly,L,W2,l2,wf2⟩
      exact k r L H2 W2 l2 wf2
def spWAsk(CW C CP NH:Addr)(K:PySem.W.Frag):Sp:=fun vs H Q E=>∃(p:Addr)(h:Int)(W:WGh),vs=[.ref p,.int h]∧WorldAt CW C CP H p W∧((OutW W h∧E (.ref NH) none H) ∨
  ((∃q G,InW W h q G)∧W.qs.length≤12∧W.ls.length≤400∧W.iqs.length≤400∧(∀l∈W.iqs,l.1≠(W.iqs.length:Int)+1) ∧
    ∀(n:Int)(io:Addr)(L:List (Int×Addr))(H':Hp),n=(W.iqs.length:Int)+1→WorldAt CW C CP H' p { W with iqs:=W.iqs++[(n,io)],c:=W.c+(W.qs.length:Nat),ls:=W.ls++L }→Lets K H' W.c h n 1 L W.qs.length→WFr p W H H'→Q (.int n) H'))
theorem scWAsk:FnScope ["self","h","n"] ["self","h"] (defScope sWAsk):=⟨rfl,rfl,rfl,by decide +kernel,rfl,by decide +kernel,by decide +kernel⟩
theorem ok_wask{f fH f1 fI:Addr}{fd dH d1 dI:FuncData}(F:Fun K "ask" "World.ask" sWAsk f fd)(T:Txt K mg C NHd NNr MI NW)(TW:TxtW K mg CW NH NI)(TI:TxtI K mg CI)(MH:Mth K CW "house" "World.house" sWHouse ["self","h"] fH dH)(MmI:Mk K CI fI)(FI:Fun K "__init__" "Inquiry.__init__" sIInit fI dI)(bI:Binds K dI ["self","many"] [])(M1:Mth K CW "ask_all" "World.ask_all" sWAskAll ["self","beginner","n","turn"] f1 d1)(G1:FnOk P w K mg base CX0 2 f1 d1 ["self","beginner","n","turn"] (spWAskAll CW C CP K)):FnOk P w K mg base (CX1 P w) 3 f fd ["self","h"] (spWAsk CW C CP NH K):=by
  have GH:FnOk P w K mg base (CX1 P w) 1 fH dH ["self","h"] (spWHouse CW C CP NH):=ok_whouse MH.fn T TW
  have GI:FnOk P w K mg base (CX1 P w) 1 fI dI ["self","many"] (spIInit CI):=FX.FnOk.to1 (ok_iinit FI TI)
  have G1':FnOk P w K mg base (CX1 P w) 2 f1 d1 ["self","beginner","n","turn"] (spWAskAll CW C CP K):=FX.FnOk.to1 G1
  refine ok1 F scWAsk (fun vs H Q E h=>?_) (fun cdv A outer s H vs Q E hr h=>?_)
  · obtain⟨p,h,W,rfl,_⟩:=h
    rfl
  · obtain⟨p,h,W,rfl,S,k⟩:=h
    have hu:=hu_of hr
    have hr1:Room 1 _:=hr.mono (by decide)
    obtain⟨dx,hp⟩:=S.ob
    refine⟨_,pss_cons (ps_expr (pe_meth (pl:=_) (pv 0) TW.cl MH.mt GH hr1 MH.bd .nil pass1 (pa_cons (pv 1) pa_nil)))
      (pss_cons (ps_set (i:=2) scWAsk.nd rfl (Or.inl rfl) (pe_op op_add (pe_callB call_lenD (by rfl) T.len PySem.boot_len (pa_cons (pe_fld (pv 0) rfl) pa_nil)) pe_int))
      (pss_cons (ps_dput hu (pe_fld (pv 0) rfl) (pv 2) (pe_make MmI GI hr (by rfl) TI.mgC bI .nil pass1 (pa_cons (pe_callB call_len_seq (by rfl) T.len PySem.boot_len (pa_cons (pe_fld (pv 0) rfl) pa_nil)) pa_nil)) rfl)
      (pss_cons (ps_expr (pe_meth (pl:=_) (pv 0) TW.cl M1.mt G1' hr M1.bd .nil pass1 (pa_cons (pv 1) (pa_cons (pv 2) (pa_cons pe_int pa_nil)))))
      (pss_one (ps_ret (pv 2)))))),?_⟩
    refine⟨_,rfl,p,dx,_,rfl,hp,wf_no W (by decide +kernel),_,rfl,p,h,W,rfl,S,?_⟩
    rcases k with k|⟨⟨q,G,i⟩,z1,z2,z3,h1,k⟩
    · exact .inl k
    · refine .inr ⟨q,G,i,?_⟩
      refine⟨_,rfl,p,CW,dx,_,_,rfl,hp,TW.cl,TW.nI,wf_inq W,W.iq,_,rfl,S.iq,_,_,rfl,rfl,?_⟩
      rw[kvs_len]
      refine⟨_,rfl,p,CW,dx,_,_,rfl,hp,TW.cl,TW.nH,wf_houses W,W.hs,_,rfl,.inl (SqL.of S.hs),fun io dxi nio ndx nex=>?_⟩
      refine⟨io,dxi,_,rfl,upd_same,fun H1 kp1 e1=>⟨rfl,?_⟩⟩
      have s0:Same H (upd (upd H dxi (.own io)) io (.ins CI dxi [])):=fun b o e=>by
        rw[upd_ne (ne_of_none e nio),upd_ne (ne_of_none e ndx)]
        exact e
      have s1:Same H H1:=fun b o e=>kp1 b o (s0 b o e) (ne_of_none e nio)
      have S1:=S.same s1
      obtain⟨dx1,hp1⟩:=S1.ob
      refine⟨_,rfl,p,CW,dx1,_,_,rfl,hp1,TW.cl,TW.nI,wf_inq W,_,rfl,W.iq,_,rfl,DPut.k (k:=Sum.inl ((W.iqs.length:Int)+1)) S1.iq (by rw[kvs_len];exact small1000 (by omega)),?_⟩
      rw[kvs_put h1]
      obtain⟨W2,wf2⟩:=S1.inqs (l:=W.iqs++[((W.iqs.length:Int)+1,io)])
      obtain⟨dx2,hp2⟩:=W2.ob
      refine⟨_,rfl,p,dx2,_,rfl,hp2,wf_no _ (by decide +kernel),_,rfl,_,rfl,p,h,(W.iqs.length:Int)+1,1,_,rfl,W2,z1,z2,fun l L H3 W3 l3 wf3=>?_⟩
      exact⟨_,rfl,k _ io L H3 rfl W3 l3 fun b o e hb=>wf3 b o (wf2 b o (s1 b o e) hb) hb⟩
structure Empty(G:HGh)(i:Nat):Prop where
  eq:∃h o l r,G=⟨(i:Int),0,0,h,o,l,r,[],[],[],[]⟩
def spWInit(CW C CP:Addr):Sp:=fun vs H Q _=>∃(p dx:Addr)(m sh:Int),vs=[.ref p,.int m,.int sh]∧H p=some (.ins CW dx [])∧0≤m∧m≤12 ∧
  ∀(W:WGh)(H':Hp),WorldAt CW C CP H' p W→W.share=sh→W.c=0→W.ls=[]→W.iqs=[]→W.fis=[]→W.ens=[]→W.qs.length=m.toNat→(∀i q G,W.qs[i]?=some (q,G)→Empty G i)→(∀b u,H b=some u→b≠p→H' b=some u)→Q .non H'
theorem scWInit:FnScope ["self","many","share"] ["self","many","share"] (defScope sWInit):=⟨rfl,rfl,rfl,by decide +kernel,rfl,by decide +kernel,by decide +kernel⟩
theorem ok_winit{f fI fP:Addr}{fd dI dP:FuncData}(F:Fun K "__init__" "World.__init__" sWInit f fd)(T:Txt K mg C NHd NNr MI NW)(TW:TxtW K mg CW NH NI)(TP:TxtP K mg CP NL)(MmH:Mk K C fI)(FI:Fun K "__init__" "House.__init__" sInit fI dI)(bI:Binds K dI ["self","number"] [])(MmP:Mk K CP fP)(FP:Fun K "__init__" "Post.__init__" sPInit fP dP)(bP:Binds K dP ["self"] []):FnOk P w K mg base CX0 3 f fd ["self","many","share"] (spWInit CW C CP):=by
  have GI:FnOk P w K mg base CX0 1 fI dI ["self","number"] (spInit C):=ok_init FI T
  have GP:FnOk P w K mg base CX0 1 fP dP ["self"] (spPInit CP):=ok_pinit FP TP
  refine F.ok scWInit (fun vs H Q E h=>?_) (fun cdv A outer s H vs Q E hr h=>?_)
  · obtain⟨p,dx,m,sh,rfl,_⟩:=h
    rfl
  · obtain⟨p,dx,m,sh,rfl,hp,m0,m1,k⟩:=h
    refine⟨_,pss_cons (ps_fld (pv 0) (pv 2) rfl)
      (pss_cons (ps_fld (pv 0) (pe_comp (te:=tMake C (spInit C) [] E0 (tCons (tVar 0) tNil)) (caps:=[]) rfl (pi_range1 rfl T.range (pa_cons (pv 1) pa_nil))
          rfl (by decide +kernel) rfl (by decide +kernel) rfl trivial (fun y h=>hasG h) trivial (by decide +kernel) (fun _ _ _ _ _=>pts_nil)
          (fun _ _ _ _ _=>pe_make MmH GI hr (by rfl) T.mgC bI .nil pass0 (pa_cons (pv 0) pa_nil))) rfl)
      (pss_cons (ps_fld (pv 0) (pe_make0 MmP GP hr (by rfl) TP.mgC bP .nil pass0) rfl)
      (pss_cons (ps_fld (pv 0) pe_dnewK rfl) (pss_cons (ps_fld (pv 0) pe_dnewK rfl) (pss_one (ps_fld (pv 0) pe_dnewK rfl)))))),?_⟩
    refine⟨_,rfl,_,rfl,p,CW,dx,[],rfl,hp,TW.cl,TW.nS,(by show 0<1000;decide),?_⟩
    have h1:(upd H p (.ins CW dx (putF "share" (.int sh) []))) p=some (.ins CW dx (putF "share" (.int sh) [])):=upd_same
    have k1:Kp p H (upd H p (.ins CW dx (putF "share" (.int sh) []))):=Kp.updp
    generalize upd H p (.ins CW dx (putF "share" (.int sh) []))=H1 at h1 k1
    have mm:(m.toNat:Int)=m:=Int.toNat_of_nonneg m0
    refine⟨_,rfl,m,rfl,by omega,by omega,fun r hr'=>?_⟩
    have li0:Lies (upd H1 r (.lst [])) [r,p]:=(Lies.mk (L:=[p]) (by simp) (fun b hb=>by rw[ZK hb];exact⟨_,h1⟩)).new hr' ⟨_,upd_same⟩ fun b o e=>⟨o,same_new hr' b o e⟩
    refine comp_range (lo:=0) (n:=m.toNat) (tt:=fun _ H Q=>Q true H) (te:=tMake C (spInit C) [] E0 (tCons (tVar 0) tNil)) (caps:=[]) (σ:=[some (.ref p),some (.int m),some (.int sh)])
      (fun i ys H2=>H2 r=some (.lst ys)∧Same H1 H2∧∃qs:List (Addr×HGh),ys=qs.map (fun q=>V.ref q.1)∧qs.length=i∧(∀j q G,qs[j]?=some (q,G)→Empty G j)∧(∀q∈qs,HouseAt C H2 q.1 q.2)∧Lies H2 (hfoot qs++[r,p]))
      ⟨upd_same,same_new hr',[],rfl,rfl,fun j q G e=>by simp at e,fun q hq=>by simp at hq,li0⟩ (fun i ys H2 _ h=>h.1) ?_ ?_
    · rintro i ys H2 N hi ⟨er,s2,qs,rfl,ql,em,ho,li⟩ hN
      refine iteT ?_
      refine⟨_,rfl,fun x dxx nx ndx nex=>⟨x,dxx,_,rfl,upd_same,fun h o l r' H3 fh fo fl fr S3 kp3=>⟨rfl,?_⟩⟩⟩
      have s02:Same H2 (upd (upd H2 dxx (.own x)) x (.ins C dxx [])):=fun b o e=>by
        rw[upd_ne (ne_of_none e nx),upd_ne (ne_of_none e ndx)]
        exact e
      have s3:Same H2 H3:=fun b o e=>kp3 b o (s02 b o e) (ne_of_none e nx)
      have er3:=s3 _ _ er
      have e0:(0:Int)+(i:Int)=(i:Int):=by omega
      rw[e0] at S3
      refine⟨er3,small1000 (by rw[ZA];omega),hN _ _ ⟨upd_same,fun b o e=>?_,qs++[(x,⟨(i:Int),0,0,h,o,l,r',[],[],[],[]⟩)],by rw[ZF];rfl,by rw[ZE,ql];rfl,fun j q G e=>?_,fun q hq=>?_,?_⟩⟩
      · rw[upd_ne (fun z=>by rw[z,hr'] at e;cases e)]
        exact s3 _ _ (s2 _ _ e)
      · by_cases z:j<qs.length
        · rw[List.getElem?_append_left z] at e
          exact em j q G e
        · rw[List.getElem?_append_right (by omega)] at e
          have zj:j-qs.length=0:=by
            rcases Nat.eq_zero_or_pos (j-qs.length) with h|h
            · exact h
            · rw[List.getElem?_eq_none (by simp;omega)] at e;cases e
          rw[zj] at e
          have e:(x,(⟨(i:Int),0,0,h,o,l,r',[],[],[],[]⟩:HGh))=(q,G):=by simpa using e
          have ej:j=i:=by omega
          rw[ej,←(Prod.mk.inj e).2]
          exact⟨_,_,_,_,rfl⟩
      · have all:∀q∈qs++[(x,(⟨(i:Int),0,0,h,o,l,r',[],[],[],[]⟩:HGh))],HouseAt C H3 q.1 q.2:=fun q hq=>by
          rcases ZI hq with hq|hq
          · exact(ho q hq).same s3
          · rw[ZK hq];exact S3
        have hq3:=all q hq
        have ne:=hq3.lst_ne er3
        exact hq3.keep fun b o hb e=>by
          rw[upd_ne (fun z=>by rw[z] at hb;exact hb.elim ne.1 ne.2)];exact e
      · have a1:Lies H3 ((x::foot ⟨(i:Int),0,0,h,o,l,r',[],[],[],[]⟩)++(hfoot qs++[r,p])):=by
          refine li.add (List.nodup_cons.mpr ⟨fun m=>S3.p_ne m rfl,S3.nd⟩) (fun b hb=>?_) (fun b hb=>?_) fun b o e=>⟨o,s3 b o e⟩
          · rcases ZM hb with rfl|hb
            · exact nx
            · simp only[foot,List.map_nil,List.mem_cons,List.not_mem_nil,or_false] at hb
              rcases hb with rfl|rfl|rfl|rfl
              · exact same_free s02 fh
              · exact same_free s02 fo
              · exact same_free s02 fl
              · exact same_free s02 fr
          · rcases ZM hb with rfl|hb
            · obtain⟨d,e⟩:=S3.ob;exact⟨_,e⟩
            · obtain⟨kv,e⟩:=S3.foot_dT hb;exact⟨_,e⟩
        have a2:hfoot (qs++[(x,(⟨(i:Int),0,0,h,o,l,r',[],[],[],[]⟩:HGh))])++[r,p]=(hfoot qs++(x::foot ⟨(i:Int),0,0,h,o,l,r',[],[],[],[]⟩))++[r,p]:=by
          rw[hfoot_app]
          show(hfoot qs++((x::foot ⟨(i:Int),0,0,h,o,l,r',[],[],[],[]⟩)++[]))++[r,p]=_
          rw[List.append_nil]
        rw[a2]
        refine((a1.perm ?_).keep fun b o e=>?_)
        · rw[←List.append_assoc]
          exact List.Perm.append_right _ List.perm_append_comm
        · by_cases z:b=r
          · rw[z];exact⟨_,upd_same⟩
          · exact⟨o,by rw[upd_ne z];exact e⟩
    · rintro ys H2 ⟨er,s2,qs,rfl,ql,em,ho,li⟩
      have hp2:=s2 _ _ h1
      have l1:=length_putF "share" (.int sh) []
      refine⟨_,rfl,p,CW,dx,_,rfl,hp2,TW.cl,TW.nH,(by simp only[List.length_nil] at l1;omega),?_⟩
      have l2:=length_putF "houses" (.ref r) (putF "share" (.int sh) [])
      have k3:Kp p H2 (upd H2 p (.ins CW dx (putF "houses" (.ref r) (putF "share" (.int sh) [])))):=Kp.updp
      have hp3:(upd H2 p (.ins CW dx (putF "houses" (.ref r) (putF "share" (.int sh) [])))) p=some (.ins CW dx (putF "houses" (.ref r) (putF "share" (.int sh) []))):=upd_same
      generalize upd H2 p (.ins CW dx (putF "houses" (.ref r) (putF "share" (.int sh) [])))=H3 at k3 hp3
      have li3:=li.keep (k3.ex ⟨_,hp3⟩)
      intro po dxp npo ndxp nexp
      refine⟨po,dxp,rfl,upd_same,fun pd H4 hpd P4 kp4=>⟨rfl,?_⟩⟩
      have s34:Same H3 (upd (upd H3 dxp (.own po)) po (.ins CP dxp [])):=fun b o e=>by
        rw[upd_ne (ne_of_none e npo),upd_ne (ne_of_none e ndxp)]
        exact e
      have s4:Same H3 H4:=fun b o e=>kp4 b o (s34 b o e) (ne_of_none e npo)
      have hp4:=s4 _ _ hp3
      have li4:Lies H4 (pd::po::(hfoot qs++[r,p])):=by
        have a:=li3.new (b:=po) (H':=upd (upd H3 dxp (.own po)) po (.ins CP dxp [])) npo ⟨_,upd_same⟩ fun b o e=>⟨o,s34 b o e⟩
        refine a.new hpd ⟨_,P4.dc⟩ fun b o e=>?_
        by_cases z:b=po
        · rw[z];obtain⟨d,e2⟩:=P4.ob;exact⟨_,e2⟩
        · exact⟨o,kp4 b o e z⟩
      refine⟨_,rfl,p,CW,dx,_,rfl,hp4,TW.cl,TW.nP,(by simp only[List.length_nil] at l1;omega),?_⟩
      have l3:=length_putF "post" (.ref po) (putF "houses" (.ref r) (putF "share" (.int sh) []))
      have k5:Kp p H4 (upd H4 p (.ins CW dx (putF "post" (.ref po) (putF "houses" (.ref r) (putF "share" (.int sh) []))))):=Kp.updp
      have hp5:(upd H4 p (.ins CW dx (putF "post" (.ref po) (putF "houses" (.ref r) (putF "share" (.int sh) []))))) p=some (.ins CW dx (putF "post" (.ref po) (putF "houses" (.ref r) (putF "share" (.int sh) [])))):=upd_same
      generalize upd H4 p (.ins CW dx (putF "post" (.ref po) (putF "houses" (.ref r) (putF "share" (.int sh) []))))=H5 at k5 hp5
      have li5:=li4.keep (k5.ex ⟨_,hp5⟩)
      intro iq hiq
      have li6:=li5.new (H':=upd H5 iq (.dK [])) hiq ⟨_,upd_same⟩ fun b o e=>⟨o,same_new hiq b o e⟩
      have eiq:(upd H5 iq (.dK [])) iq=some (.dK []):=upd_same
      have s6:=same_new (o:=.dK []) hiq
      generalize upd H5 iq (.dK [])=H6 at li6 eiq s6
      refine⟨_,rfl,p,CW,dx,_,rfl,s6 _ _ hp5,TW.cl,TW.nI,(by simp only[List.length_nil] at l1;omega),?_⟩
      have l4:=length_putF "inquiries" (.ref iq) (putF "post" (.ref po) (putF "houses" (.ref r) (putF "share" (.int sh) [])))
      have k7:Kp p H6 (upd H6 p (.ins CW dx (putF "inquiries" (.ref iq) (putF "post" (.ref po) (putF "houses" (.ref r) (putF "share" (.int sh) [])))))):=Kp.updp
      have hp7:(upd H6 p (.ins CW dx (putF "inquiries" (.ref iq) (putF "post" (.ref po) (putF "houses" (.ref r) (putF "share" (.int sh) [])))))) p=some (.ins CW dx (putF "inquiries" (.ref iq) (putF "post" (.ref po) (putF "houses" (.ref r) (putF "share" (.int sh) []))))):=upd_same
      generalize upd H6 p (.ins CW dx (putF "inquiries" (.ref iq) (putF "post" (.ref po) (putF "houses" (.ref r) (putF "share" (.int sh) [])))))=H7 at k7 hp7
      have li7:=li6.keep (k7.ex ⟨_,hp7⟩)
      intro fi hfi
      have li8:=li7.new (H':=upd H7 fi (.dK [])) hfi ⟨_,upd_same⟩ fun b o e=>⟨o,same_new hfi b o e⟩
      have efi:(upd H7 fi (.dK [])) fi=some (.dK []):=upd_same
      have s8:=same_new (o:=.dK []) hfi
      generalize upd H7 fi (.dK [])=H8 at li8 efi s8
      refine⟨_,rfl,p,CW,dx,_,rfl,s8 _ _ hp7,TW.cl,TW.nF,(by simp only[List.length_nil] at l1;omega),?_⟩
      have l5:=length_putF "finds" (.ref fi) (putF "inquiries" (.ref iq) (putF "post" (.ref po) (putF "houses" (.ref r) (putF "share" (.int sh) []))))
      have k9:Kp p H8 (upd H8 p (.ins CW dx (putF "finds" (.ref fi) (putF "inquiries" (.ref iq) (putF "post" (.ref po) (putF "houses" (.ref r) (putF "share" (.int sh) []))))))):=Kp.updp
      have hp9:(upd H8 p (.ins CW dx (putF "finds" (.ref fi) (putF "inquiries" (.ref iq) (putF "post" (.ref po) (putF "houses" (.ref r) (putF "share" (.int sh) []))))))) p=some (.ins CW dx (putF "finds" (.ref fi) (putF "inquiries" (.ref iq) (putF "post" (.ref po) (putF "houses" (.ref r) (putF "share" (.int sh) [])))))):=upd_same
      generalize upd H8 p (.ins CW dx (putF "finds" (.ref fi) (putF "inquiries" (.ref iq) (putF "post" (.ref po) (putF "houses" (.ref r) (putF "share" (.int sh) []))))))=H9 at k9 hp9
      have li9:=li8.keep (k9.ex ⟨_,hp9⟩)
      intro en hen
      have li10:=li9.new (H':=upd H9 en (.dK [])) hen ⟨_,upd_same⟩ fun b o e=>⟨o,same_new hen b o e⟩
      have een:(upd H9 en (.dK [])) en=some (.dK []):=upd_same
      have s10:=same_new (o:=.dK []) hen
      generalize upd H9 en (.dK [])=HA at li10 een s10
      refine⟨_,rfl,p,CW,dx,_,rfl,s10 _ _ hp9,TW.cl,TW.nE,(by simp only[List.length_nil] at l1;omega),?_⟩
      have kB:Kp p HA (upd HA p (.ins CW dx (putF "enclosed" (.ref en) (putF "finds" (.ref fi) (putF "inquiries" (.ref iq) (putF "post" (.ref po) (putF "houses" (.ref r) (putF "share" (.int sh) [])))))))):=Kp.updp
      have hpB:(upd HA p (.ins CW dx (putF "enclosed" (.ref en) (putF "finds" (.ref fi) (putF "inquiries" (.ref iq) (putF "post" (.ref po) (putF "houses" (.ref r) (putF "share" (.int sh) [])))))))) p=some (.ins CW dx (putF "enclosed" (.ref en) (putF "finds" (.ref fi) (putF "inquiries" (.ref iq) (putF "post" (.ref po) (putF "houses" (.ref r) (putF "share" (.int sh) []))))))):=upd_same
      generalize upd HA p (.ins CW dx (putF "enclosed" (.ref en) (putF "finds" (.ref fi) (putF "inquiries" (.ref iq) (putF "post" (.ref po) (putF "houses" (.ref r) (putF "share" (.int sh) [])))))))=HB at kB hpB
      have nd:=li10.nd
      have pm:(en::fi::iq::pd::po::(hfoot qs++[r,p])).Perm ([p,r,po,pd,iq,fi,en]++hfoot qs):=by
        have a:(hfoot qs++[r,p]).Perm ([r,p]++hfoot qs):=List.perm_append_comm
        have b:(en::fi::iq::pd::po::(hfoot qs++[r,p])).Perm ([en,fi,iq,pd,po,r,p]++hfoot qs):=((((a.cons po).cons pd).cons iq).cons fi).cons en
        refine b.trans (List.Perm.append_right _ ?_)
        exact(List.reverse_perm [p,r,po,pd,iq,fi,en])
      have nd':=pm.nodup_iff.mp nd
      have kA9:Kp p H9 HB:=Kp.trans (fun b o e _=>s10 b o e) kB
      have kA7:Kp p H7 HB:=Kp.trans (Kp.trans (fun b o e _=>s8 b o e) k9) kA9
      have kA5:Kp p H5 HB:=Kp.trans (Kp.trans (fun b o e _=>s6 b o e) k7) kA7
      have kA4:Kp p H4 HB:=k5.trans kA5
      have kA2:Kp p H2 HB:=(k3.trans (fun b o e _=>s4 b o e)).trans kA4
      have tn:=(List.nodup_append.mp nd').1
      simp only[List.nodup_cons,List.mem_cons,List.not_mem_nil,or_false,not_or,List.nodup_nil,and_true,not_false_eq_true] at tn
      obtain⟨⟨a1,a2,a3,a4,a5,a6⟩,_⟩:=tn
      have hno:∀b∈hfoot qs,b≠p:=fun b hb z=>(List.nodup_append.mp nd').2.2 p (by simp) b hb z.symm
      refine k ⟨sh,r,po,iq,fi,en,pd,0,[],qs,[],[],[]⟩ HB ⟨⟨dx,by rw[hpB,←wf_all]⟩,kA2 _ _ er (Ne.symm a1),fun q hq=>(ho q hq).keep fun b o hb e=>kA2 b o e (hno b (mem_hfoot.mpr ⟨q,hq,hb⟩)),P4.keep (fun o e=>kA4 _ _ e (Ne.symm a2)) (fun o e=>kA4 _ _ e (Ne.symm a3)),
        (k7.trans kA7) _ _ eiq (Ne.symm a4),(k9.trans kA9) _ _ efi (Ne.symm a5),kB _ _ een (Ne.symm a6),nd'⟩ rfl rfl rfl rfl rfl rfl ql em fun b u e hb=>kA2 b u (s2 b u (k1 b u e hb)) hb
end
end K53
namespace FX
open PySem PySem.Spec PyProof.Rows L2 PySem.Builtin PySem.Builtin.Str
theorem vals_strs:∀{l:List (Str×Tok)},Vals ((l.map (·.1)).map V.str) (strValues l)
  | []=>.nil
  | (x,t)::r=>.cons ⟨t,rfl⟩ vals_strs
theorem strsAre_of:∀{ys:List Str} {us:List Value},Vals (ys.map V.str) us→StrsAre us ys
  | [],_,.nil=>.nil
  | y::r,_,.cons ⟨t,e⟩ q=>by cases e;exact .cons y t (strsAre_of q)
section
variable {X:Cx}
inductive rSplit(x:V)(vs:List V)(H:Hp)(Q:VK):Prop
  | mk z y (_:x=.str z) (_:vs=[.str y]) (_:(y.length==0)=false) (_:z.length+2≤sizeLine) (_:∀l,H l=none→Q (.ref l) (upd H l (.lst ((Txt.split z y).map V.str))))
theorem mt_split:MtM X "str.split" rSplit:=by
  intro pins s σ H x vs v us Q I rx rv h
  obtain⟨z,y,rfl,rfl,hy,hz,q⟩:=h
  obtain⟨t,rfl⟩:=rx
  obtain⟨_,rfl,u,rfl⟩:=rv.one
  have hle:=split_le z y
  have fin:∀(l:List (Str×Tok))(k:Nat),l.map (·.1)=Txt.split z y→EP X pins σ Q (.ref s.heap.objs.size) { s with heap:=s.heap.push { cls:=.type "list",data:=.seq (strValues l).toArray },toks:=k }:=fun l k e =>
    ⟨.ref _,_,I.lnew (t':=k) (ys:=(Txt.split z y).map V.str) (by rw[←e];exact vals_strs) (by rw[ZA];lia),rfl,q _ I.fresh⟩
  have e2:(partsBetween z (occurrences z y 0 z.length (z.length+1)) y.length).length≤sizeLine:=by
    have:=StrLaws.occ_length_le z y 0 z.length (z.length+1)
    rw[len_partsBetween];lia
  have ar:=F.args_str_split_2 (.str z t) (.str y u)
  have en:=F.entry_str_split
  by_cases h1:(decide (z.length<y.length) || decide (strKind z<strKind y))=true
  · exact call_meets F.slot_str_split (typeIs_str _ _ _) en ar (meets_str_split_cannot_occur z y t u h1) (fin [(z,t)] s.toks (if_pos h1).symm)
  · have h1':=Bool.eq_false_iff.mpr h1
    by_cases hf:(occurrences z y 0 z.length (z.length+1)).isEmpty=true
    · exact call_meets F.slot_str_split (typeIs_str _ _ _) en ar (meets_str_split_not_found z y t u h1' hy hf) (fin [(z,t)] s.toks ((if_neg h1).trans (if_pos hf)).symm)
    · refine call_meets F.slot_str_split (typeIs_str _ _ _) en ar (meets_str_split_sep z y t u h1' hy (Bool.eq_false_iff.mpr hf) (by lia) e2) ?_
      dsimp only [wants]
      rw[strsFrom_eq]
      exact fin (numbered s.toks _) _ ((numbered_texts _ _).trans ((if_neg h1).trans (if_neg hf)).symm)
inductive rJoin(K:PySem.W.Frag)(x:V)(vs:List V)(H:Hp)(Q:VK):Prop
  | mk z l ys (_:x=.str z) (_:vs=[.ref l]) (_:SqL K H l (ys.map V.str)) (_:(ys.map (·.length)).sum+ys.length*z.length≤16777216) (_:Q (.str (Str.join z ys)) H)
theorem mt_join:MtM X "str.join" (rJoin X.K):=by
  intro pins s σ H x vs v us Q I rx rv h
  obtain⟨z,l,ys,rfl,rfl,hl,hz,q⟩:=h
  obtain⟨t,rfl⟩:=rx
  obtain⟨_,rfl,ru⟩:=rv.one
  cases ru
  obtain⟨its,r,pl,_⟩:=I.list hl
  refine join_list pl.isList (strsAre_of r) hz fun t' k=>⟨.str _,H,I.tok _,⟨_,rfl⟩,?_⟩
  rw[show Txt.join z ys=Str.join z ys from StrLaws.glued_eq_join z ys]
  exact q
inductive rPartition(x:V)(vs:List V)(H:Hp)(Q:VK):Prop
  | mk z y i is (_:x=.str z) (_:vs=[.str y]) (_:(y.length==0)=false) (_:z.length≤sizeLine) (_:occurrences z y 0 z.length 1=i::is) (_:∀p,H p=none→Q (.ref p) (upd H p (.tup [.str (strSub z 0 i),.str y,.str (strSub z (i+y.length) z.length)])))
theorem mt_partition:MtM X "str.partition" rPartition:=by
  intro pins s σ H x vs v us Q I rx rv h
  obtain⟨z,y,i,is,rfl,rfl,hy,hz,ho,q⟩:=h
  obtain⟨t,rfl⟩:=rx
  obtain⟨_,rfl,u,rfl⟩:=rv.one
  refine call_meets F.slot_str_partition (typeIs_str _ _ _) F.entry_str_partition (F.args_str_partition_2 _ _) (meets_str_partition z y t u hy hz) ?_
  rw[ho]
  refine⟨.ref s.heap.objs.size,_,I.laid (t':=s.toks+1+1) (o:=.tup [.str (strSub z 0 i),.str y,.str (strSub z (i+y.length) z.length)]) (fun b ob e=>Heap.get?_push_of_some _ e) (ZG _) ?_,rfl,q _ I.fresh⟩
  exact⟨by show 3≤sizeLine;decide,_,.cons ⟨_,rfl⟩ (.cons ⟨_,rfl⟩ (.cons ⟨_,rfl⟩ .nil)),IsTup.new _ _⟩
inductive rUpper(x:V)(vs:List V)(H:Hp)(Q:VK):Prop
  | mk z (_:x=.str z) (_:vs=[]) (_:tooLong (Txt.upper z).length=false) (_:Q (.str (Txt.upper z)) H)
theorem mt_upper:MtM X "str.upper" rUpper:=by
  intro pins s σ H x vs v us Q I rx rv h
  obtain⟨z,rfl,rfl,hz,q⟩:=h
  obtain⟨t,rfl⟩:=rx
  cases rv.zero
  exact call_meets F.slot_str_upper (typeIs_str _ _ _) F.entry_str_upper (F.args_str_upper_1 _) (gives_str_upper z t hz).meets ⟨fit_le hz,.str _,H,I.tok _,⟨_,rfl⟩,q⟩
inductive rSlS(x:V)(lo:Option Int)(hi:Option Int)(H:Hp)(Q:VK):Prop
  | mk z (_:x=.str z) (_:z.length≤sizeLine) (_:Q (.str (Txt.slice z lo hi)) H)
theorem sl_str:SlR X rSlS:=by
  intro pins s σ H x v vl vu lo hi sl Q I rx hs pl pu h
  obtain⟨z,rfl,hz,q⟩:=h
  obtain⟨t,rfl⟩:=rx
  have fin:∀t' k,EP X pins σ Q (.str (Txt.slice z lo hi) t') { s with toks:=k }:=fun t' k=>⟨.str _,H,I.tok _,⟨_,rfl⟩,q⟩
  have le:=Nat.le_trans (Txt.slice_le z lo hi) hz
  refine⟨"str",_,F.slot_str_getitem.lookup,typeIs_str _ _ _,?_⟩
  cases pl with
  | none =>
    cases pu with
    | none=>exact wpAny_getItem_str_slice (l:=none) (u:=none) (st:=none) hs rfl (post_val_or_str ⟨le,fin⟩)
    | int j u=>exact wpAny_getItem_str_slice (l:=none) (u:=some (j,u)) (st:=none) hs rfl (post_val_or_str ⟨le,fin⟩)
  | int i u' =>
    cases pu with
    | none=>exact wpAny_getItem_str_slice (l:=some (i,u')) (u:=none) (st:=none) hs rfl (post_val_or_str ⟨le,fin⟩)
    | int j u=>exact wpAny_getItem_str_slice (l:=some (i,u')) (u:=some (j,u)) (st:=none) hs rfl (post_val_or_str ⟨le,fin⟩)
inductive Rcall_str_str(xs:List V)(H:Hp)(Q:VK):Prop
  | mk z (_:xs=[.str z]) (_:Q (.str z) H)
theorem call_str_str:CallR X (.type "str") Rcall_str_str:=by
  intro pins s σ H xs us Q I r h
  obtain⟨z,rfl,q⟩:=h
  obtain⟨u,rfl,t,rfl⟩:=vals1 r
  exact PySem.P.str_of_str ⟨.str z,H,I,⟨_,rfl⟩,q⟩
inductive rMulS(x:V)(y:V)(H:Hp)(Q:VK):Prop
  | mk z n (_:x=.str z) (_:y=.int n) (_:MulOk z n) (_:Q (.str (Txt.mul z n)) H)
theorem op_mul_str:OpR X (binaryOp .Mult) rMulS:=by
  intro pins s σ H x y v u Q I rx ry h
  obtain⟨z,n,rfl,rfl,hz,q⟩:=h
  obtain⟨t,rfl⟩:=rx
  obtain⟨t',rfl⟩:=ry
  exact SB.mul hz fun t' k=>⟨.str _,H,I.tok _,⟨_,rfl⟩,q⟩
end
def Its(z:Str):It:=⟨fun i _=>i<z.length,fun i H x H'=>H'=H∧∃c,z.cps[i]?=some c∧x=.str ⟨#[c]⟩,fun i _=>z.length≤i⟩
theorem turn_str{P:Program}{w:World}{K:PySem.W.Frag}{tg:Expr}(z:Str)(t:Tok)(it:Addr)(ty:String)(hty:ty="str_ascii_iterator"∨ty="str_iterator"):Turn P w K tg (Its z) [it] it (fun i h=>h.IsStrIter it ty z t i) where
  mem:=List.mem_singleton.mpr rfl
  obj:=fun i h st b hb=>by
    have e:b=it:=by simpa using hb
    subst e
    obtain⟨o,e,c,d⟩:=st
    exact⟨o,e,fun v q=>by rw[d] at q;cases q⟩
  keep:=fun i h h' ⟨o,ho,r⟩ k=>⟨o,k it (by simp) o ho,r⟩
  item:=by
    intro X hP hw hK hc i pins s σ H E I hf st hg
    subst hP hw hK
    have hx:z.cps[i]?=some (z.cps[i]'hg):=Array.getElem?_eq_getElem hg
    obtain⟨f0,f1,f2,f3,f4,f5⟩:=hf it (by simp)
    have fin:∀h',h'.IsStrIter it ty z t (i+1)→Heap.SameBut it s.heap h'→∃u,some (Value.str ⟨#[z.cps[i]'hg]⟩ s.toks)=some u∧wpAny (model X.prog X.w) X.A (letOwnedTupleGo tg (.ref it) u) (fun _ s2=>∃x H',Inv X pins σ H' s2∧RelV x u∧(Its z).yld i H x H'∧s2.heap.IsStrIter it ty z t (i+1)∧∀b∈[it],H' b=none) E { s with heap:=h',toks:=s.toks+1 }:=fun h' st' sb=>by
      have I1:Inv X pins σ H { s with heap:=h',toks:=s.toks+1 }:=I.turned (fun b o hb e=>(sb.2 b hb).trans e) f0 f1 f3 f4 f5
      obtain⟨o,e,c,d⟩:=id st'
      refine⟨_,rfl,go_of (s:={ s with heap:=h',toks:=s.toks+1 }) e c d ?_ ⟨.str _,H,I1,⟨_,rfl⟩,⟨rfl,_,hx,rfl⟩,st',fun b hb=>(hf b hb).1⟩⟩
      rcases hty with rfl|rfl<;>decide
    rcases hty with rfl|rfl
    · exact wpAny_pyNext_ascii_item st hx fin
    · exact wpAny_pyNext_wide_item st hx fin
  done:=by
    intro X hP hw hK hc i pins s σ H E I hf st hg
    subst hP hw hK
    obtain⟨f0,f1,f2,f3,f4,f5⟩:=hf it (by simp)
    have hx:z.cps[i]?=none:=Array.getElem?_eq_none hg
    rcases hty with rfl|rfl
    · exact wpAny_pyNext_ascii_end (I.ok.hd hc) st hx fun h' eb=>⟨rfl,I.turned (t':=s.toks) (fun b o hb e=>eb b o hb e) f0 f1 f3 f4 f5⟩
    · exact wpAny_pyNext_wide_end (I.ok.hd hc) st hx fun h' eb=>⟨rfl,I.turned (t':=s.toks) (fun b o hb e=>eb b o hb e) f0 f1 f3 f4 f5⟩
  self:=fun _ _ _ _ _ st h=>by
    rcases hty with rfl|rfl
    · exact wpAny_pyIter_striter_ascii st h
    · exact wpAny_pyIter_striter_wide st h
def iStr(tl:TE):TI:=fun σ H R=>tl σ H fun x H1=>∃z,x=.str z∧R (Its z) H1
theorem pi_str{X:Cx}{tg l:Expr}{tl:TE}(hl:PE X l tl):PI X tg l (iStr tl):=by
  intro pins s σ H R I h
  refine thn (hl pins s σ H _ I h) ?_
  rintro v s1 ⟨x,H1,I1,r1,z,rfl,q⟩
  obtain⟨t,rfl⟩:=r1
  have fin:∀ty,(ty="str_ascii_iterator"∨ty="str_iterator")→PIE X pins σ tg R (.ref s1.heap.objs.size) { s1 with heap:=s1.heap.push { cls:=.type ty,data:=.fields #[.str z t,.int 0 0] } }:=fun ty hty=>by
    refine⟨s1.heap.objs.size,[s1.heap.objs.size],_,_,H1,rfl,I1.kept (t':=s1.toks) fun b o e=>Heap.get?_push_of_some _ e,turn_str z t _ ty hty,⟨_,Heap.get?_push_size _ rfl,rfl,rfl⟩,fun b hb=>?_,q⟩
    have e:b=s1.heap.objs.size:=by simpa using hb
    subst e
    exact I1.fpOk (ZG _) I1.fresh
  by_cases ha:z.cps.all (· < 128)=true
  · exact wpAny_pyIter_ascii ha (fin _ (.inl rfl))
  · exact wpAny_pyIter_wide (Bool.eq_false_iff.mpr ha) (fin _ (.inr rfl))
end FX
namespace FX
open PySem PySem.Spec PyProof.Rows L2 PySem.Builtin PySem.Builtin.Str
def isFig(c:Nat):Bool:=48≤c&&c≤57
def numOf(l:List Nat):Nat:=l.foldl (fun a c=>a*10+(c-48)) 0
def figV(c:Nat):Option Nat:=if 48≤c&&c≤57 then some (c-48) else if 97≤c&&c≤122 then some (c-87) else if 65≤c&&c≤90 then some (c-55) else none
def blk0(c:Nat):Bool:=c==32 || (9≤c&&c≤13)
def figStep(base:Nat)(p:Array Nat×Bool)(c:Nat):Option (Array Nat×Bool) :=
  match p with
  | (ds,ad)=>if c==95 then(if ad then some (ds,false) else none) else match figV c with
    | some d=>if d<base then some (ds.push d,true) else none
    | none=>none
def figsOf(base:Nat)(cs:List Nat):Option (Array Nat):=(cs.foldlM (figStep base) ((#[]:Array Nat),false)).bind fun p=>match p with
  | (ds,ad)=>if ad then some ds else none
def preB:List Nat→Option Nat
  | 48::c::_=>if c==120 || c==88 then some 16 else if c==111 || c==79 then some 8 else if c==98 || c==66 then some 2 else none
  | _=>none
def rn{α:Type}(inv:α)(tl:Nat→α)(bl:α)(val:Int→α)(limit base:Nat)(text:List Nat):α :=
  let t:=text.dropWhile blk0
  let(negative,t):=match t with
    | 45::r=>(true,r)
    | 43::r=>(false,r)
    | _=>(false,t)
  let ap:=match t.drop 2 with
    | 95::r=>r
    | r=>r
  let(b,zeroOnly,t):=match preB t with
    | some p=>if base==0 || base==p then(p,false,ap) else(base,false,t)
    | none=>if base==0 then(10,t.head?==some 48,t) else(base,false,t)
  match figsOf b (t.reverse.dropWhile blk0).reverse with
  | none=>inv
  | some ds =>
    if ![2,4,8,16,32].contains b&&limit != 0&&ds.size > limit then tl ds.size else
    if b==10&&ds.size > 6000 then bl else
    let n:=ds.foldl (fun acc d=>acc*b+d) 0
    if zeroOnly&&n != 0 then inv else val (if negative then -(n:Int) else n)
theorem isFig_le(h:isFig c=true):48≤c∧c≤57:=by
  simpa [isFig] using h
theorem figs_fold:∀(l:List Nat)(ds:Array Nat)(ad:Bool),(∀c∈l,isFig c=true)→l≠[]→l.foldlM (figStep 10) (ds,ad)=some (ds++(l.map (· - 48)).toArray,true)
  | [],_,_,_,h=>absurd rfl h
  | c::r,ds,ad,hd,_=>by
    obtain⟨a,b⟩:=isFig_le (hd c (by simp))
    have e:figStep 10 (ds,ad) c=some (ds.push (c-48),true):=by
      have e1:(c==95)=false:=by simp;lia
      have e2:figV c=some (c-48):=by unfold figV;rw[if_pos (by simp;lia)]
      show(if(c==95)=true then _ else _)=_
      rw[e1,e2]
      simp;lia
    rw[List.foldlM_cons,e]
    show List.foldlM (figStep 10) (ds.push (c-48),true) r=_
    cases r with
    | nil=>simp
    | cons x r' =>
      rw[figs_fold (x::r') _ true (fun c hc=>hd c (ZD _ hc)) (by simp)]
      simp
theorem drop_fig:∀(l:List Nat),(∀c∈l,isFig c=true)→l.dropWhile blk0=l
  | [],_=>rfl
  | c::r,hd=>by
    obtain⟨a,b⟩:=isFig_le (hd c (by simp))
    rw[List.dropWhile_cons,if_neg (by simp[blk0];lia)]
theorem rn_fig{α:Type}(inv:α)(tl:Nat→α)(bl:α)(val:Int→α)(l:List Nat)(hd:∀c∈l,isFig c=true)(hn:l≠[])(h9:l.length≤9):rn inv tl bl val 0 10 l=val (numOf l):=by
  obtain⟨c,r,rfl⟩:=List.exists_cons_of_ne_nil hn
  obtain⟨a,b⟩:=isFig_le (hd c (by simp))
  have e1:preB (c::r)=none:=by
    cases r with
    | nil=>unfold preB;split<;>simp_all
    | cons x r' =>
      obtain⟨a',b'⟩:=isFig_le (hd x (by simp))
      unfold preB
      split
      · rename_i y _ e
        injection e with _ e2
        injection e2 with e3 _
        rw[if_neg (by simp;lia),if_neg (by simp;lia),if_neg (by simp;lia)]
      · rfl
  have e2:(match (c::r:List Nat) with|45::r=>(true,r)|43::r=>(false,r)|_=>(false,c::r))=(false,c::r):=by
    split
    · rename_i e;injection e with e _;lia
    · rename_i e;injection e with e _;lia
    · rfl
  have e3:figsOf 10 (((c::r).reverse.dropWhile blk0).reverse)=some ((c::r).map (· - 48)).toArray:=by
    rw[drop_fig _ (fun c hc=>hd c (List.mem_reverse.mp hc)),List.reverse_reverse]
    unfold figsOf
    rw[figs_fold _ _ _ hd hn]
    simp
  unfold rn
  simp only[drop_fig _ hd,e2,e1]
  show(match figsOf 10 (((c::r).reverse.dropWhile blk0).reverse) with|none=>inv|some ds=>_)=_
  rw[e3]
  have h10:¬(((c::r).map (· - 48)).toArray.size > 6000):=by simp;simp at h9;lia
  simp only[bne_self_eq_false,Bool.and_false,Bool.false_and,Bool.false_eq_true,if_false,decide_eq_false h10]
  congr 1
  unfold numOf
  simp[List.foldl_map]
theorem noS_int:typeLookup (.type "str") (Str.ofString "__int__")=pure none:=by rw[typeLookup_type,builtinLookup_eq_fast];kernel_rfl
theorem noS_index:typeLookup (.type "str") (Str.ofString "__index__")=pure none:=by rw[typeLookup_type,builtinLookup_eq_fast];kernel_rfl
theorem noS_trunc:typeLookup (.type "str") (Str.ofString "__trunc__")=pure none:=by rw[typeLookup_type,builtinLookup_eq_fast];kernel_rfl
theorem take_fig:∀(l:List Nat),(∀c∈l,isFig c=true)→l.takeWhile (fun x=>x != 0)=l
  | [],_=>rfl
  | c::r,hd=>by
    obtain⟨a,b⟩:=isFig_le (hd c (by simp))
    rw[List.takeWhile_cons,if_pos (by simp;lia),take_fig r fun c hc=>hd c (ZD _ hc)]
theorem meets_int_text(z:Str)(t:Tok)(hd:∀c∈z.cps.toList,isFig c=true)(h1:1≤z.length)(h9:z.length≤9):Meets (Builtin.«int.__new__» ⟨[.type "int",.str z t],[]⟩) (Made.int (numOf z.cps.toList)).spec :=
  Meets.of_wp fun prog w A R s hs=>by
    obtain⟨hp,g,d,tk,os⟩:=s
    have f1:=F.conv_sub_int
    have f2:=F.madeHere_int
    have hT:(⟨hp,g,d,tk,os⟩:Shared).TypeIs (.str z t) "str":=rfl
    have f3:=noS_int
    have f4:=noS_index
    have f5:=noS_trunc
    repeat (any_goals (first|assumption|wp_step))
    have ha:(z.cps.all fun x=>decide (x<128))=true:=by
      rw[←Array.all_toList,List.all_eq_true]
      intro c hc
      obtain⟨a,b⟩:=isFig_le (hd c hc)
      simp;lia
    have hl:z.cps.toList.length=z.length:=by simp[Str.length]
    have hne:z.cps.toList≠[]:=fun e=>by rw[e] at hl;simp at hl;lia
    rw[if_pos ha,take_fig _ hd,if_pos (by lia)]
    refine wpAny_bind (wpAny_pure ?_)
    have key:∀{α:Type} (inv:α) (tl:Nat→α) (bl:α) (val:Int→α),rn inv tl bl val 0 10 z.cps.toList=val (numOf z.cps.toList):=fun inv tl bl val=>rn_fig inv tl bl val _ hd hne (by lia)
    dsimp only
    split
    · rename_i h
      exact absurd ((key _ _ _ _).symm.trans h) (by intro q;cases q)
    · rename_i h
      exact absurd ((key _ _ _ _).symm.trans h) (by intro q;cases q)
    · rename_i h
      have e:=(key _ _ _ _).symm.trans h
      injection e with e
      subst e
      simp only[beq_self_eq_true,if_true]
      repeat (any_goals (first|assumption|wp_step))
      all_goals first|exact⟨_,rfl,hs⟩|trace_state
    · rename_i h
      exact absurd ((key _ _ _ _).symm.trans h) (by intro q;cases q)
section
variable {X:Cx}
inductive Rcall_int_fig(xs:List V)(H:Hp)(Q:VK):Prop
  | mk z (_:xs=[.str z]) (_:∀c∈z.cps.toList,isFig c=true) (_:1≤z.length) (_:z.length≤9) (_:Q (.int (numOf z.cps.toList)) H)
theorem call_int_fig:CallR X (.type "int") Rcall_int_fig:=by
  intro pins s σ H xs us Q I r h
  obtain⟨z,rfl,hd,h1,h9,q⟩:=h
  obtain⟨u,rfl,t,rfl⟩:=vals1 r
  exact call_int_1 (meets_int_text z t hd h1 h9) (show(Made.int (numOf z.cps.toList)).post _ s from⟨rfl,.int _,H,I.tok _,⟨_,rfl⟩,q⟩)
end
end FX
namespace FX
open PySem PySem.Spec PyProof.Rows L2 PySem.Builtin PySem.Builtin.Str
abbrev one(c:Nat):Str:=⟨#[c]⟩
theorem cut_inj{c:Nat}:∀{a b x y:List Nat},c∉a→c∉b→a++c::x=b++c::y→a=b∧x=y
  | [],[],_,_,_,_,e=>⟨rfl,by simpa using e⟩
  | [],d::b,_,_,_,hb,e=>by simp at e;exact absurd e.1 (fun z=>hb (by simp[z]))
  | d::a,[],_,_,ha,_,e=>by simp at e;exact absurd e.1 (fun z=>ha (by simp[←z]))
  | d::a,f::b,x,y,ha,hb,e=>by
    simp at e
    obtain⟨h1,h2⟩:=cut_inj (fun z=>ha (ZD _ z)) (fun z=>hb (ZD _ z)) e.2
    exact⟨by rw[e.1,h1],h2⟩
theorem join_cons2(c:Nat)(a b:Str)(r:List Str):(Str.join (one c) (a::b::r)).cps.toList=a.cps.toList++c::(Str.join (one c) (b::r)).cps.toList:=by
  show((a++one c++Str.join (one c) (b::r))).cps.toList=_
  rw[Str.cps_append,Str.cps_append,Array.toList_append,Array.toList_append]
  simp
theorem join_one(s a:Str):Str.join s [a]=a:=rfl
theorem str_ext{a b:Str}(h:a.cps.toList=b.cps.toList):a=b:=Str.ext' (Array.toList_inj.mp h)
theorem join_inj{c:Nat}:∀{ps qs:List Str},ps≠[]→qs≠[]→(∀p∈ps,c∉p.cps.toList)→(∀p∈qs,c∉p.cps.toList)→Str.join (one c) ps=Str.join (one c) qs→ps=qs
  | [],_,h,_,_,_,_=>absurd rfl h
  | _,[],_,h,_,_,_=>absurd rfl h
  | [a],[b],_,_,_,_,e=>by rw[join_one,join_one] at e;rw[e]
  | [a],b::d::r,_,_,h1,_,e=>by
    have e:=congrArg (fun z=>z.cps.toList) e
    simp only[join_one,join_cons2] at e
    exact absurd (by rw[e];simp) (h1 a (by simp))
  | a::d::r,[b],_,_,_,h2,e=>by
    have e:=congrArg (fun z=>z.cps.toList) e
    simp only[join_one,join_cons2] at e
    exact absurd (by rw[←e];simp) (h2 b (by simp))
  | a::d::r,b::f::t,_,_,h1,h2,e=>by
    have e:=congrArg (fun z=>z.cps.toList) e
    simp only[join_cons2] at e
    obtain⟨q1,q2⟩:=cut_inj (h1 a (by simp)) (h2 b (by simp)) e
    rw[str_ext q1,join_inj (by simp) (by simp) (fun p hp=>h1 p (ZD _ hp)) (fun p hp=>h2 p (ZD _ hp)) (str_ext q2)]
theorem split_ne(x y:Str):Txt.split x y≠[]:=fun e=>by have:=split_pos x y;rw[e] at this;simp at this
theorem split_join{c:Nat}{ps:List Str}(hn:ps≠[])(h:∀p∈ps,c∉p.cps.toList):Txt.split (Str.join (one c) ps) (one c)=ps :=
  join_inj (split_ne _ _) hn (StrLaws.split_free _ c) h (StrLaws.join_split _ _)
def okNum(z:Str):Bool:=z.cps.toList.all isFig&&decide (1≤z.length)&&decide (z.length≤9) && !(decide (z.cps.toList.head?=some 48)&&decide (z≠"0"))
inductive Arg where
  | n (i:Int)
  | t (a b:Int)
def rdNum(z:Str):Option Int:=if okNum z=true then some (numOf z.cps.toList) else none
def rdThing(z:Str):Option Arg:=match Txt.split z "." with
  | [a,b]=>(rdNum a).bind fun i=>(rdNum b).map fun j=>Arg.t i j
  | _=>none
def rdWord(f:Bool)(z:Str):Option Arg:=if f=true then(rdNum z).map Arg.n else rdThing z
def rdAll:List Bool→List Str→Option (List Arg)
  | f::fs,w::ws=>(rdWord f w).bind fun a=>(rdAll fs ws).map fun r=>a::r
  | _,_=>some []
def FT:List (Str×List Bool):=[("make",[true]),("hold",[true,false,false]),("drop",[true,false,false]),("take",[true,false,false]),("free",[true,false]),("send",[true,true,false]),("clean",[true]),("ask",[true]),("come",[true]),("hand",[true]),("things",[true]),("holds",[false]),("post",[]),("found",[true])]
def rdWords(v:Str)(ws:List Str):Option (List Arg):=match FT.lookup v with
  | none=>none
  | some fs=>if ws.length=fs.length then rdAll fs ws else none
def BadR(z:Str):Prop:=∀v ws,Txt.split z " "=v::ws→rdWords v ws=none
theorem bad_of{ps:List Str}(hn:ps≠[])(hb:∀p∈ps,32∉p.cps.toList)(h:∀v ws,ps=v::ws→rdWords v ws=none):BadR (Str.join " " ps):=by
  intro v ws e
  rw[show(" ":Str)=one 32 from rfl,split_join hn hb] at e
  exact h v ws e
theorem rd_len{v:Str}{ws:List Str}(h:∀fs,FT.lookup v=some fs→ws.length≠fs.length):rdWords v ws=none:=by
  unfold rdWords
  cases e:FT.lookup v with
  | none=>rfl
  | some fs=>exact if_neg (h fs e)
theorem rd_none{v:Str}{ws:List Str}(h:FT.lookup v=none):rdWords v ws=none:=rd_len fun fs e=>by rw[h] at e;cases e
theorem rdAll_bad:∀{fs:List Bool} {ws:List Str} (i:Nat) {f:Bool} {w:Str},fs.length=ws.length→fs[i]?=some f→ws[i]?=some w→rdWord f w=none→rdAll fs ws=none
  | [],_,i,_,_,_,h,_,_=>by simp at h
  | _::_,[],_,_,_,h,_,_,_=>by simp at h
  | f0::fs,w0::ws,0,f,w,_,h1,h2,h3=>by
    simp at h1 h2
    subst h1 h2
    unfold rdAll
    rw[h3];rfl
  | f0::fs,w0::ws,i+1,f,w,hl,h1,h2,h3=>by
    simp at h1 h2 hl
    unfold rdAll
    rw[rdAll_bad i hl h1 h2 h3]
    cases rdWord f0 w0<;>rfl
structure Digs(z:Str):Prop where
  d:∀c∈z.cps.toList,isFig c=true
  n:z.cps.toList≠[]
  l:z.length≤9
def PieceOk(f:Bool)(z:Str):Prop:=if f=true then Digs z else ∃a b,Digs a∧Digs b∧z=a++"."++b
theorem fig_no{c:Nat}(h:isFig c=true):c≠32∧c≠46:=by
  obtain⟨a,b⟩:=isFig_le h
  lia
theorem Digs.free(h:Digs z):32∉z.cps.toList∧46∉z.cps.toList:=⟨fun m=>(fig_no (h.d _ m)).1 rfl,fun m=>(fig_no (h.d _ m)).2 rfl⟩
theorem cat_list(a b:Str):(a++"."++b).cps.toList=a.cps.toList++46::b.cps.toList:=by
  rw[Str.cps_append,Str.cps_append,Array.toList_append,Array.toList_append]
  simp;rfl
theorem len_list(z:Str):z.length=z.cps.toList.length:=by simp[Str.length]
theorem PieceOk.free{f:Bool}(h:PieceOk f z):32∉z.cps.toList:=by
  cases f with
  | true=>exact(Digs.free h).1
  | false =>
    obtain⟨a,b,ha,hb,rfl⟩:=(show ∃a b,Digs a∧Digs b∧z=a++"."++b from h)
    rw[cat_list]
    simp only[List.mem_append,List.mem_cons,not_or]
    exact⟨ha.free.1,by decide,hb.free.1⟩
theorem PieceOk.len{f:Bool}(h:PieceOk f z):z.length≤19:=by
  cases f with
  | true=>exact Nat.le_trans (show Digs z from h).l (by decide)
  | false =>
    obtain⟨a,b,ha,hb,rfl⟩:=(show ∃a b,Digs a∧Digs b∧z=a++"."++b from h)
    have h1:=ha.l
    have h2:=hb.l
    rw[len_list] at *
    rw[cat_list]
    simp only[ZE,List.length_cons]
    lia
theorem ft_keys:∀{l:List (Str×List Bool)} {v:Str} {fs:List Bool},l.lookup v=some fs→(v,fs)∈l
  | [],_,_,h=>by simp at h
  | (a,b)::l,v,fs,h=>by
    rw[List.lookup_cons] at h
    cases e:v==a with
    | true =>
      rw[e] at h
      cases h
      rw[eq_of_beq e]
      exact ZL ..
    | false =>
      rw[e] at h
      exact ZD _ (ft_keys h)
theorem ft_first{v:Str}{fs:List Bool}(h:FT.lookup v=some fs):∃c r,v.cps.toList=c::r∧isFig c=false:=by
  have:=ft_keys h
  simp only[FT,List.mem_cons,List.not_mem_nil,or_false,Prod.mk.injEq] at this
  rcases this with⟨rfl,_⟩|⟨rfl,_⟩|⟨rfl,_⟩|⟨rfl,_⟩|⟨rfl,_⟩|⟨rfl,_⟩|⟨rfl,_⟩|⟨rfl,_⟩|⟨rfl,_⟩|⟨rfl,_⟩|⟨rfl,_⟩|⟨rfl,_⟩|⟨rfl,_⟩|⟨rfl,_⟩<;>exact⟨_,_,rfl,by decide⟩
theorem PieceOk.first{f:Bool}(h:PieceOk f z):∃c r,z.cps.toList=c::r∧isFig c=true:=by
  have dg:∀{y:Str},Digs y→∃c r,y.cps.toList=c::r∧isFig c=true:=fun{y} hy=>by
    obtain⟨c,r,e⟩:=List.exists_cons_of_ne_nil hy.n
    exact⟨c,r,e,hy.d c (by rw[e];simp)⟩
  cases f with
  | true=>exact dg h
  | false =>
    obtain⟨a,b,ha,hb,rfl⟩:=(show ∃a b,Digs a∧Digs b∧z=a++"."++b from h)
    obtain⟨c,r,e,q⟩:=dg ha
    exact⟨c,_,by rw[cat_list,e];rfl,q⟩
theorem piece_no{f:Bool}(h:PieceOk f z):FT.lookup z=none:=by
  cases e:FT.lookup z with
  | none=>rfl
  | some fs =>
    obtain⟨c,r,e1,q1⟩:=ft_first e
    obtain⟨c',r',e2,q2⟩:=h.first
    rw[e1] at e2
    cases e2
    rw[q1] at q2;cases q2
structure Pcs(v:Str)(fs:List Bool)(ws:List Str):Prop where
  l:FT.lookup v=some fs
  p:Paired PieceOk fs ws
theorem Pcs.len(h:Pcs v fs ws):fs.length=ws.length:=Paired.length h.p
theorem ft_free{v:Str}{fs:List Bool}(h:FT.lookup v=some fs):32∉v.cps.toList∧v.length≤6∧fs.length≤3:=by
  have:=ft_keys h
  simp only[FT,List.mem_cons,List.not_mem_nil,or_false,Prod.mk.injEq] at this
  rcases this with⟨rfl,rfl⟩|⟨rfl,rfl⟩|⟨rfl,rfl⟩|⟨rfl,rfl⟩|⟨rfl,rfl⟩|⟨rfl,rfl⟩|⟨rfl,rfl⟩|⟨rfl,rfl⟩|⟨rfl,rfl⟩|⟨rfl,rfl⟩|⟨rfl,rfl⟩|⟨rfl,rfl⟩|⟨rfl,rfl⟩|⟨rfl,rfl⟩<;>decide
theorem Pcs.free(h:Pcs v fs ws):∀p∈v::ws,32∉p.cps.toList:=fun p hp=>by
  rcases ZM hp with rfl|hp
  · exact(ft_free h.l).1
  · obtain⟨i,hi⟩:=List.getElem?_of_mem hp
    obtain⟨z,_⟩:=ZJ hi
    obtain⟨f,hf⟩:=get_of_lt (xs:=fs) (j:=i) (by rw[h.len];exact z)
    exact(paired_get h.p i f p hf hi).free
theorem Pcs.lens(h:Pcs v fs ws):∀p∈v::ws,p.length≤19:=fun p hp=>by
  rcases ZM hp with rfl|hp
  · exact Nat.le_trans (ft_free h.l).2.1 (by decide)
  · obtain⟨i,hi⟩:=List.getElem?_of_mem hp
    obtain⟨z,_⟩:=ZJ hi
    obtain⟨f,hf⟩:=get_of_lt (xs:=fs) (j:=i) (by rw[h.len];exact z)
    exact(paired_get h.p i f p hf hi).len
theorem Pcs.few(h:Pcs v fs ws):ws.length≤3:=by rw[←h.len];exact(ft_free h.l).2.2
theorem longer(h:Pcs v fs ws){us:List Str}(n:us.length≠ws.length):rdWords v us=none:=rd_len fun gs e=>by
  rw[h.l] at e
  cases e
  rw[h.len]
  exact n
theorem bad_drop(h:Pcs v fs ws)(i:Nat)(hi:i≤ws.length):BadR (Str.join " " ((v::ws).take i++(v::ws).drop (i+1))):=by
  have fr:=h.free
  cases i with
  | zero =>
    show BadR (Str.join " " ws)
    cases e:ws with
    | nil=>exact bad_of (ps:=[""]) (by simp) (by decide) fun v us e=>by cases e;exact rd_none (by decide)
    | cons w us =>
      refine bad_of (by simp) (fun p hp=>fr p (by rw[e];exact ZD _ hp)) fun v' us' e'=>?_
      cases e'
      have hp:=h.p
      rw[e] at hp
      cases hp with
      | cons r _=>exact rd_none (piece_no r)
  | succ j =>
    show BadR (Str.join " " (v::(ws.take j++ws.drop (j+1))))
    refine bad_of (by simp) (fun p hp=>fr p ?_) fun v' us' e'=>?_
    · rcases ZM hp with rfl|hp
      · exact ZL ..
      · rcases ZI hp with hp|hp
        · exact ZD _ (List.mem_of_mem_take hp)
        · exact ZD _ (List.mem_of_mem_drop hp)
    · cases e'
      refine longer h ?_
      rw[ZE,List.length_take,List.length_drop]
      lia
theorem ins_free{ps:List Str}{w:Str}{i j:Nat}(h:∀p∈ps,32∉p.cps.toList)(hw:32∉w.cps.toList):∀p∈ps.take i++[w]++ps.drop j,32∉p.cps.toList:=fun p hp=>by
  rcases ZI hp with hp|hp
  · rcases ZI hp with hp|hp
    · exact h p (List.mem_of_mem_take hp)
    · have:p=w:=by simpa using hp
      rw[this];exact hw
  · exact h p (List.mem_of_mem_drop hp)
theorem bad_ins(h:Pcs v fs ws)(i:Nat)(hi:i≤ws.length){w:Str}(hw:32∉w.cps.toList):BadR (Str.join " " ((v::ws).take (i+1)++[w]++(v::ws).drop (i+1))):=by
  refine bad_of (by simp) (ins_free h.free hw) fun v' us' e'=>?_
  simp only[List.take_succ_cons,List.drop_succ_cons,List.cons_append,List.cons.injEq] at e'
  obtain⟨rfl,rfl⟩:=e'
  refine longer h ?_
  rw[ZE,ZE,List.length_take,List.length_drop,List.length_singleton]
  lia
theorem join_app(s:Str):∀{a b:List Str},a≠[]→b≠[]→Str.join s (a++b)=Str.join s a++s++Str.join s b
  | [],_,h,_=>absurd rfl h
  | [x],b,_,hb=>by
    obtain⟨y,r,rfl⟩:=List.exists_cons_of_ne_nil hb
    rfl
  | x::y::r,b,_,hb=>by
    show x++s++Str.join s ((y::r)++b)=x++s++Str.join s (y::r)++s++Str.join s b
    rw[join_app s (a:=y::r) (by simp) hb]
    simp only[Str.append_assoc]
theorem bad_blank(h:Pcs v fs ws)(i:Nat)(hi:i≤ws.length):BadR (Str.join " " ((v::ws).take i++[("":Str)]++(v::ws).drop i)):=by
  refine bad_of (by simp) (ins_free h.free (by decide)) fun v' us' e'=>?_
  cases i with
  | zero =>
    simp only[List.take_zero,List.nil_append,List.cons_append,List.drop_zero,List.cons.injEq] at e'
    obtain⟨rfl,_⟩:=e'
    exact rd_none (by decide)
  | succ j =>
    simp only[List.take_succ_cons,List.drop_succ_cons,List.cons_append,List.cons.injEq] at e'
    obtain⟨rfl,rfl⟩:=e'
    refine longer h ?_
    rw[ZE,ZE,List.length_take,List.length_drop,List.length_singleton]
    lia
theorem bad_end(h:Pcs v fs ws):BadR (Str.join " " ((v::ws)++[("":Str)])):=by
  refine bad_of (by simp) (fun p hp=>?_) fun v' us' e'=>?_
  · rcases ZI hp with hp|hp
    · exact h.free p hp
    · have:p="":=by simpa using hp
      rw[this];decide
  · simp only[List.cons_append,List.cons.injEq] at e'
    obtain⟨rfl,rfl⟩:=e'
    refine longer h ?_
    rw[ZE,List.length_singleton]
    lia
theorem bad_piece(h:Pcs v fs ws)(i:Nat){f:Bool}(hf:fs[i]?=some f){w:Str}(hw:32∉w.cps.toList)(hb:rdWord f w=none):BadR (Str.join " " ((v::ws).take (i+1)++[w]++(v::ws).drop (i+2))):=by
  obtain⟨z,_⟩:=ZJ hf
  have hl:=h.len
  refine bad_of (by simp) (ins_free h.free hw) fun v' us' e'=>?_
  simp only[List.take_succ_cons,List.drop_succ_cons,List.cons_append,List.cons.injEq] at e'
  obtain⟨rfl,rfl⟩:=e'
  have hlen:(ws.take i++[w]++ws.drop (i+1)).length=fs.length:=by
    rw[ZE,ZE,List.length_take,List.length_drop,List.length_singleton]
    lia
  unfold rdWords
  rw[h.l]
  dsimp only
  rw[if_pos hlen]
  refine rdAll_bad i hlen.symm hf ?_ hb
  have hlt:(ws.take i).length=i:=by rw[List.length_take];lia
  rw[List.append_assoc,List.getElem?_append_right (by lia),hlt]
  simp
theorem bad_word(h:Pcs v fs ws){v':Str}(hw:32∉v'.cps.toList)(hb:∀gs,FT.lookup v'=some gs→gs.length≠fs.length):BadR (Str.join " " ([v']++ws)):=by
  refine bad_of (by simp) (fun p hp=>?_) fun v'' us' e'=>?_
  · rcases ZI hp with hp|hp
    · have:p=v':=by simpa using hp
      rw[this];exact hw
    · exact h.free p (ZD _ hp)
  · cases e'
    refine rd_len fun gs e q=>hb gs e ?_
    rw[h.len,←q]
    rfl
end FX
namespace FX
open PySem PySem.Spec PyProof.Rows L2
set_option linter.all false
section
variable {X:Cx}{sc:Scope}{cl:List (Str×Addr)}{pins:List (Addr×Obj)}{σ:L2.St}{H1:Hp}{s1:Shared}{fp:List Addr}{N:List Str}
theorem blk_in2{x y0:Str}{caps:List (Str×Nat)}{h':Heap}{m:Str→Option Value}{t':Nat}{o:Obj}(I:Inv X pins σ H1 s1)(ok:(blk X sc cl s1.heap.objs.size (x::y0::capn caps) s1 H1 fp pins).Ok)(hin:InCells X.env.cells cl)(hcap:CapsOk X sc cl caps)(hx:(relabel sc X.env).names.lookup x=some .local)(hn:h'.Ns s1.heap.objs.size m)(hs:Heap.SameBut s1.heap.objs.size (s1.heap.push o) h') :
    Inv (blk X sc cl s1.heap.objs.size (x::y0::capn caps) s1 H1 fp pins) [] (none::none::capv σ caps) H1 { s1 with heap:=h',toks:=t' }:=by
  have kp:∀b u,s1.heap.get? b=some u→h'.get? b=some u:=fun b u e=>(hs.2 b (Nat.ne_of_lt (Heap.lt_size e))).trans (Heap.get?_push_of_some _ e)
  have hfree:H1 s1.heap.objs.size=none:=I.hok.fresh (ZG _)
  refine⟨ok,rfl,I.bare,Un.kept kp,⟨m,hn,fun i y v e1 e2 e3=>?_⟩,fun y c e=>?_,hfree,fun y c e=>I.freeC y c (hin.look e),fun p hp=>?_,I.hok.kept kp,?_⟩
  · match i,e1,e2 with
    | 0,e1,e2=>simp at e2
    | 1,e1,e2=>simp at e2
    | j+2,e1,e2 =>
      have e1':(x::y0::capn caps)[j+2]?=some y:=e1
      rw[List.getElem?_cons_succ,List.getElem?_cons_succ] at e1'
      have e2':(capv σ caps)[j]?=some (some v):=by simpa using e2
      rw[ZH] at e1'
      unfold capv at e2'
      rw[ZH] at e2'
      cases q:caps[j]? with
      | none=>rw[q] at e1';cases e1'
      | some p =>
        rw[q] at e1' e2'
        have e4:p.1=y:=ZO e1'
        have e5:(σ[p.2]?).join=some v:=ZO e2'
        have hc:=hcap.at q
        have e6:σ[p.2]?=some (some v):=by
          cases z:σ[p.2]? with
          | none=>rw[z] at e5;cases e5
          | some w' =>
            rw[z] at e5
            have:w'=some v:=e5
            rw[this]
        obtain⟨mm,hnn,hl⟩:=I.loc
        obtain⟨u,r,lk⟩:=hl p.2 p.1 v hc.n e6 (.inr (.inl hc.k))
        refine⟨u,r,.inr ⟨.inl (by rw[←e4];exact hc.f),?_⟩⟩
        rcases lk with⟨k1,_⟩|⟨_,c,hcl,ce⟩
        · have:X.env.scope.names.lookup p.1=some .local:=k1
          rw[hc.k] at this;cases this
        · obtain⟨oc,hoc,hd⟩:=ce
          exact⟨c,by rw[←e4];exact hc.l.trans hcl,oc,kp _ _ hoc,hd⟩
  · obtain⟨v,oc,hoc,hd⟩:=I.cell y c (hin.look e)
    exact⟨v,oc,kp _ _ hoc,hd⟩
  · have hp':p∈(X.pn++pins)++[]:=hp
    rw[List.append_nil] at hp'
    obtain⟨a1,a2,a3,a4,a5⟩:=I.pin p hp'
    refine⟨kp _ _ a1,a2,Nat.ne_of_lt (Heap.lt_size a1),fun z=>?_,a5⟩
    rcases ZM (I.stkSub _ z) with q|q
    · exact a3 q
    · exact a4 q
  · simp[capv,blk]
end
section
variable {X:Cx}{elt iter:Expr}{x y0:Str}{px py0 pt pos:Pos}{kt:Nat}{ifs:List Expr}{sc:Scope}{cl:List (Str×Addr)}{caps:List (Str×Nat)}{wi:TI}{tt:TT}{te:TE}
end
end FX
namespace FX
open PySem PySem.Spec PyProof.Rows L2
section
variable {X:Cx}{pins:List (Addr×Obj)}{σ:L2.St}{H:Hp}{s:Shared}
theorem Inv.turnedL{t':Nat}{fp:List Addr}{h':Heap}(I:Inv X pins σ H s)(k:∀b o,b∉fp→s.heap.get? b=some o→h'.get? b=some o)(hf:∀b∈fp,FpOk X pins H b):Inv X pins σ H { s with heap:=h',toks:=t' }:=by
  have nit:∀b u,H b=some u→b∉fp:=fun b u e z=>by rw[(hf b z).1] at e;cases e
  refine I.step (g':=s.gens) (d':=s.drawn) (ch:=fp) (fun b hb=>?_) (fun b o _ _ hc e _=>k b o hc e) (fun b o _ _ hc e _=>⟨o.slots,k b o hc e⟩) (fun _ _ _ _ n=>n) (fun b o hc e=>⟨o,k b o hc e⟩) (fun _ _ e=>e) (fun _ _ _ e=>e) (fun b ps e=>⟨#[],by rw[e];simp⟩) (fun m hm=>?_) (fun b u e=>?_) I.bare
  · obtain⟨_,h1,_,h2,h3,h4⟩:=hf b hb
    exact⟨h2,h1,h3,h4⟩
  · obtain⟨o,es,ep,ho,r⟩:=hm
    exact⟨o,es,ep,k _ o (fun z=>(hf _ z).2.1 rfl) ho,r⟩
  · refine(I.hok b u e).stay (fun c v hc q=>k c v ?_ q) (fun _ q=>q) fun _ _ q=>q
    rcases hc with z|z
    · rw[z];exact nit b u e
    · exact nit c _ z
theorem Inv.track{T:Addr}{o:HO}{ob:Obj}(I:Inv X pins σ H s)(hf:FpOk X pins H T)(ho:s.heap.get? T=some ob)(new:ObjOk X.prog X.w (upd H T o) s.heap T o):Inv X pins σ (upd H T o) s:=by
  obtain⟨h0,h1,h2',h2,h3,h4⟩:=hf
  have ne:∀{b u},H b=some u→b≠T:=fun e=>ne_of_none e h0
  refine I.step (s:=s) (h':=s.heap) (t':=s.toks) (g':=s.gens) (d':=s.drawn) (ch:=[T]) (fun b hb=>?_) (fun b o _ _ _ e _=>e) (fun b o _ _ _ e _=>⟨o.slots,e⟩) (fun b o hc _ n=>?_) (fun b o _ e=>⟨o,e⟩) (fun b xs e=>?_) (fun b o u e=>?_) (fun b ps e=>⟨#[],?_⟩) (fun m hm=>hm) (fun b u e=>?_) I.bare
  · have e:b=T:=by simpa using hb
    subst e
    exact⟨h2,h1,h3,h4⟩
  · rw[upd_ne (fun z=>hc (by simp[z]))];exact n
  · rw[upd_ne (ne e)];exact e
  · rw[upd_ne (ne e)];exact e
  · rw[upd_ne (ne e),e];simp
  · by_cases hb:b=T
    · subst hb;rw[upd_same] at e;cases e;exact new
    · rw[upd_ne hb] at e
      exact(I.hok b u e).stay (fun c v _ q=>q) (fun c q=>by rw[upd_ne (ne q)];exact q) fun c xs q=>by rw[upd_ne (ne q)];exact q
end
section
variable {prog:Program}{w:World}{A:Around}{E:Value→Shared→Prop}{s:Shared}
theorem nextOf_tup{it t:Addr}{i:Nat}{items:Array Value}{x:Value}{Q:Value→Shared→Prop}(hit:s.heap.IsTupleIter it t i)(ht:s.heap.IsTuple t items)(hx:items[i]?=some x)(hQ:∀h',h'.IsTupleIter it t (i+1)→Heap.SameBut it s.heap h'→Q x { s with heap:=h' }):wpAny (model prog w) A (Builtin.SmallTypes.nextOf (.ref it)) Q E s:=by
  obtain⟨o,ho,hc,hd⟩:=id hit
  obtain⟨ol,hol,_,nl,hdl⟩:=ht
  have hne:¬((Value.ref t==Value.none)=true):=Bool.false_ne_true
  refine wpAny_bind (wpAny_callSpecial?_slot (name:=Str.ofString "__next__") hit.typeIs F.slot_tuple_iterator_next (wpAny_call_entry F.slot_tuple_iterator_next hit.typeIs F.entry_tuple_iterator_next ?_ (F.args_tuple_iterator_next_1 _)))
  show wpAny _ _ (field (.ref it) 0 >>= _) _ _ s
  refine wpAny_bind (wpAny_field ho hd (x:=.ref t) rfl ?_)
  show wpAny _ _ (ite ((Value.ref t==Value.none)=true) _ _) _ _ s
  rw[if_neg hne]
  show wpAny _ _ (field (.ref it) 1 >>= _) _ _ s
  refine wpAny_bind (wpAny_field ho hd (x:=.int i 0) rfl (wpAny_bind (wpAny_seqItems hol hdl ?_)))
  simp only[Int.toNat_natCast,hx]
  refine wpAny_bind (wpAny_setField ho hd (by simp) (wpAny_pure ⟨x,rfl,wpAny_pure (hQ _ ⟨_,Heap.get?_update_self _ ho (Obj.isFreed_of_fields (Obj.data_mapFields hd _)),(Obj.cls_mapFields ..).trans hc,?_⟩ (Heap.SameBut.update ..))⟩))
  rw[Obj.data_mapFields hd];simp[rawInt]
theorem nextOf_tupE{it t:Addr}{i:Nat}{items:Array Value}{Q:Value→Shared→Prop}(hh:A.handled=none)(hit:s.heap.IsTupleIter it t i)(ht:s.heap.IsTuple t items)(hx:items[i]?=none)(hE:∀h' e,Heap.ExtBut it s.heap h'→(∃o,h'.get? e=some o∧o.cls=.type "StopIteration")→E (.ref e) { s with heap:=h' }):wpAny (model prog w) A (Builtin.SmallTypes.nextOf (.ref it)) Q E s:=by
  obtain⟨o,ho,hc,hd⟩:=id hit
  obtain⟨ol,hol,_,nl,hdl⟩:=ht
  have hne:¬((Value.ref t==Value.none)=true):=Bool.false_ne_true
  refine wpAny_bind (wpAny_callSpecial?_slot (name:=Str.ofString "__next__") hit.typeIs F.slot_tuple_iterator_next (wpAny_call_entry F.slot_tuple_iterator_next hit.typeIs F.entry_tuple_iterator_next ?_ (F.args_tuple_iterator_next_1 _)))
  show wpAny _ _ (field (.ref it) 0 >>= _) _ _ s
  refine wpAny_bind (wpAny_field ho hd (x:=.ref t) rfl ?_)
  show wpAny _ _ (ite ((Value.ref t==Value.none)=true) _ _) _ _ s
  rw[if_neg hne]
  show wpAny _ _ (field (.ref it) 1 >>= _) _ _ s
  refine wpAny_bind (wpAny_field ho hd (x:=.int i 0) rfl (wpAny_bind (wpAny_seqItems hol hdl ?_)))
  simp only[Int.toNat_natCast,hx]
  refine wpAny_bind (wpAny_rule (wpAny_bind (wpAny_setField ho hd (by simp) (wpAny_bind ?_))))
  simp only[newExc,newTuple]
  refine wpAny_bind (wpAny_newObj_type (wpAny_bind (m:=firstArgMember _ _) (wpAny_of_eq (a:=Value.none) (by first|rfl|(simp only[firstArgMember];rfl)) (wpAny_newObj_type ?_ (by size_fits)))) (by size_fits))
  simp only[raiseNew]
  refine wpAny_bind (wpAny_handled ?_)
  rw[show A.in1.handled=none from hh]
  exact wpAny_bind (wpAny_pure (wpAny_throw (hE _ _ (((Heap.SameBut.update ..).extBut.push _).push _) ⟨_,Heap.get?_push_size _ rfl,rfl⟩)))
theorem zip_nextT{z TI TO i1 i2 l1 l2:Addr}{k:Nat}{xs ys:Array Value}{x y a b:Value}{Q:Option Value→Shared→Prop}(D:ZipApart z TI TO i1 i2 l1 l2)(hz:IsZip s.heap z TI TO .none)(hTI:IsPair s.heap TI (.ref i1) (.ref i2))(hTO:IsPair s.heap TO a b)(h1:s.heap.IsTupleIter i1 l1 k)(h2:s.heap.IsListIter i2 l2 k)(hl1:s.heap.IsTuple l1 xs)(hl2:s.heap.IsList l2 ys)(hx:xs[k]?=some x)(hy:ys[k]?=some y)(hQ:∀h',IsZip h' z TI TO (rawInt s.heap.objs.size)→IsPair h' TO x y→h'.IsTupleIter i1 l1 (k+1)→h'.IsListIter i2 l2 (k+1)→IsPair h' s.heap.objs.size x y →
      (∀c o,c≠z→c≠TO→c≠i1→c≠i2→s.heap.get? c=some o→h'.get? c=some o)→Q (some (.ref s.heap.objs.size)) { s with heap:=h' }):wpAny (model prog w) A (pyNext (.ref z)) Q E s:=by
  have hT:s.TypeIs (.ref z) "zip":=⟨_,hz,rfl⟩
  refine wpAny_bind (wpAny_attempt (wpAny_callSpecial?_slot (name:=Str.ofString "__next__") hT F.slot_zip_next (wpAny_call_entry F.slot_zip_next hT F.entry_zip_next ?_ (F.args_zip_next_1 _))))
  refine wpAny_bind (m:=field (.ref z) 2) (wpAny_field hz rfl (x:=.bool false) rfl (wpAny_bind (m:=field (.ref z) 3) (wpAny_field hz rfl (x:=.ref TI) rfl (wpAny_bind (wpAny_seqItems hTI rfl ?_)))))
  refine wpAny_bind (m:=Builtin.SmallTypes.ownedTupleIsFree (.ref z)) (wpAny_bind (wpAny_field hz rfl (x:=.none) rfl (wpAny_pure ?_)))
  simp only[if_true]
  refine wpAny_bind (wpAny_rule (wpAny_bind (wpAny_field hz rfl (x:=.ref TO) rfl (wpAny_bind (wpAny_setField_rec hz (by simp) fun h₁ hz₁ s₁=>wpAny_bind ?_)))))
  have z1:IsZip h₁ z TI TO .ellipsis:=hz₁
  simp only[List.zipIdx_cons,List.zipIdx_nil,List.forIn_cons,List.forIn_nil]
  refine wpAny_bind (wpAny_bind (wpAny_onRaise (wpAny_bind (m:=Builtin.SmallTypes.nextOf (.ref i1)) (nextOf_tup (h1.extBut s₁.extBut D.i1z) (hl1.extBut s₁.extBut D.l1z) hx fun h₂ j1 s₂=>wpAny_pure ?_))))
  have o2:IsPair h₂ TO a b:=s₂.extBut _ _ D.TOi1 (s₁.extBut _ _ D.TOz hTO)
  refine wpAny_bind (wpAny_seqItems o2 rfl (wpAny_bind (wpAny_updateSeq_pair o2 fun h₃ o3' s₃=>wpAny_bind (wpAny_letGo (wpAny_pure ?_)))))
  have o3:IsPair h₃ TO x b:=o3'
  have j2:=((h2.extBut s₁.extBut D.i2z).extBut s₂.extBut D.i12.symm).extBut s₃.extBut D.TOi2.symm
  have m2:=((hl2.extBut s₁.extBut D.l2z).extBut s₂.extBut D.l2i1).extBut s₃.extBut D.l2TO
  refine wpAny_bind (wpAny_bind (wpAny_onRaise (wpAny_bind (m:=Builtin.SmallTypes.nextOf (.ref i2)) (wpAny_nextOf_list_item j2 m2 hy fun h₄ j2' s₄=>wpAny_pure ?_))))
  have o4:IsPair h₄ TO x b:=s₄.extBut _ _ D.TOi2 o3
  refine wpAny_bind (wpAny_seqItems o4 rfl (wpAny_bind (wpAny_updateSeq_pair o4 fun h₅ o5' s₅=>wpAny_bind (wpAny_letGo (wpAny_pure (wpAny_pure ?_))))))
  have o5:IsPair h₅ TO x y:=o5'
  refine wpAny_bind (wpAny_seqItems o5 rfl (wpAny_bind (wpAny_newTuple ?_)))
  have hsz:h₅.objs.size=s.heap.objs.size:=by rw[s₅.1,s₄.1,s₃.1,s₂.1,s₁.1]
  have z5:IsZip h₅ z TI TO .ellipsis:=s₅.extBut _ _ D.TOz.symm (s₄.extBut _ _ D.i2z.symm (s₃.extBut _ _ D.TOz.symm (s₂.extBut _ _ D.i1z.symm z1)))
  have k5:∀c o,c≠z→c≠TO→c≠i1→c≠i2→s.heap.get? c=some o→h₅.get? c=some o:=fun c o c1 c2 c3 c4 e=>s₅.extBut _ _ c2 (s₄.extBut _ _ c4 (s₃.extBut _ _ c2 (s₂.extBut _ _ c3 (s₁.extBut _ _ c1 e))))
  have a1:h₅.IsTupleIter i1 l1 (k+1):=((j1.extBut s₃.extBut D.TOi1.symm).extBut s₄.extBut D.i12).extBut s₅.extBut D.TOi1.symm
  have a2:h₅.IsListIter i2 l2 (k+1):=j2'.extBut s₅.extBut D.TOi2.symm
  have zl:h₅.objs.size≠z:=Nat.ne_of_gt (Heap.lt_size z5)
  refine wpAny_bind (m:=Builtin.SmallTypes.ownedTupleHandOut (.ref z) (.ref h₅.objs.size)) ?_
  have z6:IsZip (h₅.push { cls:=.type "tuple",data:=.seq #[x,y] }) z TI TO .ellipsis:=Heap.get?_push_of_some _ z5
  refine wpAny_bind (wpAny_setField_rec z6 (by simp) fun h₇ z7' s₇=>?_)
  have z7:IsZip h₇ z TI TO (rawInt h₅.objs.size):=z7'
  refine wpAny_setField_rec z7 (by simp) fun h₈ z8' s₈=>?_
  have z8:IsZip h₈ z TI TO (rawInt h₅.objs.size):=z8'
  have up:∀c o,c≠z→h₅.get? c=some o→h₈.get? c=some o:=fun c o c1 e=>s₈.extBut _ _ c1 (s₇.extBut _ _ c1 (Heap.get?_push_of_some _ e))
  have t8:IsPair h₈ h₅.objs.size x y:=s₈.extBut _ _ zl (s₇.extBut _ _ zl (Heap.get?_push_size _ rfl))
  rw[hsz] at z8 t8
  refine wpAny_pure ⟨_,rfl,wpAny_pure ?_⟩
  rw[hsz]
  exact hQ h₈ z8 (up _ _ D.TOz o5) (let⟨o,e,r⟩:=a1;⟨o,up _ o D.i1z e,r⟩) (a2.at fun o e=>up _ o D.i2z e) t8 fun c o c1 c2 c3 c4 e=>up c o c1 (k5 c o c1 c2 c3 c4 e)
theorem zip_endT{z TI TO i1 i2 l1 l2:Addr}{k:Nat}{xs:Array Value}{Q:Option Value→Shared→Prop}(hh:A.handled=none)(D:ZipApart z TI TO i1 i2 l1 l2)(hz:IsZip s.heap z TI TO .none)(hTI:IsPair s.heap TI (.ref i1) (.ref i2))(h1:s.heap.IsTupleIter i1 l1 k)(hl1:s.heap.IsTuple l1 xs)(hx:xs[k]?=none)(hQ:∀h',(∀c o,c≠z→c≠i1→s.heap.get? c=some o→h'.get? c=some o)→Q none { s with heap:=h' }):wpAny (model prog w) A (pyNext (.ref z)) Q E s:=by
  have hT:s.TypeIs (.ref z) "zip":=⟨_,hz,rfl⟩
  refine wpAny_bind (wpAny_attempt (wpAny_callSpecial?_slot (name:=Str.ofString "__next__") hT F.slot_zip_next (wpAny_call_entry F.slot_zip_next hT F.entry_zip_next ?_ (F.args_zip_next_1 _))))
  refine wpAny_bind (m:=field (.ref z) 2) (wpAny_field hz rfl (x:=.bool false) rfl (wpAny_bind (m:=field (.ref z) 3) (wpAny_field hz rfl (x:=.ref TI) rfl (wpAny_bind (wpAny_seqItems hTI rfl ?_)))))
  refine wpAny_bind (m:=Builtin.SmallTypes.ownedTupleIsFree (.ref z)) (wpAny_bind (wpAny_field hz rfl (x:=.none) rfl (wpAny_pure ?_)))
  simp only[if_true]
  refine wpAny_bind (wpAny_rule (wpAny_bind (wpAny_field hz rfl (x:=.ref TO) rfl (wpAny_bind (wpAny_setField_rec hz (by simp) fun h₁ hz₁ s₁=>wpAny_bind ?_)))))
  have z1:IsZip h₁ z TI TO .ellipsis:=hz₁
  simp only[List.zipIdx_cons,List.zipIdx_nil,List.forIn_cons,List.forIn_nil]
  refine wpAny_bind (wpAny_bind (wpAny_onRaise (wpAny_bind (m:=Builtin.SmallTypes.nextOf (.ref i1)) (nextOf_tupE hh (h1.extBut s₁.extBut D.i1z) (hl1.extBut s₁.extBut D.l1z) hx fun h₂ e s₂ he=>?_))))
  obtain⟨oe,hoe,hce⟩:=he
  have z2:IsZip h₂ z TI TO .ellipsis:=s₂ _ _ D.i1z.symm z1
  have hez:e≠z:=fun q=>by subst q;rw[z2] at hoe;cases hoe;simp at hce
  refine wpAny_setField_rec z2 (by simp) fun h₃ _ s₃=>?_
  refine wpAny_bind (wpAny_isInstance (T:="StopIteration") (b:=true) ⟨oe,s₃.extBut _ _ hez hoe,hce⟩ isSubtype_stop (wpAny_pure (hQ _ fun c o c1 c2 q=>s₃.extBut _ _ c1 (s₂ _ _ c2 (s₁.extBut _ _ c1 q)))))
end
abbrev zp1(h:Heap)(l1:Addr):Heap:=h.push { cls:=.type "tuple_iterator",data:=.fields #[.ref l1,.int 0 0] }
abbrev zp2(h:Heap)(l1 l2:Addr):Heap:=(zp1 h l1).push { cls:=.type "list_iterator",data:=.fields #[.ref l2,.int 0 0] }
abbrev zp3(h:Heap)(l1 l2:Addr):Heap:=(zp2 h l1 l2).push { cls:=.type "tuple",data:=.seq #[.ref h.objs.size,.ref (zp1 h l1).objs.size] }
abbrev zp4(h:Heap)(l1 l2:Addr):Heap:=(zp3 h l1 l2).push { cls:=.type "tuple",data:=.seq #[.none,.none] }
abbrev zp5(h:Heap)(l1 l2:Addr):Heap:=(zp4 h l1 l2).push { cls:=.type "zip",data:=.fields #[.none,.bool false,.bool false,.ref (zp2 h l1 l2).objs.size,.ref (zp3 h l1 l2).objs.size] }
theorem meets_zipT(l1 l2:Addr)(xs ys:Array Value):Meets (Builtin.«zip.__new__» ⟨[.type "zip",.ref l1,.ref l2],[]⟩) (fun _ R s=>s.heap.IsTuple l1 xs∧s.heap.IsList l2 ys∧R (.ok (.ret (.ref (zp4 s.heap l1 l2).objs.size))) { s with heap:=zp5 s.heap l1 l2 }) :=
  .of_wp fun prog w A R s h=>by
    obtain⟨hp,g,d,tk,os⟩:=s
    obtain⟨hl1,hl2,h⟩:=h
    have hsub:=sub_zip
    have a1:Heap.IsTuple (Shared.heap ⟨hp,g,d,tk,os⟩) l1 xs:=hl1
    have a2:Heap.IsList (Shared.heap ⟨hp.push { cls:=.type "tuple_iterator",data:=.fields #[.ref l1,.int 0 0] },g,d,tk,os⟩) l2 ys:=Heap.IsList.push hl2 _
    wp_walk using wpAny_pyIter_tuple a1,wpAny_pyIter_list a2
    exact⟨_,rfl,h⟩
section
variable {prog:Program}{w:World}{A:Around}{E:Value→Shared→Prop}{s:Shared}
theorem call_zipT{l1 l2:Addr}{xs ys:Array Value}{Q:Value→Shared→Prop}(hl1:s.heap.IsTuple l1 xs)(hl2:s.heap.IsList l2 ys)(h:∀h',IsZip h' (s.heap.objs.size+4) (s.heap.objs.size+2) (s.heap.objs.size+3) .none→IsPair h' (s.heap.objs.size+2) (.ref s.heap.objs.size) (.ref (s.heap.objs.size+1))→IsPair h' (s.heap.objs.size+3) .none .none→h'.IsTupleIter s.heap.objs.size l1 0→h'.IsListIter (s.heap.objs.size+1) l2 0 →
      (∀c o,s.heap.get? c=some o→h'.get? c=some o)→Q (.ref (s.heap.objs.size+4)) { s with heap:=h' }):wpAny (model prog w) A (call (.type "zip") [.ref l1,.ref l2]) Q E s:=by
  refine callType_new F.called_zip (by decide) (F.typeCall_zip_2 _ _) (F.newCall_zip_2 _ _) (fun obj=>F.args_object_init_3 obj _ _) F.entry_zip_new (meets_zipT l1 l2 xs ys) ⟨hl1,hl2,?_⟩
  have z1:(zp1 s.heap l1).objs.size=s.heap.objs.size+1:=Heap.size_push ..
  have z2:(zp2 s.heap l1 l2).objs.size=s.heap.objs.size+2:=by rw[Heap.size_push,z1]
  have z3:(zp3 s.heap l1 l2).objs.size=s.heap.objs.size+3:=by rw[Heap.size_push,z2]
  have z4:(zp4 s.heap l1 l2).objs.size=s.heap.objs.size+4:=by rw[Heap.size_push,z3]
  have p:∀{h:Heap} {o:Obj} {c:Addr} {u:Obj},h.get? c=some u→(h.push o).get? c=some u:=fun e=>Heap.get?_push_of_some _ e
  have g5:(zp5 s.heap l1 l2).get? (zp4 s.heap l1 l2).objs.size=some _:=Heap.get?_push_size _ rfl
  have g4:(zp5 s.heap l1 l2).get? (zp3 s.heap l1 l2).objs.size=some _:=p (Heap.get?_push_size _ rfl)
  have g3:(zp5 s.heap l1 l2).get? (zp2 s.heap l1 l2).objs.size=some _:=p (p (Heap.get?_push_size _ rfl))
  have g2:(zp5 s.heap l1 l2).get? (zp1 s.heap l1).objs.size=some _:=p (p (p (Heap.get?_push_size _ rfl)))
  have g1:(zp5 s.heap l1 l2).get? s.heap.objs.size=some _:=p (p (p (p (Heap.get?_push_size _ rfl))))
  show _∧_
  rw[z2,z3,z4] at g5
  rw[z1,z2] at g3
  rw[z3] at g4
  rw[z1] at g2
  rw[z4]
  exact⟨⟨_,g5,rfl⟩,h _ g5 g3 g4 ⟨_,g1,rfl,rfl⟩ ⟨_,g2,rfl,rfl⟩ fun c o x=>p (p (p (p (p x))))⟩
end
def Itz(K:PySem.W.Frag)(l1 l2:Addr):It :=
  ⟨fun i H=>∃xs ys x y,SqT K H l1 xs∧SqL K H l2 ys∧xs[i]?=some x∧ys[i]?=some y,
   fun i H v H'=>∃T x y,H T=none∧v=.ref T∧H'=upd H T (.tup [x,y])∧(∀xs,SqT K H l1 xs→xs[i]?=some x)∧∀ys,SqL K H l2 ys→ys[i]?=some y,
   fun i H=>∃xs,SqT K H l1 xs∧xs.length≤i⟩
def tnZ(z TI TO i1 i2 l1 l2:Addr)(i:Nat)(h:Heap):Prop:=IsZip h z TI TO .none∧IsPair h TI (.ref i1) (.ref i2)∧(∃a b,IsPair h TO a b)∧h.IsTupleIter i1 l1 i∧h.IsListIter i2 l2 i
theorem turn_zip{P:Program}{w:World}{K:PySem.W.Frag}{es:List Expr}{kt:Nat}{pt:Pos}{z TI TO i1 i2 l1 l2:Addr}(D:ZipApart z TI TO i1 i2 l1 l2):Turn P w K (.Tuple es kt pt) (Itz K l1 l2) [z,TI,TO,i1,i2] z (tnZ z TI TO i1 i2 l1 l2) where
  mem:=ZL ..
  obj:=fun i h st b hb=>by
    obtain⟨hz,hI,⟨a,c,hO⟩,⟨o1,e1,_,d1⟩,⟨o2,e2,_,d2⟩⟩:=st
    simp only[List.mem_cons,List.not_mem_nil,or_false] at hb
    rcases hb with rfl|rfl|rfl|rfl|rfl
    · exact⟨_,hz,fun v q=>by cases q⟩
    · exact⟨_,hI,fun v q=>by cases q⟩
    · exact⟨_,hO,fun v q=>by cases q⟩
    · exact⟨_,e1,fun v q=>by rw[d1] at q;cases q⟩
    · exact⟨_,e2,fun v q=>by rw[d2] at q;cases q⟩
  keep:=fun i h h' st k=>by
    obtain⟨hz,hI,⟨a,c,hO⟩,⟨o1,e1,r1⟩,⟨o2,e2,r2⟩⟩:=st
    exact⟨k z (by simp) _ hz,k TI (by simp) _ hI,⟨a,c,k TO (by simp) _ hO⟩,⟨o1,k i1 (by simp) _ e1,r1⟩,⟨o2,k i2 (by simp) _ e2,r2⟩⟩
  item:=by
    intro X hP hw hK hc i pins s σ H E I hf st hg
    subst hP hw hK
    obtain⟨hz,hI,⟨a,c,hO⟩,h1,h2⟩:=st
    obtain⟨xs,ys,x,y,q1,q2,hx,hy⟩:=hg
    obtain⟨its,rv,p,_⟩:=I.tuple q1
    obtain⟨u,hu,ru⟩:=rv.get hx
    obtain⟨jts,rw',p',_⟩:=I.list q2
    obtain⟨u',hu',ru'⟩:=rw'.get hy
    refine zip_nextT D hz hI hO h1 h2 (show s.heap.IsTuple l1 its.toArray from p) p'.isList (x:=u) (y:=u') (by simpa using hu) (by simpa using hu') fun h' a1 a2 a3 a4 a5 a6=>⟨_,rfl,?_⟩
    refine wpAny_letOwnedTupleGo_zip a1 fun h2' b1 b2=>?_
    have hlt:∀b∈[z,TI,TO,i1,i2],b<s.heap.objs.size:=fun b hb=>by
      simp only[List.mem_cons,List.not_mem_nil,or_false] at hb
      rcases hb with rfl|rfl|rfl|rfl|rfl
      · exact Heap.lt_size hz
      · exact Heap.lt_size hI
      · exact Heap.lt_size hO
      · obtain⟨_,e,_⟩:=h1;exact Heap.lt_size e
      · obtain⟨_,e,_⟩:=h2;exact Heap.lt_size e
    have Tne:∀b∈[z,TI,TO,i1,i2],b≠s.heap.objs.size:=fun b hb=>Nat.ne_of_lt (hlt b hb)
    have I1:Inv X pins σ H { s with heap:=h2',toks:=s.toks }:=Inv.turnedL I (fun b o hb e=>b2.extBut b o (fun q=>hb (by simp[q])) (a6 b o (fun q=>hb (by simp[q])) (fun q=>hb (by simp[q])) (fun q=>hb (by simp[q])) (fun q=>hb (by simp[q])) e)) hf
    have hT:IsPair h2' s.heap.objs.size u u':=b2.extBut _ _ (Tne z (by simp)).symm a5
    have fT:FpOk X pins H s.heap.objs.size:=I.fpOk (ZG _) I.fresh
    have I2:=Inv.track (o:=.tup [x,y]) I1 fT hT ⟨by show 2≤sizeLine;decide,[u,u'],.cons ru (.cons ru' .nil),⟨_,hT,rfl,_,rfl⟩⟩
    have kp:∀{b o},b≠z→b≠TO→b≠i1→b≠i2→s.heap.get? b=some o→h2'.get? b=some o:=fun n1 n2 n3 n4 e=>b2.extBut _ _ n1 (a6 _ _ n1 n2 n3 n4 e)
    refine⟨.ref s.heap.objs.size,_,I2,rfl,⟨_,x,y,I.fresh,rfl,rfl,fun xs' e=>by rw[I.tuple_inj e q1];exact hx,fun ys' e=>by rw[I.list_inj e q2];exact hy⟩,⟨b1,kp D.TIz D.TITO D.TIi1 D.TIi2 hI,⟨u,u',b2.extBut _ _ D.TOz a2⟩,a3.extBut b2.extBut D.i1z,a4.extBut b2.extBut D.i2z⟩,fun b hb=>?_⟩
    rw[upd_ne (Tne b hb)]
    exact(hf b hb).1
  done:=by
    intro X hP hw hK hc i pins s σ H E I hf st hg
    subst hP hw hK
    obtain⟨hz,hI,⟨a,c,hO⟩,h1,h2⟩:=st
    obtain⟨xs,q1,hx⟩:=hg
    obtain⟨its,rv,p,_⟩:=I.tuple q1
    have hl:=rv.length
    refine zip_endT (I.ok.hd hc) D hz hI h1 (show s.heap.IsTuple l1 its.toArray from p) (by simp;lia) fun h' kp=>⟨rfl,Inv.turnedL (t':=s.toks) I (fun b o hb e=>kp b o (fun q=>hb (by simp[q])) (fun q=>hb (by simp[q])) e) hf⟩
  self:=fun _ _ _ _ _ st h=>wpAny_pyIter_zip st.1 h
def iZip(K:PySem.W.Frag)(ta:TA):TI:=fun σ H R=>ta σ H fun vs H1=>∃l1 l2 xs ys,vs=[.ref l1,.ref l2]∧SqT K H1 l1 xs∧SqL K H1 l2 ys∧R (Itz K l1 l2) H1
theorem pi_zip{X:Cx}{a b:Expr}{ta:TA}{p pos:Pos}{es:List Expr}{kt:Nat}{pt:Pos}(hg:Gl X "zip")(hm:X.mg "zip"=none)(ha:PA X [a,b] ta)(hs:starEach [a,b] X.env=[(false,eval a X.env),(false,eval b X.env)]:=by rfl)(hs2:starEach [b] X.env=[(false,eval b X.env)]:=by rfl) :
    PI X (.Tuple es kt pt) (.Call (.Name "zip" p) [a,b] [] pos) (iZip X.K ta):=by
  intro pins s σ H R I h
  refine Call_ (ld_blt I hg hm boot_zip (PyProof.Rows.callWith_type1 (thn (ha pos pins s σ H _ I h) fun us s1 ⟨vs,H1,I1,r1,q1⟩=>?_) (by rw[hs,hs2]) (by rw[hs2];rfl)))
  obtain⟨l1,l2,xs,ys,e,q1,q2,q⟩:=q1
  subst e
  obtain⟨u,u',rfl,ru,ru'⟩:=r1.two
  cases ru
  cases ru'
  obtain⟨its,rv,pt,_⟩:=I1.tuple q1
  obtain⟨jts,rw',pl,_⟩:=I1.list q2
  have b1:l1<s1.heap.objs.size:=by obtain⟨_,e,_⟩:=pt;exact Heap.lt_size e
  have b2:l2<s1.heap.objs.size:=by obtain⟨_,e,_⟩:=pl.isList;exact Heap.lt_size e
  refine call_zipT (show s1.heap.IsTuple l1 its.toArray from pt) pl.isList fun h' a1 a2 a3 a4 a5 kp=>wpAny_pyIter_zip a1 ?_
  refine⟨_,_,_,_,H1,rfl,I1.kept (t':=s1.toks) kp,turn_zip (zipApart_new b1 b2),⟨a1,a2,⟨_,_,a3⟩,a4,a5⟩,fun b hb=>?_,q⟩
  have:s1.heap.objs.size≤b:=by
    simp only[List.mem_cons,List.not_mem_nil,or_false] at hb
    rcases hb with rfl|rfl|rfl|rfl|rfl<;>first|exact ZG _|exact Nat.le_add_right _ _
  exact I1.fpOk this (I1.hok.fresh this)
end FX
namespace FX
open PySem PySem.Spec PyProof.Rows L2
theorem XFl.keep(x:XFl h g e cls fl)(k:∀b o,g b→h.get? b=some o→h'.get? b=some o):XFl h' g e cls fl:=by
  obtain⟨g1,oe,vs,a0,T,oT,ts,h1,h2,h3,h4,h5,h6,h7,h8,h9⟩:=x
  exact⟨g1,oe,vs,a0,T,oT,ts,k _ _ g1 h1,h2,h3,h4,h5,h6,h7,k _ _ h6 h8,h9⟩
theorem Aside.more{fr:List Addr}{g g':Addr→Prop}{h h':Heap}(a:Aside fr g h h')(k:∀b,g b→g' b):Aside fr g' h h':=⟨fun b o e n1 n2=>a.keep b o e n1 fun z=>n2 (k b z),a.slot⟩
def postX(M:Model)(A:Around)(E:Value→Shared→Prop)(Q:Value→Shared→Prop)(acc:Value)(cenv:Env)(r:Result)(s':Shared):Prop :=
  match r with
  | .ok _=>∃m,s'.heap.Ns cenv.locals m∧∀h',Heap.SameBut cenv.locals s'.heap h'→Q acc { s' with heap:=h' }
  | .error x=>∃m,s'.heap.Ns cenv.locals m∧∀h',Heap.SameBut cenv.locals s'.heap h'→wpAny M A (passOn "comprehension.variables-let-go" x cenv:Sem Value) (fun _ _=>False) E { s' with heap:=h' }
theorem comp_freeX{M:Model}{A:Around}{E:Value→Shared→Prop}{s:Shared}{env:Env}{e:Expr}{scope:Scope}{pos:Pos}{newAcc first:Sem Value}{g:Comprehension}{gs:List Comprehension}{cl:List (Str×Addr)}{Q:Value→Shared→Prop}(hcl:clausesOf e=g::gs)(hs:∀x,foldedSetIterable g.iter env x=pure x)(hclos:closureFor scope env=pure cl)(hkind:scope.kind=.function)(hnames:∀x∈scope.names,x.2=.local→scope.names.lookup x.1=some .local)(h:wpAny M A first (fun x s₁=>wpAny M A (pyIter x) (fun it s₂=>wpAny M A newAcc (fun acc s₃=>wpAny M A (newFunctionEnv scope env.globals cl [] env.qual none .none (some env)) (fun cenv s₄ =>
        codeAny M A (.compStart e 0 it acc { cenv with scope:=relabel scope env }) (postX M A E Q acc { cenv with scope:=relabel scope env }) s₄) E s₃) E s₂) E s₁) E s) :
    wpAny M A (comprehension e scope env pos newAcc false first none) Q E s:=by
  have id':∀(v:Value)(s':Shared),E v s'→E v s':=fun _ _ z=>z
  unfold comprehension
  rw[hclos,hcl]
  refine wpAny_bind (wpAny_mono h (fun x s₁ h₁=>wpAny_bind (wpAny_standAt (wpAny_bind (wpAny_of_eq (hs x) (wpAny_bind (wpAny_holding (wpAny_mono h₁ (fun it s₂ h₂=>?_) id'))))))) id')
  refine wpAny_standIf (wpAny_bind (wpAny_mono h₂ (fun acc s₃ h₃=>wpAny_bind (wpAny_pure (wpAny_bind (wpAny_mono h₃ (fun cenv s₄ h₄=>?_) id')))) id'))
  dsimp only
  have hv:∀x∈(scope.names.filter fun x=>(x.2 == .local || x.2 == .cell)&&x.1 != (".0":Str)).reverse,x.2=.local→Env.kindOf { cenv with scope:=relabel scope env } x.1=some .local:=fun x hx hl =>
    lookup_relabel_local (hnames x (List.mem_filter.mp (List.mem_reverse.mp hx)).1 hl)
  refine wpAny_holding (wpAny_bind (wpAny_attempt (wpAny_holding (wpAny_run (codeAny_mono h₄ fun r s' hr=>?_)))))
  cases r with
  | ok f =>
    obtain⟨m,hn,hr⟩:=hr
    exact wpAny_bind (wpAny_holding (wpAny_comp_letGo (cenv:={ cenv with scope:=relabel scope env }) hkind _ s' m hv hn fun h' m' _ hs'=>wpAny_pure (hr h' hs')))
  | error x =>
    obtain⟨m,hn,hr⟩:=hr
    exact wpAny_bind (wpAny_holding (wpAny_comp_letGo (cenv:={ cenv with scope:=relabel scope env }) hkind _ s' m hv hn fun h' m' _ hs'=>wpAny_mono (hr h' hs') (fun _ _ f=>f.elim) id'))
theorem comp_loopX{prog:Program}{w:World}{A:Around}{R:Result→Shared→Prop}{s:Shared}{elt target iter:Expr}{scope:Scope}{pos:Pos}{it acc:Value}{env:Env}(J:Nat→Shared→Prop)(turn:∀k s0,J k s0→wpAny (model prog w) A (pyNext it) (fun r s1=>match r with
      | none=>R (.ok .next) s1
      | some v=>wpAny (model prog w) A (letOwnedTupleGo target it v) (fun _ sg=>wpAny (model prog w) A (assign target env v) (fun _ s3 =>
          wpAny (model prog w) A (eval elt env) (fun x s4=>wpAny (model prog w) A (call (.builtin "list.append") [acc,x]) (fun _ s5=>∃m,m<k∧J m s5) (fun _ _=>False) s4) (notedBy (model prog w) A env fun e s'=>R (.error e) s') s3) (fun _ _=>False) sg) (fun _ _=>False) s1) (fun _ _=>False) s0)(k:Nat)(h:J k s):codeAny (model prog w) A (.compLoop (.ListComp elt [⟨target,iter,[],0⟩] scope pos) 0 it acc env) R s:=by
  refine codeAny_loop rfl J (fun k s0 hI=>?_) k h
  show wpAny _ A ((compTurn (.ListComp elt [⟨target,iter,[],0⟩] scope pos) 0 it acc env).onRaise (fun x=>do noteFrame x env;theTreesLotGoes x)) _ _ s0
  have no:∀{E:Value→Shared→Prop} (e:Value) (s':Shared),False→notedBy (model prog w) A env E e s':=fun _ _ z=>z.elim
  refine wpAny_noted ?_
  rw[compTurn_list]
  refine wpAny_bind (wpAny_standAt (wpAny_bind (wpAny_mono (turn k s0 hI) (fun r s1 h1=>?_) no)))
  cases r with
  | none=>exact wpAny_pure h1
  | some v =>
    refine wpAny_bind (wpAny_mono h1 (fun _ sg hg=>wpAny_bind (wpAny_mono hg (fun _ s3 h3=>wpAny_bind (wpAny_tests_nil ?_)) no)) no)
    simp only[if_true]
    exact wpAny_bind (wpAny_bind (wpAny_mono h3 (fun x s4 h4=>wpAny_bind (wpAny_mono h4 (fun _ s5 h5=>wpAny_pure (wpAny_pure ⟨rfl,h5⟩)) no)) fun _ _ z=>z))
end FX
namespace FX
open PySem PySem.Spec PyProof.Rows L2
def XB(B:Cx)(E:XK)(fp:List Addr):Value→Shared→Prop:=fun e s'=>∃ex cls H' σ',e=.ref ex∧Inv B [] σ' H' s'∧XTr s'.heap (fun b=>(B.s₀.heap.get? b=none∨b∈fp)∧b≠B.env.locals∧H' b=none) ex cls∧E cls none H'
theorem XTr.mono(x:XTr h g e cls)(k:∀b,g b→g' b):XTr h g' e cls:=by
  obtain⟨g1,oe,vs,a0,T,oT,ts,h1,h2,h3,h4,h5,h6,h7⟩:=x
  exact⟨k _ g1,oe,vs,a0,T,oT,ts,h1,h2,h3,h4,h5,k _ h6,h7⟩
abbrev blkX(X:Cx)(E:XK)(sc:Scope)(cl:List (Str×Addr))(C:Addr)(N:List Str)(s1:Shared)(H1:Hp)(fp:List Addr)(pins:List (Addr×Obj)):Cx:=(blk X sc cl C N s1 H1 fp pins).wish (XB (blk X sc cl C N s1 H1 fp pins) E fp)
theorem passB{X:Cx}{E:XK}{sc:Scope}{cl:List (Str×Addr)}{C:Addr}{N:List Str}{s1:Shared}{H1:Hp}{fp:List Addr}{pins:List (Addr×Obj)}:Passes (CX1 X.prog X.w) (blkX X E sc cl C N s1 H1 fp pins) E:=by
  intro pins' σ H0 s0 e s' I ⟨ex,cls,H',he,x,hE,ho,hg,u,ok⟩
  subst he
  have I':Inv (blkX X E sc cl C N s1 H1 fp pins) pins' σ H' s':=I.call' (ch:=[]) ho u ok hg (fun b hb=>by simp at hb)
  refine⟨ex,cls,H',σ,rfl,I'.unwish.pins_of (fun p hp=>by cases hp),x.mono fun b z=>⟨?_,fun q=>?_,z.2⟩,hE⟩
  · by_cases hb:b∈fp
    · exact .inr hb
    · refine .inl ?_
      cases q:(blk X sc cl C N s1 H1 fp pins).s₀.heap.get? b with
      | none=>rfl
      | some o =>
        obtain⟨o',e⟩:=I.base.there b o q hb
        rw[z.1] at e;cases e
  · obtain⟨m,⟨o,_,_,ho,_⟩,_⟩:=I.loc
    have:s0.heap.get? C=some o:=ho
    rw[show b=C from q] at z
    rw[z.1] at this;cases this
def tComp2X(K:PySem.W.Frag)(wi:TI)(caps:List (Str×Nat))(te:TE):TE:=fun σ H Q=>wi σ H fun J H1=>∀p,H1 p=none→∃W:Nat→Nat→List V→Hp→Prop,(∃m,W 0 m [] (upd H1 p (.lst [])))∧∀i m ys H2,W i m ys H2→H2 p=some (.lst ys) ∧
  ((J.stop i H2∧Q (.ref p) H2)∨(J.go i H2∧∀x H3,J.yld i H2 x H3→∃a u v,x=.ref a∧SqT K H3 a [u,v] ∧
    te (some u::some v::capv σ caps) H3 fun v H5=>H5 p=some (.lst ys)∧ys.length<sizeLine∧∃m',m'<m∧W (i+1) m' (ys++[v]) (upd H5 p (.lst (ys++[v])))))
section
variable {P:Program}{w:World}{K:PySem.W.Frag}{mg:Str→Option Value}{base:Heap}{N0:List Str}{qual:Str}{scope:Scope}{f:Addr}{cd:Value}{A:Around}{outer:List Env}{s0:Shared}{H0:Hp}{E:XK}
theorem out_x{pins:List (Addr×Obj)}{σ:L2.St}{H':Hp}{s' s1:Shared}{fp:List Addr}{ex C:Addr}{cls:Value}{e':Env}(hC:C=s1.heap.objs.size)(I1:Inv (cxOf (CX1 P w) P w K mg base N0 qual scope f cd A outer s0 H0 E) pins σ H1 s1)(hf:∀b∈fp,FpOk (cxOf (CX1 P w) P w K mg base N0 qual scope f cd A outer s0 H0 E) pins H1 b)(I:Inv (cxOf (CX1 P w) P w K mg base N0 qual scope f cd A outer s0 H0 E) pins σ H' s')(hn:H' C=none)(hns:∃m,s'.heap.Ns C m)(he:e'.frame=(envOfC qual scope s0.heap.objs.size f cd).frame)(hel:e'.locals=C)(x:XTr s'.heap (fun b=>(s1.heap.get? b=none∨b∈fp)∧b≠C∧H' b=none) ex cls)(hE:E cls none H')(there:∀b o,s1.heap.get? b=some o→b∉fp→∃o',s'.heap.get? b=some o'){Q:Value→Shared→Prop}{acc:Value} :
    notedBy (model P w) (A.deeper (envOfC qual scope s0.heap.objs.size f cd)) e' (fun e s''=>postX (model P w) (A.deeper (envOfC qual scope s0.heap.objs.size f cd)) (cxOf (CX1 P w) P w K mg base N0 qual scope f cd A outer s0 H0 E).xe Q acc e' (.error e) s'') (.ref ex) s':=by
  obtain⟨X,hX⟩:∃X,X=cxOf (CX1 P w) P w K mg base N0 qual scope f cd A outer s0 H0 E:=⟨_,rfl⟩
  rw[←hX] at I I1 hf
  have eL:(envOfC qual scope s0.heap.objs.size f cd).frame=some s0.heap.objs.size:=rfl
  have fr:A.frames=A.frames:=rfl
  have hfrm:=I.ok.frames
  have hstk:s'.heap.FunFrames X.base X.stack:=I.stack
  have h1:∀b o,s0.heap.get? b=some o→∃o',s1.heap.get? b=some o':=fun b o e=>I1.base.there b o (by rw[hX];exact e) (by rw[hX];simp[cxOf])
  have hfree:∀b∈frs X.stack,H' b=none:=fun b hb=>I.stkFree b hb
  have hlt:∀b∈frs X.stack,b≠C:=fun b hb z=>by
    obtain⟨_,o,ho,_⟩:=I1.stack.mem hb
    rw[hC] at z
    exact absurd (Heap.lt_size ho) (by rw[z];exact Nat.lt_irrefl _)
  have frg:∀b∈frs X.stack,¬((s1.heap.get? b=none∨b∈fp)∧b≠C∧H' b=none):=fun b hb z=>by
    rcases z.1 with q|q
    · obtain⟨_,o,ho,_⟩:=I1.stack.mem hb
      rw[q] at ho;cases ho
    · have q1:=(hf b q).2.1
      have q2:=(hf b q).2.2.1
      rcases ZM (I1.stkSub b hb) with z|z
      · exact q1 z
      · exact q2 z
  have Cg:¬((s1.heap.get? C=none∨C∈fp)∧C≠C∧H' C=none):=fun z=>z.2.1 rfl
  subst hX
  show wpAny _ _ (noteFrame (.ref ex) e') _ _ _
  have eN:noteFrame (.ref ex) e'=noteFrame (.ref ex) (envOfC qual scope s0.heap.objs.size f cd):=by
    unfold noteFrame PySem.frameOf
    rw[he]
  rw[eN]
  refine note_x (base:=base) (L:=s0.heap.objs.size) hfrm hstk eL x.at (fun b q=>?_) fun h2 x2 a2=>?_
  · refine⟨?_,fun z=>?_,?_⟩
    · by_cases hb:b∈fp
      · exact .inr hb
      · refine .inl ?_
        cases q2:s1.heap.get? b with
        | none=>rfl
        | some o =>
          obtain⟨o',e⟩:=there b o q2 hb
          rw[q] at e;cases e
    · obtain⟨m,o,_,_,ho,_⟩:=hns
      rw[z] at q;rw[q] at ho;cases ho
    · cases q2:H' b with
      | none=>rfl
      | some o =>
        obtain⟨ob,e⟩:=hok_there I.hok q2
        rw[q] at e;cases e
  · obtain⟨m,o,es,ep,ho,r⟩:=hns
    have hC2:h2.get? C=some o:=a2.keep C o ho (fun z=>hlt C z rfl) Cg
    subst hel
    refine⟨m,⟨o,es,ep,hC2,r⟩,fun h3 sb=>?_⟩
    have x3:XFl h3 (fun b=>(s1.heap.get? b=none∨b∈fp)∧b≠e'.locals∧H' b=none) ex cls (rawInt s0.heap.objs.size):=x2.keep fun b o z q=>sb.extBut b o z.2.1 q
    have a3:Aside (frs (envOfC qual scope s0.heap.objs.size f cd::outer)) (fun b=>((s1.heap.get? b=none∨b∈fp)∧b≠e'.locals∧H' b=none)∨b=e'.locals) h2 h3 :=
      ⟨fun b o e _ n=>sb.extBut b o (fun z=>n (.inr z)) e,fun b o e m=>⟨o.slots,sb.extBut b o (hlt b m) e⟩⟩
    obtain⟨ge,oe,vs,a0,T,oT,ts,y1,y2,y3,y4,y5,y6,y7,y8,y9,y10⟩:=id x3
    refine wpAny_bind (m:=field (.ref ex) 1) (wpAny_field (s:={ s' with heap:=h3 }) y1 y3 y5 ?_)
    rw[if_neg (show ¬((Value.ref T==Value.none)=true) by simp)]
    rw[he,eL]
    refine wpAny_bind (fly_x (s:={ s' with heap:=h3 }) (fr:=frs (envOfC qual scope s0.heap.objs.size f cd::outer)) x3 frg fun h4 x4 a4=>wpAny_throw ?_)
    show wpAny (model P w) _ (leaving (envOfC qual scope s0.heap.objs.size f cd) (.ref ex)) _ _ _
    refine wpAny_bind (noted_x (s:={ s' with heap:=h4 }) eL x4 ?_)
    refine fly_x (s:={ s' with heap:=h4 }) (fr:=frs (envOfC qual scope s0.heap.objs.size f cd::outer)) (fo:=none) x4 frg fun h5 x5 a5=>?_
    have asd:Aside (frs (envOfC qual scope s0.heap.objs.size f cd::outer)) (fun b=>((s1.heap.get? b=none∨b∈fp)∧b≠e'.locals∧H' b=none)∨b=e'.locals) s'.heap h5:=(((a2.more fun _ z=>.inl z).trans a3).trans (a4.more fun _ z=>.inl z)).trans (a5.more fun _ z=>.inl z)
    have gs:∀b o,s0.heap.get? b=some o→¬(((s1.heap.get? b=none∨b∈fp)∧b≠e'.locals∧H' b=none)∨b=e'.locals):=fun b o e z=>by
      rcases z with⟨z|z,_⟩|z
      · obtain⟨o',e'⟩:=h1 b o e
        rw[z] at e';cases e'
      · rcases(hf b z).2.2.2.1 with q|q
        · exact absurd q (by simp[cxOf])
        · exact absurd (Nat.lt_of_lt_of_le (Heap.lt_size e) q) (Nat.lt_irrefl _)
      · obtain⟨o',e2⟩:=h1 b o e
        rw[z,hC] at e2
        exact absurd (Heap.lt_size e2) (Nat.lt_irrefl _)
    refine⟨ex,cls,H',rfl,XTr.mono (g:=fun b=>(s1.heap.get? b=none∨b∈fp)∧b≠e'.locals∧H' b=none) x5 (fun b z=>⟨?_,z.2.2⟩),hE,I.os,I.bare,un_aside (fs:=frs outer) I.base asd gs (fun b o e m=>?_) hfree,hok_aside I.hok asd hfree fun b z=>?_⟩
    · cases q:s0.heap.get? b with
      | none=>rfl
      | some o=>exact absurd (.inl z) (gs b o q)
    · rcases ZM (show b∈s0.heap.objs.size::frs outer from m) with z|z
      · have:=Heap.lt_size (show s0.heap.get? b=some o from e)
        rw[z] at this
        exact absurd this (Nat.lt_irrefl _)
      · exact z
    · rcases z with z|z
      · exact z.2.2
      · rw[z];exact hn
variable {elt iter:Expr}{x y0:Str}{px py0 pt pos:Pos}{kt:Nat}{sc:Scope}{cl:List (Str×Addr)}{caps:List (Str×Nat)}{wi:TI}{te:TE}
theorem pe_comp2X(hi:PI (cxOf (CX1 P w) P w K mg base N0 qual scope f cd A outer s0 H0 E) (.Tuple [.Name x px,.Name y0 py0] kt pt) iter wi)(hclos:closureFor sc (envOfC qual scope s0.heap.objs.size f cd)=pure cl)(hcell:∀y∈sc.names,y.2≠.cell)(hkind:sc.kind=.function)(hnames:∀y∈sc.names,y.2=.local→sc.names.lookup y.1=some .local)(hx:sc.names.lookup x=some .local)(hy0:sc.names.lookup y0=some .local)(hin:InCells (envOfC qual scope s0.heap.objs.size f cd).cells cl)(has:∀y,((relabel sc (envOfC qual scope s0.heap.objs.size f cd)).names.lookup y=some .cell∨(relabel sc (envOfC qual scope s0.heap.objs.size f cd)).names.lookup y=some .free)→∃c,cl.lookup y=some c)(hcap:CapsOk (cxOf (CX1 P w) P w K mg base N0 qual scope f cd A outer s0 H0 E) sc cl caps)(hN:(x::y0::capn caps).Nodup)(he:∀C s1 H1 fp pins,PE (blkX (cxOf (CX1 P w) P w K mg base N0 qual scope f cd A outer s0 H0 E) E sc cl C (x::y0::capn caps) s1 H1 fp pins) elt te)(hs:∀v,foldedSetIterable iter (envOfC qual scope s0.heap.objs.size f cd) v=pure v:=by intro _;rfl):PE (cxOf (CX1 P w) P w K mg base N0 qual scope f cd A outer s0 H0 E) (.ListComp elt [⟨.Tuple [.Name x px,.Name y0 py0] kt pt,iter,[],0⟩] sc pos) (tComp2X K wi caps te):=by
  intro pins s σ H Q I h
  rw[eval_ListComp]
  refine comp_freeX rfl hs hclos hkind hnames (thn (hi pins s σ H _ I h) fun v s1 h1=>thn h1 fun itv s2 h2=>?_)
  obtain⟨it,fp,tn,J,H2,e,I2,T,st2,f2,hW⟩:=h2
  subst e
  refine wpAny_newObj_type ?_
  have hfresh:H2 s2.heap.objs.size=none:=I2.hok.fresh (ZG _)
  have I3:Inv _ pins σ (upd H2 s2.heap.objs.size (.lst [])) { s2 with heap:=s2.heap.push { cls:=.type "list",dict:=none,data:=.seq ([]:List Value).toArray } }:=I2.lnew (t':=s2.toks) (its:=[]) .nil (Nat.zero_le _)
  obtain⟨W,⟨m0,w0⟩,turn⟩:=hW s2.heap.objs.size hfresh
  have fpn:∀b∈fp,b≠s2.heap.objs.size:=fun b hb z=>by
    obtain⟨o,e,_⟩:=T.obj 0 _ st2 b hb
    exact absurd (Heap.lt_size e) (by rw[z];exact Nat.lt_irrefl _)
  have f3:∀b∈fp,FpOk _ pins (upd H2 s2.heap.objs.size (.lst [])) b:=fun b hb=>⟨by rw[upd_ne (fpn b hb)];exact(f2 b hb).1,(f2 b hb).2⟩
  have st3:tn 0 (s2.heap.push { cls:=.type "list",dict:=none,data:=.seq ([]:List Value).toArray }):=T.keep 0 _ _ st2 fun b hb o e=>Heap.get?_push_of_some _ e
  obtain⟨D,hD⟩:∃D,D=s2.heap.objs.size:=⟨_,rfl⟩
  obtain⟨H3,hH3⟩:∃H3,H3=upd H2 s2.heap.objs.size (.lst []):=⟨_,rfl⟩
  obtain⟨s3,hs3⟩:∃s3:Shared,s3={ s2 with heap:=s2.heap.push { cls:=.type "list",dict:=none,data:=.seq ([]:List Value).toArray } }:=⟨_,rfl⟩
  have st3':tn 0 s3.heap:=by rw[hs3];exact st3
  rw[←hH3] at I3 f3 w0
  rw[←hs3] at I3
  rw[←hD] at turn
  show wpAny _ _ _ _ _ ({ s2 with heap:=s2.heap.push { cls:=.type "list",dict:=none,data:=.seq ([]:List Value).toArray } }:Shared)
  rw[←hs3,←hD]
  refine wpAny_newFunctionEnv hcell (by intro y hy;simp at hy) (fun h1 hn1 hs1=>?_) hkind
  have ok:=blk_ok (N:=x::y0::capn caps) I3 f3 (fun b hb=>let⟨o,e,_⟩:=T.obj 0 _ st3' b hb;⟨o,e⟩) hkind hin has
  have hx':=lookup_relabel_local (env:=envOfC qual scope s0.heap.objs.size f cd) hx
  have hy':=lookup_relabel_local (env:=envOfC qual scope s0.heap.objs.size f cd) hy0
  have J4:=blk_in2 (y0:=y0) (t':=s3.toks+([]:List (Str×Value)).length) I3 ok hin hcap hx' hn1 hs1
  have st4:tn 0 h1:=T.keep 0 _ _ st3' fun b hb o e=>(hs1.2 b (Nat.ne_of_lt (Heap.lt_size e))).trans (Heap.get?_push_of_some _ e)
  obtain⟨B,hB⟩:∃B,B=blk (cxOf (CX1 P w) P w K mg base N0 qual scope f cd A outer s0 H0 E) sc cl s3.heap.objs.size (x::y0::capn caps) s3 H3 fp pins:=⟨_,rfl⟩
  have stat:∀{H':Hp},(∀b∈fp,H' b=none)→∀b∈fp,FpOk B [] H' b:=fun hn b hb=>by
    subst hB
    refine⟨hn b hb,(ok.exf b hb).1,fun z=>ok.exfs b hb z,.inl hb,fun y c e=>(f3 b hb).2.2.2.2.1 y c (hin.look e),fun p hp=>?_⟩
    have hp':p∈(cxOf (CX1 P w) P w K mg base N0 qual scope f cd A outer s0 H0 E).pn++pins:=by simpa [blk] using hp
    exact(f3 b hb).2.2.2.2.2 p hp'
  have loop:∀s4:Shared,s4={ s3 with heap:=h1,toks:=s3.toks+([]:List (Str×Value)).length } →
      codeAny (model P w) (A.deeper (envOfC qual scope s0.heap.objs.size f cd)) (.compLoop (.ListComp elt [⟨.Tuple [.Name x px,.Name y0 py0] kt pt,iter,[],0⟩] sc pos) 0 (.ref it) (.ref D) (compEnvC sc cl s3.heap.objs.size (envOfC qual scope s0.heap.objs.size f cd)))
        (postX (model P w) (A.deeper (envOfC qual scope s0.heap.objs.size f cd)) (cxOf (CX1 P w) P w K mg base N0 qual scope f cd A outer s0 H0 E).xe (EP (cxOf (CX1 P w) P w K mg base N0 qual scope f cd A outer s0 H0 E) pins σ Q) (.ref D) (compEnvC sc cl s3.heap.objs.size (envOfC qual scope s0.heap.objs.size f cd))) s4:=by
    rintro s4 rfl
    subst hB
    refine comp_loopX (fun k s'=>∃i v0 v1 ys H',Inv (blk (cxOf (CX1 P w) P w K mg base N0 qual scope f cd A outer s0 H0 E) sc cl s3.heap.objs.size (x::y0::capn caps) s3 H3 fp pins) [] (v0::v1::capv σ caps) H' s'∧tn i s'.heap∧(∀b∈fp,H' b=none)∧W i k ys H') ?_ m0 ⟨0,none,none,[],H3,J4,st4,fun b hb=>(f3 b hb).1,w0⟩
    rintro k s5 ⟨i,v0,v1,ys,H5,I5,st5,fr5,w5⟩
    obtain⟨hD5,stop|⟨go,step⟩⟩:=turn i k ys H5 w5
    · obtain⟨stop,q⟩:=stop
      refine thn (T.done (blk (cxOf (CX1 P w) P w K mg base N0 qual scope f cd A outer s0 H0 E) sc cl s3.heap.objs.size (x::y0::capn caps) s3 H3 fp pins) rfl rfl rfl rfl i [] s5 _ H5 (fun _ _=>False) I5 (stat fr5) st5 stop) fun r s6 ⟨hr,I6⟩=>?_
      subst hr
      obtain⟨mm,hnn,_⟩:=I6.loc
      exact⟨mm,hnn,fun h' hs'=>⟨.ref D,H5,blk_let (s':=s6) I3 (blk_out I3 f3 I6) I6.free hs',rfl,q⟩⟩
    · refine thn (T.item (blk (cxOf (CX1 P w) P w K mg base N0 qual scope f cd A outer s0 H0 E) sc cl s3.heap.objs.size (x::y0::capn caps) s3 H3 fp pins) rfl rfl rfl rfl i [] s5 _ H5 (fun _ _=>False) I5 (stat fr5) st5 go) fun r s6 ⟨u,hr,h6⟩=>?_
      subst hr
      refine thn h6 fun _ s7 ⟨y,H7,I7,r7,y7,st7,fr7⟩=>?_
      have I7':=I7.pinned (stat fr7) (T.obj _ _ st7)
      obtain⟨ay,uu,vv,ey,hsq,step'⟩:=step y _ y7
      refine thn (pg_tup (X:=blk (cxOf (CX1 P w) P w K mg base N0 qual scope f cd A outer s0 H0 E) sc cl s3.heap.objs.size (x::y0::capn caps) s3 H3 fp pins) rfl (pgs_cons (pg_name (i:=0) hN rfl (.inl hx') (.inr hx')) (pgs_cons (pg_name (i:=1) hN rfl (.inl hy') (.inr hy')) pgs_nil)) rfl rfl _ s7 (v0::v1::capv σ caps) H7 y u (fun σ' H'=>σ'=some uu::some vv::capv σ caps∧H'=H7) I7' r7 ⟨ay,_,ey,hsq,rfl,_,_,rfl,_,_,rfl,rfl,rfl,rfl⟩) fun _ s8 ⟨σ8,H8,I8,e8,e8'⟩=>?_
      subst e8
      subst e8'
      have back:∀{σ9:L2.St} {H9:Hp} {s9:Shared},Inv (blk (cxOf (CX1 P w) P w K mg base N0 qual scope f cd A outer s0 H0 E) sc cl s3.heap.objs.size (x::y0::capn caps) s3 H3 fp pins) ([]++pinsAt fp s7.heap) σ9 H9 s9→tn (i+1) s9.heap∧∀b∈fp,H9 b=none:=fun{σ9 H9 s9} I9=>by
        refine⟨T.keep _ _ _ st7 fun b hb o e=>(I9.pin (b,o) (ZC _ (ZC _ (mem_pinsAt hb e)))).1,fun b hb=>?_⟩
        obtain⟨o,e,d⟩:=T.obj _ _ st7 b hb
        exact(I9.pin (b,o) (ZC _ (ZC _ (mem_pinsAt hb e)))).2.1
      refine wpAny_mono (he _ _ _ _ _ _ s8 _ _ _ (I8.wish _) step') (fun xv s10 z=>?_) fun ev s9 z=>?_
      · obtain⟨v,H10,I10',r10,hD10,hlt,m',hm,w10⟩:=z
        have I10:=I10'.unwish
        refine thn (mt_append (X:=blk (cxOf (CX1 P w) P w K mg base N0 qual scope f cd A outer s0 H0 E) sc cl s3.heap.objs.size (x::y0::capn caps) s3 H3 fp pins) _ s10 _ H10 (.ref D) [v] (.ref D) [xv] (fun _ H'=>H'=upd H10 D (.lst (ys++[v]))) I10 rfl (.cons r10 .nil) ⟨D,ys,v,rfl,rfl,hD10,hlt,rfl⟩) fun _ s11 ⟨_,H11,I11,_,e11⟩=>?_
        subst e11
        exact⟨m',hm,i+1,some uu,some vv,ys++[v],_,I11.unpinned,(back I11).1,(back I11).2,w10⟩
      · obtain⟨ex,cls,H',σ',rfl,I9,x9,hE⟩:=z
        obtain⟨mm,hnn,_⟩:=I9.loc
        exact out_x (e':=compEnvC sc cl s3.heap.objs.size (envOfC qual scope s0.heap.objs.size f cd)) rfl I3 f3 (blk_out I3 f3 I9) I9.free ⟨mm,hnn⟩ rfl rfl x9 hE fun b o e hb=>I9.base.there b o e hb
  exact codeAny_compStart_list (loop _ rfl) (T.self _ 0 _ _ _ st4 (loop _ rfl))
end
end FX
namespace FX
open PySem PySem.Spec PyProof.Rows L2
theorem comp_str{z:Str}{p:Addr}{tt:TT}{te:TE}{caps:List (Str×Nat)}{σ:L2.St}{H:Hp}{Q:Hp→Prop}(Pv:Nat→List V→Hp→Prop)(h0:Pv 0 [] (upd H p (.lst [])))(hl:∀i ys H2,i≤z.length→Pv i ys H2→H2 p=some (.lst ys))(hs:∀i c ys H2 (N:List V→Hp→Prop),z.cps[i]?=some c→Pv i ys H2→(∀ys H,Pv (i+1) ys H→N ys H)→tt (some (.str (one c))::capv σ caps) H2 fun b H4 =>
      if b=true then te (some (.str (one c))::capv σ caps) H4 fun v H5=>H5 p=some (.lst ys)∧ys.length<sizeLine∧N (ys++[v]) (upd H5 p (.lst (ys++[v]))) else N ys H4)(hd:∀ys H2,Pv z.length ys H2→Q H2) :
    ∃W:Nat→Nat→List V→Hp→Prop,(∃m,W 0 m [] (upd H p (.lst [])))∧∀i m ys H2,W i m ys H2→H2 p=some (.lst ys) ∧
      (((Its z).stop i H2∧Q H2)∨((Its z).go i H2∧∀x H3,(Its z).yld i H2 x H3→tt (some x::capv σ caps) H3 fun b H4 =>
        if b=true then te (some x::capv σ caps) H4 fun v H5=>H5 p=some (.lst ys)∧ys.length<sizeLine∧∃m',m'<m∧W (i+1) m' (ys++[v]) (upd H5 p (.lst (ys++[v])))
        else ∃m',m'<m∧W (i+1) m' ys H4)):=by
  refine⟨fun i m ys H=>m=z.length-i∧i≤z.length∧Pv i ys H,⟨z.length,by simp,Nat.zero_le _,h0⟩,?_⟩
  rintro i m ys H2 ⟨rfl,hi,pv⟩
  refine⟨hl i ys H2 hi pv,?_⟩
  by_cases hlt:i<z.length
  · refine .inr ⟨hlt,fun x H3 y=>?_⟩
    obtain⟨e,c,hc,ex⟩:=y
    subst e ex
    exact hs i c ys _ (fun zs H'=>∃m',m'<z.length-i∧(m'=z.length-(i+1)∧i+1≤z.length∧Pv (i+1) zs H')) hc pv fun zs H' pz=>⟨_,by lia,rfl,hlt,pz⟩
  · have e:i=z.length:=by lia
    subst e
    exact .inl ⟨ZG _,hd ys H2 pv⟩
theorem in_figs(c:Nat):(!(Builtin.Str.occurrences ("0123456789":Str) (one c) 0 (Str.length "0123456789") 1).isEmpty)=isFig c:=by
  rw[StrLaws.found_one,Bool.eq_iff_iff]
  rw[decide_eq_true_iff]
  have e:("0123456789":Str).cps.toList=[48,49,50,51,52,53,54,55,56,57]:=rfl
  rw[e]
  simp only[List.mem_cons,List.not_mem_nil,or_false,isFig,Bool.and_eq_true,decide_eq_true_eq]
  omega
theorem has2{a b:Str}{cl:List (Str×Addr)}{y:Str}(h:([(a,NameKind.local),(b,NameKind.local)]:List (Str×NameKind)).lookup y=some .cell∨([(a,NameKind.local),(b,NameKind.local)]:List (Str×NameKind)).lookup y=some .free):∃z,cl.lookup y=some z:=by
  simp only[List.lookup_cons,List.lookup_nil] at h
  split at h
  · simp at h
  · split at h<;>simp at h
theorem filt_all{l:List Nat}:(l.filter isFig).length=l.length↔l.all isFig=true:=by
  rw[List.length_filter_eq_length_iff,List.all_eq_true]
end FX
namespace K53
open PySem L2 FX
set_option linter.all false
structure TxtR(K:PySem.W.Frag)(mg:Str→Option Value)(NR:Addr):Prop where
  cNR:XCls K mg "NoRow" NR
  len:mg "len"=none
  int:mg "int"=none
  zip:mg "zip"=none
  str:mg "str"=none
section
variable {P:Program}{w:World}{K:PySem.W.Frag}{mg:Str→Option Value}{base:Heap}{NR:Addr}
inductive spReadNum(NR:Addr)(vs:List V)(H:Hp)(Q:VK)(E:XK):Prop
  | mk (z:Str) (_:vs=[.str z]) (_:z.length≤1000) (_:rdNum z=none→∀H',Same H H'→E (.ref NR) none H') (_:∀i,rdNum z=some i→∀H',Same H H'→Q (.int i) H')
theorem scReadNum:FnScope ["word","plain"] ["word"] (defScope sReadNum):=⟨rfl,rfl,rfl,by decide +kernel,rfl,by decide +kernel,by decide +kernel⟩
def ttFig:TT:=tTest (tOp (fun x y H Q=>∃i j,x=.str i∧y=.str j∧Q (.bl (!(Builtin.Str.occurrences j i 0 j.length 1).isEmpty)) H) (tVar 0) (tC (.str "0123456789")))
theorem ok_readnum{f:Addr}{fd:FuncData}(F:Fun K "read_number" "read_number" sReadNum f fd)(T:TxtR K mg NR):FnOk P w K mg base (CX1 P w) 1 f fd ["word"] (spReadNum NR):=by
  refine ok12 F scReadNum fun vs H Q E h=>?_
  obtain⟨z,rfl,hz,kE,kQ⟩:=h
  refine⟨rfl,fun cdv A outer s hr=>?_⟩
  refine⟨_,pss_cons (ps_comp (tt:=ttFig) (te:=tVar 0) (i:=1) (caps:=[]) scReadNum.nd rfl rfl rfl rfl (pi_str (pv 0))
      rfl (by decide +kernel) rfl (by decide +kernel) rfl trivial (fun y h=>FX.has2 h) trivial (by decide +kernel) (fun _ _ _ _ _=>pts_one (pt_cmpR op_in_str (pv 0) pe_str rfl)) (fun _ _ _ _ _=>pv 0))
    (pss_cons (ps_if (PW.pt (pw_or (pt_cmpR op_ne (pe_callB call_len_seq (by rfl) T.len PySem.boot_len (pa_cons (pv 1) pa_nil)) (pe_callB call_len_str (by rfl) T.len PySem.boot_len (pa_cons (pv 0) pa_nil)) (nomark _))
        (pw_or (pt_cmpR op_lt (pe_callB call_len_str (by rfl) T.len PySem.boot_len (pa_cons (pv 0) pa_nil)) pe_int (nomark _)) (pw_or1 (pt_cmpR op_gt (pe_callB call_len_str (by rfl) T.len PySem.boot_len (pa_cons (pv 0) pa_nil)) pe_int (nomark _))))))
        (pss_one (ps_raise rfl rfl T.cNR raises1)) pss_nil)
    (pss_cons (ps_if (PW.pt (pw_and (pt_cmpR op_eq (pe_ix ix_str (pv 0) pe_int (fun _ _=>rfl)) pe_str (nomark _)) (pw_and1 (pt_cmpR op_ne (pv 0) pe_str (nomark _))))) (pss_one (ps_raise rfl rfl T.cNR raises1)) pss_nil)
    (pss_one (ps_ret (pe_callTy call_int_fig (by rfl) T.int PyProof.Rows.boot_int (pa_cons (pv 0) pa_nil)))))),?_⟩
  have hL:z.cps.toList.length=z.length:=(len_list z).symm
  have hs0:sizeLine=16777216:=sizeLine_eq
  refine⟨_,rfl,z,rfl,fun p hp=>?_⟩
  refine comp_str (tt:=ttFig) (te:=tVar 0) (caps:=[]) (fun i ys H2=>H2=upd H p (.lst ys)∧ys=((z.cps.toList.take i).filter isFig).map fun c=>V.str (one c)) ⟨rfl,rfl⟩ (fun i ys H2 _ h=>by rw[h.1];exact upd_same) ?_ ?_
  · rintro i c ys H2 N hc ⟨rfl,rfl⟩ hN
    have hc':z.cps.toList[i]?=some c:=by simpa using hc
    have tk:z.cps.toList.take (i+1)=z.cps.toList.take i++[c]:=by rw[List.take_add_one,hc'];rfl
    refine⟨_,rfl,_,_,rfl,rfl,_,rfl,?_⟩
    rw[in_figs]
    have nx:N _ _:=hN (((z.cps.toList.take (i+1)).filter isFig).map fun c=>V.str (one c)) (upd H p (.lst (((z.cps.toList.take (i+1)).filter isFig).map fun c=>V.str (one c)))) ⟨rfl,rfl⟩
    rw[tk,List.filter_append] at nx
    cases e:isFig c with
    | true =>
      refine iteT ⟨_,rfl,upd_same,?_,?_⟩
      · rw[ZA]
        have:=List.length_filter_le isFig (z.cps.toList.take i)
        rw[List.length_take] at this
        lia
      · rw[upd_upd]
        simpa [e] using nx
    | false =>
      refine iteF ?_
      simpa [e] using nx
  · rintro ys H2 ⟨rfl,rfl⟩
    rw[List.take_of_length_le (by lia)]
    have s1:=same_new (o:=.lst ((z.cps.toList.filter isFig).map fun c=>V.str (one c))) hp
    refine⟨_,rfl,_,_,rfl,.inl (SqL.of upd_same),_,rfl,z,rfl,by lia,rfl,_,rfl,?_⟩
    rw[ZA,dec_int]
    have no:∀(h:okNum z=false),rdNum z=none:=fun h=>by unfold rdNum;rw[h];rfl
    by_cases c1:z.cps.toList.all isFig=true
    · have q1:(((z.cps.toList.filter isFig).length:Int)==(z.length:Int))=true:=by rw[filt_all.mpr c1,hL];simp
      rw[q1]
      refine iteF ⟨_,rfl,z,rfl,by lia,_,_,rfl,rfl,_,rfl,?_⟩
      by_cases c2:1≤z.length
      · rw[decide_eq_false (show ¬((z.length:Int)<1) by lia)]
        refine iteF ⟨_,rfl,z,rfl,by lia,_,_,rfl,rfl,_,rfl,?_⟩
        by_cases c3:z.length≤9
        · rw[decide_eq_false (show ¬((9:Int)<(z.length:Int)) by lia)]
          refine iteF ?_
          obtain⟨c,r,e⟩:=List.exists_cons_of_ne_nil (l:=z.cps.toList) (fun q=>by rw[q] at hL;simp at hL;lia)
          have d0:∀c∈z.cps.toList,isFig c=true:=fun c hc=>List.all_eq_true.mp c1 c hc
          refine⟨_,rfl,z,0,c,rfl,rfl,by lia,atI_at (Int.le_refl 0) (by rw[e];rfl),rfl,_,rfl,?_⟩
          have okz:∀b c,(!b)=c→(decide (z.cps.toList.head?=some 48)&&decide (z≠"0"))=b→okNum z=c:=fun b c qc q=>by
            unfold okNum
            rw[c1,decide_eq_true c2,decide_eq_true c3,q,←qc]
            rfl
          have hd:z.cps.toList.head?=some c:=by rw[e];rfl
          refine ite2 (fun q=>?_) (fun q=>?_)
          · have hc:c=48:=by
              have:=of_decide_eq_true q
              injection this with this
              have:=congrArg (fun y:Str=>y.cps.toList) this
              exact List.head_eq_of_cons_eq this
            refine⟨_,rfl,rfl,_,rfl,?_⟩
            by_cases c4:z="0"
            · rw[decide_eq_true (show V.str z=V.str "0" by rw[c4])]
              exact iteF ⟨_,rfl,z,rfl,d0,c2,c3,kQ _ (by unfold rdNum;rw[if_pos (okz false true rfl (by rw[c4];decide))]) _ s1⟩
            · rw[decide_eq_false (fun q:V.str z=V.str "0"=>c4 (V.str.inj q))]
              refine iteT (kE (no (okz true false rfl ?_)) _ s1)
              rw[hd,hc,decide_eq_true rfl,decide_eq_true c4];rfl
          · refine iteF ⟨_,rfl,z,rfl,d0,c2,c3,kQ _ ?_ _ s1⟩
            unfold rdNum
            rw[if_pos (okz false true rfl ?_)]
            rw[hd,decide_eq_false,Bool.false_and]
            intro q2
            injection q2 with q2
            exact q (decide_eq_true (by rw[q2];rfl))
        · rw[decide_eq_true (show((9:Int)<(z.length:Int)) by lia)]
          exact iteT (kE (no (by unfold okNum;rw[decide_eq_false c3];simp)) _ s1)
      · rw[decide_eq_true (show((z.length:Int)<1) by lia)]
        exact iteT (kE (no (by unfold okNum;rw[decide_eq_false c2];simp)) _ s1)
    · have q1:(((z.cps.toList.filter isFig).length:Int)==(z.length:Int))=false:=by
        rw[beq_eq_false_iff_ne]
        intro q
        exact c1 (filt_all.mp (by rw[hL];exact Int.ofNat.inj q))
      rw[q1]
      exact iteT (kE (no (by unfold okNum;rw[Bool.eq_false_iff.mpr c1];simp)) _ s1)
end
end K53
namespace FX
open PySem PySem.Spec PyProof.Rows L2
def DicK(P:Program)(w:World)(K:PySem.W.Frag)(a:Addr)(kvs:List (Key×V)):Prop:=(a==sysModules)=false∧∃vs,KV kvs vs∧∀h:Heap,K.In h→h.DictOf (mixKind P w) a vs
section
variable {X:Cx}{x:Str}{a:Addr}{kvs:List (Key×V)}{e:Expr}{ty:TE}{p apos cpos:Pos}
def tDGetK(kvs:List (Key×V))(ty:TE):TE:=fun σ H Q=>ty σ H fun y H2=>∃k,y=kV k∧Q ((valV kvs k).getD .non) H2
theorem pe_dgetK(hu:X.A.units+1<cLine)(hg:Gl X x)(hm:X.mg x=some (.ref a))(D:DicK X.prog X.w X.K a kvs)(he:PE X e ty)(m:M1 X (.Name x p) "get" apos e cpos)(hd:(x==("__debug__":Str))=false:=by decide):PE X (.Call (.Attribute (.Name x p) "get" apos) [e] [] cpos) (tDGetK kvs ty):=by
  intro pins s σ H Q I h
  obtain⟨hn,vs,rel,dk⟩:=D
  refine wpAny_Call_method m.base m.few m.line PySem.F.plainAttrs_dict PySem.F.slot_dict_get PySem.F.type_dict_get (ld_glob I hg hm ?_ hd)
  have dd:=dk s.heap I.kIn
  refine⟨dd.typeIs,fun b eb=>?_,?_⟩
  · cases eb
    obtain⟨o,_,_,e,ex,_⟩:=dd
    exact⟨o,e,ex.2.1⟩
  rw[m.trees]
  refine Calls.callWith_builtin rfl (Calls.evalArgs_plain (Calls.spliced_cons (thn (he pins s σ H _ I h) fun iv s2 ⟨y,H2,I2,ry,k,ey,q2⟩=>Calls.spliced_nil ?_)))
  subst ey
  have d2:=dk s2.heap I2.kIn
  exact call_meetsIn PySem.F.slot_dict_get d2.typeIs PySem.F.entry_dict_get (PySem.F.args_dict_get_2 _ _) (meets_dict_get (mixKind X.prog X.w) a (kV_is ry) hn) ⟨_,d2.mapOf,⟨_,H2,I2.tok _,(rel.val k).getD (show RelV .non .none from rfl),q2⟩⟩
end
def fm(b:Bool):Str:=if b=true then "number" else "thing"
def FormE(K:PySem.W.Frag)(p:Str×List Bool)(q:Key×V):Prop:=q.1=Sum.inr p.1∧∃t,q.2=.ref t∧∀H,SqT K H t (p.2.map fun b=>V.str (fm b))
theorem form_no{K:PySem.W.Frag}:∀{l:List (Str×List Bool)} {kvs:List (Key×V)} {v:Str},Paired (FormE K) l kvs→l.lookup v=none→valV kvs (Sum.inr v)=none
  | _,_,_,.nil,_=>rfl
  | (a,fs)::l,q::kvs,v,.cons ⟨e,_⟩ r,h=>by
    rw[List.lookup_cons] at h
    cases c:v==a with
    | true=>rw[c] at h;cases h
    | false =>
      rw[c] at h
      have ne:¬q.1=Sum.inr v:=fun z=>by
        rw[e] at z
        exact absurd (Sum.inr.inj z).symm (ne_of_beq_false c)
      have:=form_no r h
      unfold valV at *
      rw[List.find?_cons,decide_eq_false ne]
      exact this
theorem form_at{K:PySem.W.Frag}:∀{l:List (Str×List Bool)} {kvs:List (Key×V)} {v:Str} {fs:List Bool},Paired (FormE K) l kvs→l.lookup v=some fs→∃t,valV kvs (Sum.inr v)=some (.ref t)∧∀H,SqT K H t (fs.map fun b=>V.str (fm b))
  | _,_,_,_,.nil,h=>by simp at h
  | (a,gs)::l,q::kvs,v,fs,.cons ⟨e,t,e2,k⟩ r,h=>by
    rw[List.lookup_cons] at h
    cases c:v==a with
    | true =>
      rw[c] at h
      cases h
      refine⟨t,?_,k⟩
      unfold valV
      rw[List.find?_cons,decide_eq_true (show q.1=Sum.inr v by rw[e,eq_of_beq c])]
      show some q.2=_
      rw[e2]
    | false =>
      rw[c] at h
      have ne:¬q.1=Sum.inr v:=fun z=>by
        rw[e] at z
        exact absurd (Sum.inr.inj z).symm (ne_of_beq_false c)
      obtain⟨t',q1,q2⟩:=form_at r h
      refine⟨t',?_,q2⟩
      unfold valV at *
      rw[List.find?_cons,decide_eq_false ne]
      exact q1
def ArgAt(H:Hp)(v:V)(a:Arg):Prop:=match a with
  | .n i=>v=.int i
  | .t i j=>∃t,v=.ref t∧H t=some (.tup (tv (i,j)))
theorem ArgAt.same{H H':Hp}(s:Same H H'){v:V}{a:Arg}(h:ArgAt H v a):ArgAt H' v a:=by
  cases a with
  | n i=>exact h
  | t i j=>obtain⟨t,e1,e2⟩:=h;exact⟨t,e1,s _ _ e2⟩
theorem ArgAt.put{H:Hp}{v:V}{a:Arg}{p:Addr}{ys zs:List V}(h:ArgAt H v a)(hp:H p=some (.lst ys)):ArgAt (upd H p (.lst zs)) v a:=by
  cases a with
  | n i=>exact h
  | t i j =>
    obtain⟨t,e1,e2⟩:=h
    exact⟨t,e1,by rw[upd_ne (ne_of e2 hp (by intro z;cases z))];exact e2⟩
theorem rdAll_snoc:∀(i:Nat){fs:List Bool}{ws:List Str}{as:List Arg}{f:Bool}{w:Str}{a:Arg},rdAll (fs.take i) (ws.take i)=some as→fs[i]?=some f→ws[i]?=some w→rdWord f w=some a→rdAll (fs.take (i+1)) (ws.take (i+1))=some (as++[a])
  | 0,f0::fs,w0::ws,as,f,w,a,h,h1,h2,h3=>by
    simp at h1 h2
    subst h1 h2
    simp[rdAll] at h ⊢
    subst h
    rw[h3];rfl
  | 0,[],_,_,_,_,_,_,h1,_,_=>by simp at h1
  | 0,_::_,[],_,_,_,_,_,_,h2,_=>by simp at h2
  | i+1,[],_,_,_,_,_,_,h1,_,_=>by simp at h1
  | i+1,_::_,[],_,_,_,_,_,_,h2,_=>by simp at h2
  | i+1,f0::fs,w0::ws,as,f,w,a,h,h1,h2,h3=>by
    simp at h1 h2
    rw[List.take_succ_cons,List.take_succ_cons] at h ⊢
    unfold rdAll at h ⊢
    cases e:rdWord f0 w0 with
    | none=>rw[e] at h;cases h
    | some b =>
      rw[e] at h
      cases e2:rdAll (fs.take i) (ws.take i) with
      | none=>rw[e2] at h;cases h
      | some bs =>
        rw[e2] at h
        cases h
        rw[rdAll_snoc i e2 h1 h2 h3]
        rfl
theorem has_no{l:List (Str×NameKind)}{cl:List (Str×Addr)}{y:Str}(h:l.all (fun p=>p.2 != .cell&&p.2 != .free)=true)(h2:l.lookup y=some .cell∨l.lookup y=some .free):∃z,cl.lookup y=some z:=by
  have key:∀k,l.lookup y=some k→(k != .cell&&k != .free)=true:=fun k e=>by
    have:=List.all_eq_true.mp h (y,k) (lookup_mem e)
    exact this
  rcases h2 with e|e
  · exact absurd (key _ e) (by decide)
  · exact absurd (key _ e) (by decide)
theorem comp_zip{K:PySem.W.Frag}{l1 l2 p:Addr}{xs zs:List V}{te:TE}{caps:List (Str×Nat)}{σ:L2.St}{H:Hp}{Q:Hp→Prop}(Pv:Nat→List V→Hp→Prop)(h0:Pv 0 [] (upd H p (.lst [])))(hlen:xs.length=zs.length)(hl:∀i ys H2,i≤xs.length→Pv i ys H2→SqT K H2 l1 xs∧SqL K H2 l2 zs∧H2 p=some (.lst ys))(hs:∀i x z ys H2 T (N:List V→Hp→Prop),xs[i]?=some x→zs[i]?=some z→Pv i ys H2→H2 T=none→(∀ys H,Pv (i+1) ys H→N ys H) →
      te (some x::some z::capv σ caps) (upd H2 T (.tup [x,z])) fun v H5=>H5 p=some (.lst ys)∧ys.length<sizeLine∧N (ys++[v]) (upd H5 p (.lst (ys++[v]))))(hd:∀ys H2,Pv xs.length ys H2→Q H2) :
    ∃W:Nat→Nat→List V→Hp→Prop,(∃m,W 0 m [] (upd H p (.lst [])))∧∀i m ys H2,W i m ys H2→H2 p=some (.lst ys) ∧
      (((Itz K l1 l2).stop i H2∧Q H2)∨((Itz K l1 l2).go i H2∧∀x H3,(Itz K l1 l2).yld i H2 x H3→∃a u v,x=.ref a∧SqT K H3 a [u,v] ∧
        te (some u::some v::capv σ caps) H3 fun v H5=>H5 p=some (.lst ys)∧ys.length<sizeLine∧∃m',m'<m∧W (i+1) m' (ys++[v]) (upd H5 p (.lst (ys++[v]))))):=by
  refine⟨fun i m ys H=>m=xs.length-i∧i≤xs.length∧Pv i ys H,⟨xs.length,by simp,Nat.zero_le _,h0⟩,?_⟩
  rintro i m ys H2 ⟨rfl,hi,pv⟩
  obtain⟨q1,q2,q3⟩:=hl i ys H2 hi pv
  refine⟨q3,?_⟩
  by_cases hlt:i<xs.length
  · obtain⟨x,hx⟩:=get_of_lt hlt
    obtain⟨z,hz⟩:=get_of_lt (xs:=zs) (j:=i) (by lia)
    refine .inr ⟨⟨xs,zs,x,z,q1,q2,hx,hz⟩,fun v H3 y=>?_⟩
    obtain⟨T,x',z',hT,rfl,rfl,y1,y2⟩:=y
    have ex:=y1 xs q1
    have ez:=y2 zs q2
    exact⟨T,x',z',rfl,SqT.of upd_same,hs i x' z' ys H2 T (fun zs H'=>∃m',m'<xs.length-i∧(m'=xs.length-(i+1)∧i+1≤xs.length∧Pv (i+1) zs H')) ex ez pv hT fun zs H' pz=>⟨_,by lia,rfl,hlt,pz⟩⟩
  · have e:i=xs.length:=by lia
    subst e
    exact .inl ⟨⟨xs,q1,ZG _⟩,hd ys H2 pv⟩
end FX
namespace K53
open PySem L2 FX
set_option linter.all false
section
variable {P:Program}{w:World}{K:PySem.W.Frag}{mg:Str→Option Value}{base:Heap}{NR FA:Addr}
inductive spReadWord(NR:Addr)(vs:List V)(H:Hp)(Q:VK)(E:XK):Prop
  | mk (b:Bool) (z:Str) (_:vs=[.str (fm b),.str z]) (_:z.length≤1000) (_:rdWord b z=none→∀H',Same H H'→E (.ref NR) none H') (_:∀a,rdWord b z=some a→∀v H',Same H H'→ArgAt H' v a→Q v H')
theorem scReadWord:FnScope ["form","word","parts"] ["form","word"] (defScope sReadWord):=⟨rfl,rfl,rfl,by decide +kernel,rfl,by decide +kernel,by decide +kernel⟩
theorem ok_readword{f f1:Addr}{fd d1:FuncData}(F:Fun K "read_word" "read_word" sReadWord f fd)(T:TxtR K mg NR)(M1:Gdf K mg "read_number" sReadNum ["word"] f1 d1):FnOk P w K mg base (CX1 P w) 2 f fd ["form","word"] (spReadWord NR):=by
  have G1:FnOk P w K mg base (CX1 P w) 1 f1 d1 ["word"] (spReadNum NR):=ok_readnum M1.fn T
  refine ok12 F scReadWord fun vs H Q E h=>?_
  obtain⟨b,z,rfl,hz,kE,kQ⟩:=h
  refine⟨rfl,fun cdv A outer s hr=>?_⟩
  refine⟨_,pss_cons (ps_if (pt_cmpR op_eq (pv 0) pe_str (nomark _)) (pss_one (ps_ret (pe_call G1 hr rfl M1.mg M1.fn.kp M1.bd .nil pass1 (pa_cons (pv 1) pa_nil)))) pss_nil)
    (pss_cons (ps_set (i:=2) scReadWord.nd rfl (Or.inl rfl) (pe_bm PySem.F.plainAttrs_str PySem.F.slot_str_split PySem.F.type_str_split mt_split (pv 1) (pa_cons pe_str pa_nil)))
    (pss_cons (ps_if (pt_cmpR op_ne (pe_callB call_len_seq (by rfl) T.len PySem.boot_len (pa_cons (pv 2) pa_nil)) pe_int (nomark _)) (pss_one (ps_raise rfl rfl T.cNR raises1)) pss_nil)
    (pss_one (ps_ret (pe_tup (pa_cons (pe_call G1 hr rfl M1.mg M1.fn.kp M1.bd .nil pass1 (pa_cons (pe_ix ix_list (pv 2) pe_int (fun _ _=>rfl)) pa_nil)) (pa_cons (pe_call G1 hr rfl M1.mg M1.fn.kp M1.bd .nil pass1 (pa_cons (pe_ix ix_list (pv 2) pe_int (fun _ _=>rfl)) pa_nil)) pa_nil))))))),?_⟩
  have hs0:sizeLine=16777216:=sizeLine_eq
  refine⟨_,rfl,rfl,_,rfl,?_⟩
  cases b with
  | true =>
    rw[decide_eq_true (show V.str (fm true)=V.str "number" from rfl)]
    refine iteT ⟨_,rfl,z,rfl,hz,fun e H' s1=>kE (by unfold rdWord;rw[if_pos rfl,e];rfl) H' s1,fun i e H' s1=>kQ (.n i) (by unfold rdWord;rw[if_pos rfl,e];rfl) _ H' s1 rfl⟩
  | false =>
    rw[decide_eq_false (show ¬V.str (fm false)=V.str "number" from fun q=>absurd (V.str.inj q) (by decide +kernel))]
    refine iteF ⟨_,rfl,rfl,_,_,rfl,rfl,rfl,by lia,fun l hl=>?_⟩
    have s1:=same_new (o:=.lst ((Txt.split z ".").map V.str)) hl
    refine⟨_,rfl,_,_,rfl,.inl (SqL.of upd_same),rfl,_,rfl,?_⟩
    have rdE:rdWord false z=rdThing z:=rfl
    rw[ZA,dec_int]
    have ps:∀y∈Txt.split z ".",y.length≤1000:=fun y hy=>Nat.le_trans (PyProof.Rows.part_short hy) hz
    unfold rdThing at rdE
    match e:Txt.split z ".",rdE,ps with
    | [],rdE,_=>exact iteT (kE (by rw[rdE]) _ (by rw[←e];exact s1))
    | [a],rdE,_=>exact iteT (kE (by rw[rdE]) _ (by rw[←e];exact s1))
    | a::b::c::r,rdE,_ =>
      have:(((a::b::c::r).length:Int)==2)=false:=by
        rw[beq_eq_false_iff_ne]
        simp only[List.length_cons]
        lia
      rw[this]
      exact iteT (kE (by rw[rdE]) _ (by rw[←e];exact s1))
    | [a,b],rdE,ps =>
      rw[e] at s1
      have rdE:rdWord false z=(rdNum a).bind fun i=>(rdNum b).map fun j=>Arg.t i j:=rdE
      refine iteF ?_
      refine⟨_,rfl,l,_,_,_,rfl,rfl,SqL.of upd_same,rfl,a,rfl,ps _ (by simp),fun e1 H' s2=>kE (by rw[rdE,e1];rfl) H' (same_trans s1 s2),fun i e1 H' s2=>?_⟩
      refine⟨_,rfl,l,_,_,_,rfl,rfl,SqL.of (s2 _ _ upd_same),rfl,b,rfl,ps _ (by simp),fun e2 H2 s3=>kE (by rw[rdE,e1,e2];rfl) H2 (same_trans s1 (same_trans s2 s3)),fun j e2 H2 s3=>⟨by show 2≤sizeLine;decide,fun t ht=>?_⟩⟩
      have s4:=same_new (o:=.tup [V.int i,V.int j]) ht
      exact kQ (.t i j) (by rw[rdE,e1,e2];rfl) _ _ (same_trans s1 (same_trans s2 (same_trans s3 s4))) ⟨t,rfl,upd_same⟩
inductive spReadWords(NR:Addr)(vs:List V)(H:Hp)(Q:VK)(E:XK):Prop
  | mk (v:Str) (l:Addr) (ws:List Str) (_:vs=[.str v,.ref l]) (_:H l=some (.lst (ws.map V.str))) (_:∀y∈ws,y.length≤1000) (_:rdWords v ws=none→∀H',Same H H'→E (.ref NR) none H') (_:∀as,rdWords v ws=some as→∀r xs H',Same H H'→H' r=some (.lst xs)→Paired (ArgAt H') xs as→Q (.ref r) H')
theorem scReadWords:FnScope ["verb","words","forms"] ["verb","words"] (defScope sReadWords):=⟨rfl,rfl,rfl,by decide +kernel,rfl,by decide +kernel,by decide +kernel⟩
structure FormsK(P:Program)(w:World)(K:PySem.W.Frag)(mg:Str→Option Value)(FA:Addr):Prop where
  mg:mg "FORMS"=some (.ref FA)
  at_:∃kvs,DicK P w K FA kvs∧Paired (FormE K) FT kvs
theorem ok_readwords{f f1 f2:Addr}{fd d1 d2:FuncData}(F:Fun K "read_words" "read_words" sReadWords f fd)(T:TxtR K mg NR)(D:FormsK P w K mg FA)(M1:Gdf K mg "read_number" sReadNum ["word"] f1 d1)(M2:Gdf K mg "read_word" sReadWord ["form","word"] f2 d2) :
    FnOk P w K mg base (CX1 P w) 3 f fd ["verb","words"] (spReadWords NR):=by
  have G2:FnOk P w K mg base (CX1 P w) 2 f2 d2 ["form","word"] (spReadWord NR):=ok_readword M2.fn T M1
  refine ok12 F scReadWords fun vs H Q E h=>?_
  obtain⟨v,l,ws,rfl,hl,hw,kE,kQ⟩:=h
  refine⟨rfl,fun cdv A outer s hr=>?_⟩
  have hu:=hu_of hr
  obtain⟨kvs,dk,pf⟩:=D.at_
  refine⟨_,pss_cons (ps_set (i:=2) scReadWords.nd rfl (Or.inl rfl) (pe_dgetK hu rfl D.mg dk (pv 0) ⟨rfl,rfl,rfl,rfl⟩))
    (pss_cons (ps_if (PW.pt (pw_or (pt_cmp (pc_isN (pv 2))) (pw_or1 (pt_cmpR op_ne (pe_callB call_len_seq (by rfl) T.len PySem.boot_len (pa_cons (pv 1) pa_nil)) (pe_callB call_len_seq (by rfl) T.len PySem.boot_len (pa_cons (pv 2) pa_nil)) (nomark _))))) (pss_one (ps_raise rfl rfl T.cNR raises1)) pss_nil)
    (pss_one (ps_ret (pe_comp2X (te:=tCall (spReadWord NR) [] E (tCons (tVar 0) (tCons (tVar 1) tNil))) (caps:=[]) (pi_zip rfl T.zip (pa_cons (pv 2) (pa_cons (pv 1) pa_nil)))
      rfl (by decide +kernel) rfl (by decide +kernel) rfl rfl trivial (fun y h=>has_no (by rfl) h) trivial (by decide +kernel)
      (fun _ _ _ _ _=>pe_call G2 hr rfl M2.mg M2.fn.kp M2.bd .nil passB (pa_cons (pv 0) (pa_cons (pv 1) pa_nil))))))),?_⟩
  refine⟨_,rfl,Sum.inr v,rfl,?_⟩
  cases e:FT.lookup v with
  | none =>
    rw[form_no pf e]
    exact⟨_,rfl,_,rfl,iteT (iteT (kE (by unfold rdWords;rw[e]) _ (Same.refl _)))⟩
  | some fs =>
    obtain⟨t,e1,sq⟩:=form_at pf e
    rw[e1]
    refine⟨_,rfl,_,rfl,iteF ⟨_,rfl,l,_,rfl,.inl (SqL.of hl),_,rfl,t,_,rfl,.inr (sq _),rfl,_,rfl,?_⟩⟩
    rw[ZA,ZA,dec_int]
    by_cases c:ws.length=fs.length
    · have:((ws.length:Int)==(fs.length:Int))=true:=by rw[c];simp
      rw[this]
      refine iteF ⟨_,rfl,_,rfl,t,l,_,_,rfl,sq _,SqL.of hl,fun p hp=>?_⟩
      have rd:rdWords v ws=rdAll fs ws:=by unfold rdWords;rw[e];exact if_pos c
      refine comp_zip (te:=tCall (spReadWord NR) [] E (tCons (tVar 0) (tCons (tVar 1) tNil))) (caps:=[]) (fun i ys H2=>Same H H2∧H2 p=some (.lst ys)∧∃as,rdAll (fs.take i) (ws.take i)=some as∧Paired (ArgAt H2) ys as∧ys.length=i) ⟨same_new hp,upd_same,[],rfl,.nil,rfl⟩ (by rw[ZA,ZA,c]) (fun i ys H2 _ h=>⟨sq _,SqL.of (h.1 _ _ hl),h.2.1⟩) ?_ ?_
      · rintro i x z ys H2 T0 N hx hz ⟨s1,hp1,as,ra,pa,yl⟩ hT hN
        rw[ZH] at hx hz
        obtain⟨f0,hf0,rfl⟩:=Option.map_eq_some_iff.mp hx
        obtain⟨w0,hw0,rfl⟩:=Option.map_eq_some_iff.mp hz
        have sT:=same_new (o:=.tup [V.str (fm f0),V.str w0]) hT
        refine⟨_,rfl,_,rfl,f0,w0,rfl,hw w0 (ZP hw0),fun e2 H' s2=>kE (by rw[rd];exact rdAll_bad i c.symm hf0 hw0 e2) H' (same_trans s1 (same_trans sT s2)),fun a e2 u H' s2 ha=>?_⟩
        have s3:=same_trans sT s2
        have hp3:=s3 _ _ hp1
        have zf:i<fs.length:=(ZJ hf0).1
        have zf3:fs.length≤3:=(ft_free e).2.2
        refine⟨hp3,small1000 (by lia),hN _ _ ⟨fun b o hb=>?_,upd_same,as++[a],rdAll_snoc i ra hf0 hw0 e2,paired_snoc (ha.put hp3) (paired_mono (fun _ _ h=>(h.same s3).put hp3) pa),by rw[ZE,yl];rfl⟩⟩
        rw[upd_ne (ne_of_none hb hp)]
        exact s3 _ _ (s1 _ _ hb)
      · rintro ys H2 ⟨s1,hp1,as,ra,pa,yl⟩
        rw[ZA] at ra
        rw[List.take_of_length_le (ZG _),List.take_of_length_le (by lia)] at ra
        exact kQ as (by rw[rd];exact ra) p ys H2 s1 hp1 pa
    · have:((ws.length:Int)==(fs.length:Int))=false:=by rw[beq_eq_false_iff_ne];lia
      rw[this]
      exact iteT (kE (by unfold rdWords;rw[e];exact if_neg c) _ (Same.refl _))
end
end K53
namespace FX
open PySem PySem.Spec PyProof.Rows L2
def iSeq(K:PySem.W.Frag)(tl:TE):TI:=fun σ H R=>tl σ H fun x H1=>∃a,x=.ref a∧(((∃xs,SqL K H1 a xs)∧R (Itl K a) H1)∨((∃xs,SqT K H1 a xs)∧R (Itt K a) H1))
theorem pi_seq{X:Cx}{tg l:Expr}{tl:TE}(hl:PE X l tl):PI X tg l (iSeq X.K tl):=by
  intro pins s σ H R I h
  refine thn (hl pins s σ H _ I h) ?_
  rintro v s1 ⟨x,H1,I1,r1,a,e,q⟩
  subst e
  cases r1
  have fp:∀b∈[s1.heap.objs.size],FpOk X pins H1 b:=fun b hb=>by
    have e:b=s1.heap.objs.size:=by simpa using hb
    subst e
    exact I1.fpOk (ZG _) I1.fresh
  rcases q with⟨⟨xs,hq⟩,q⟩|⟨⟨xs,hq⟩,q⟩
  · obtain⟨its,rv,p,hz⟩:=I1.list hq
    exact wpAny_pyIter_list p.isList ⟨_,_,_,_,H1,rfl,I1.kept (t':=s1.toks) fun b o e=>Heap.get?_push_of_some _ e,turn_list a _,⟨_,Heap.get?_push_size _ rfl,rfl,rfl⟩,fp,q⟩
  · obtain⟨its,rv,p,hz⟩:=I1.tuple hq
    exact wpAny_pyIter_tuple (show s1.heap.IsTuple a its.toArray from p) ⟨_,_,_,_,H1,rfl,I1.kept (t':=s1.toks) fun b o e=>Heap.get?_push_of_some _ e,turn_tuple a _,⟨_,Heap.get?_push_size _ rfl,rfl,rfl⟩,fp,q⟩
theorem comp_tupT{K:PySem.W.Frag}{a p:Addr}{xs:List V}{tt:TT}{te:TE}{caps:List (Str×Nat)}{σ:L2.St}{H:Hp}{Q:Hp→Prop}(Pv:Nat→List V→Hp→Prop)(h0:Pv 0 [] (upd H p (.lst [])))(hl:∀i ys H2,i≤xs.length→Pv i ys H2→SqT K H2 a xs∧H2 p=some (.lst ys))(hs:∀i x ys H2 (N:List V→Hp→Prop),xs[i]?=some x→Pv i ys H2→(∀ys H,Pv (i+1) ys H→N ys H)→tt (some x::capv σ caps) H2 fun b H4 =>
      if b=true then te (some x::capv σ caps) H4 fun v H5=>H5 p=some (.lst ys)∧ys.length<sizeLine∧N (ys++[v]) (upd H5 p (.lst (ys++[v]))) else N ys H4)(hd:∀ys H2,Pv xs.length ys H2→Q H2) :
    ∃W:Nat→Nat→List V→Hp→Prop,(∃m,W 0 m [] (upd H p (.lst [])))∧∀i m ys H2,W i m ys H2→H2 p=some (.lst ys) ∧
      (((Itt K a).stop i H2∧Q H2)∨((Itt K a).go i H2∧∀x H3,(Itt K a).yld i H2 x H3→tt (some x::capv σ caps) H3 fun b H4 =>
        if b=true then te (some x::capv σ caps) H4 fun v H5=>H5 p=some (.lst ys)∧ys.length<sizeLine∧∃m',m'<m∧W (i+1) m' (ys++[v]) (upd H5 p (.lst (ys++[v])))
        else ∃m',m'<m∧W (i+1) m' ys H4)):=by
  refine⟨fun i m ys H=>m=xs.length-i∧i≤xs.length∧Pv i ys H,⟨xs.length,by simp,Nat.zero_le _,h0⟩,?_⟩
  rintro i m ys H2 ⟨rfl,hi,pv⟩
  obtain⟨q1,q2⟩:=hl i ys H2 hi pv
  refine⟨q2,?_⟩
  by_cases hlt:i<xs.length
  · refine .inr ⟨⟨xs,xs[i],q1,by simp[hlt]⟩,fun x H3 y=>?_⟩
    obtain⟨e,y⟩:=y
    subst e
    exact hs i x ys _ (fun zs H'=>∃m',m'<xs.length-i∧(m'=xs.length-(i+1)∧i+1≤xs.length∧Pv (i+1) zs H')) (y xs q1) pv fun zs H' pz=>⟨_,by lia,rfl,hlt,pz⟩
  · have e:i=xs.length:=by lia
    subst e
    exact .inl ⟨⟨xs,q1,ZG _⟩,hd ys H2 pv⟩
def wrI(i:Int):Str:=(toString i:String)
def wrThing(t:T2):Str:=Str.join "." [wrI t.1,wrI t.2]
def wrList(ws:List Str):Str:=if ws=[] then "none" else Str.join " " ws
def ThK(K:PySem.W.Frag)(H:Hp)(v:V)(t:T2):Prop:=∃a,v=.ref a∧SqT K H a [.int t.1,.int t.2]
theorem sqt_same{K:PySem.W.Frag}{H H':Hp}(s:Same H H'){a:Addr}{xs:List V}(h:SqT K H a xs):SqT K H' a xs:=(KeepT.of_same s).sq h
theorem ThK.same{K:PySem.W.Frag}{H H':Hp}(s:Same H H')(h:ThK K H v t):ThK K H' v t:=let⟨a,e,q⟩:=h;⟨a,e,sqt_same s q⟩
theorem wrI_len(i:Int)(h:i.natAbs≤1000):(wrI i).length≤1002:=by
  have:=len_str_of_int i
  unfold wrI
  lia
theorem log_small{i:Int}(h:i.natAbs≤1000):i.natAbs.log2<1920:=by
  have:i.natAbs.log2≤i.natAbs:=Nat.log2_le_self _
  lia
end FX
namespace K53
open PySem L2 FX
set_option linter.all false
section
variable {P:Program}{w:World}{K:PySem.W.Frag}{mg:Str→Option Value}{base:Heap}{NR FA:Addr}
inductive spWrThing(K:PySem.W.Frag)(vs:List V)(H:Hp)(Q:VK)(E:XK):Prop
  | mk (a:Addr) (t:T2) (_:vs=[.ref a]) (_:SqT K H a [.int t.1,.int t.2]) (_:t.1.natAbs≤1000) (_:t.2.natAbs≤1000) (_:∀H',Same H H'→Q (.str (wrThing t)) H')
theorem scWrThing:FnScope ["thing"] ["thing"] (defScope sWrThing):=⟨rfl,rfl,rfl,by decide +kernel,rfl,by decide +kernel,by decide +kernel⟩
def teStr:TE:=tCB (fun xs H Q=>Rcall_str_int xs H Q∨Rcall_str_str xs H Q) (tCons (tVar 0) tNil)
theorem ok_wrthing{f:Addr}{fd:FuncData}(F:Fun K "written_thing" "written_thing" sWrThing f fd)(T:TxtR K mg NR):FnOk P w K mg base CX0 1 f fd ["thing"] (spWrThing K):=by
  refine F.ok2 scWrThing fun vs H Q E h=>?_
  obtain⟨a,t,rfl,ha,z1,z2,k⟩:=h
  refine⟨rfl,fun cdv A outer s hr=>?_⟩
  refine⟨_,pss_one (ps_ret (pe_bm PySem.F.plainAttrs_str PySem.F.slot_str_join PySem.F.type_str_join mt_join pe_str (pa_cons (pe_comp (te:=teStr) (caps:=[]) rfl (pi_tup (pv 0))
      rfl (by decide +kernel) rfl (by decide +kernel) rfl trivial (fun y h=>has_no (by rfl) h) trivial (by decide +kernel) (fun _ _ _ _ _=>pts_nil) (fun _ _ _ _ _=>pe_callTy (call_str_int.or call_str_str) (by rfl) T.str PyProof.Rows.boot_str (pa_cons (pv 0) pa_nil))) pa_nil))),?_⟩
  refine⟨rfl,_,rfl,a,rfl,⟨_,ha⟩,fun p hp=>?_⟩
  have hs0:sizeLine=16777216:=sizeLine_eq
  refine comp_tupT (tt:=fun _ H Q=>Q true H) (te:=teStr) (caps:=[]) (fun i ys H2=>H2=upd H p (.lst ys)∧ys=(([t.1,t.2]:List Int).take i).map fun j=>V.str (wrI j)) ⟨rfl,rfl⟩ (fun i ys H2 _ h=>by rw[h.1];exact⟨sqt_same (same_new hp) ha,upd_same⟩) ?_ ?_
  · rintro i x ys H2 N hx ⟨rfl,rfl⟩ hN
    refine iteT ?_
    have key:∀j:Int,x=V.int j→j.natAbs≤1000→(([t.1,t.2]:List Int).take (i+1)).map (fun j=>V.str (wrI j))=(([t.1,t.2]:List Int).take i).map (fun j=>V.str (wrI j))++[V.str (wrI j)] →
        teStr [some x] (upd H p (.lst ((([t.1,t.2]:List Int).take i).map fun j=>V.str (wrI j)))) fun v H5=>H5 p=some (.lst ((([t.1,t.2]:List Int).take i).map fun j=>V.str (wrI j)))∧((([t.1,t.2]:List Int).take i).map fun j=>V.str (wrI j)).length<sizeLine∧N ((([t.1,t.2]:List Int).take i).map (fun j=>V.str (wrI j))++[v]) (upd H5 p (.lst ((([t.1,t.2]:List Int).take i).map (fun j=>V.str (wrI j))++[v]))):=fun j e z e2=>by
      subst e
      refine⟨_,rfl,.inl ⟨j,rfl,log_small z,upd_same,?_,?_⟩⟩
      · rw[ZA,List.length_take]
        simp only[List.length_cons,List.length_nil]
        lia
      · rw[upd_upd]
        refine hN _ _ ⟨rfl,?_⟩
        rw[e2];rfl
    match i,hx with
    | 0,hx=>exact key t.1 (by simpa using hx.symm) z1 rfl
    | 1,hx=>exact key t.2 (by simpa using hx.symm) z2 rfl
    | i+2,hx=>simp at hx
  · rintro ys H2 ⟨rfl,rfl⟩
    have l1:=wrI_len t.1 z1
    have l2:=wrI_len t.2 z2
    refine⟨"." ,p,[wrI t.1,wrI t.2],rfl,rfl,SqL.of upd_same,?_,k _ (same_new hp)⟩
    have:Str.length "."=1:=rfl
    simp only[List.map_cons,List.map_nil,List.sum_cons,List.sum_nil,List.length_cons,List.length_nil,this]
    lia
end
end K53
namespace FX
open PySem PySem.Spec PyProof.Rows L2
def wrLet(n:Int)(k:Str)(h g:Int):Str:=Str.join ":" [wrI n,k,wrI h,wrI g]
end FX
namespace K53
open PySem L2 FX
set_option linter.all false
section
variable {P:Program}{w:World}{K:PySem.W.Frag}{mg:Str→Option Value}{base:Heap}{NR FA:Addr}
inductive spWrLetter(K:PySem.W.Frag)(vs:List V)(H:Hp)(Q:VK)(E:XK):Prop
  | mk (a:Addr) (n h g:Int) (kd:Str) (x:V) (_:vs=[.ref a]) (_:SqT K H a [.int n,.str kd,.int h,.int g,x]) (_:n.natAbs≤1000) (_:h.natAbs≤1000) (_:g.natAbs≤1000) (_:kd.length≤1000) (_:∀H',Same H H'→Q (.str (wrLet n kd h g)) H')
theorem scWrLetter:FnScope ["letter"] ["letter"] (defScope sWrLetter):=⟨rfl,rfl,rfl,by decide +kernel,rfl,by decide +kernel,by decide +kernel⟩
theorem ok_wrletter{f:Addr}{fd:FuncData}(F:Fun K "written_letter" "written_letter" sWrLetter f fd)(T:TxtR K mg NR):FnOk P w K mg base CX0 1 f fd ["letter"] (spWrLetter K):=by
  refine F.ok2 scWrLetter fun vs H Q E h=>?_
  obtain⟨a,n,h,g,kd,x,rfl,ha,z1,z2,z3,z4,k⟩:=h
  refine⟨rfl,fun cdv A outer s hr=>?_⟩
  refine⟨_,pss_one (ps_ret (pe_bm PySem.F.plainAttrs_str PySem.F.slot_str_join PySem.F.type_str_join mt_join pe_str (pa_cons (pe_comp (te:=teStr) (caps:=[]) rfl (pi_tup (pe_slice sl_tup (pv 0) po_none (po_some pe_int)))
      rfl (by decide +kernel) rfl (by decide +kernel) rfl trivial (fun y h=>has_no (by rfl) h) trivial (by decide +kernel) (fun _ _ _ _ _=>pts_nil) (fun _ _ _ _ _=>pe_callTy (call_str_int.or call_str_str) (by rfl) T.str PyProof.Rows.boot_str (pa_cons (pv 0) pa_nil))) pa_nil))),?_⟩
  have hs0:sizeLine=16777216:=sizeLine_eq
  refine⟨rfl,_,rfl,_,rfl,a,_,rfl,ha,(by show ¬(HT.sIx 5 0 none=0∧HT.sIx 5 5 (some 4)=5);decide),fun q hq=>⟨q,rfl,⟨_,SqT.of upd_same⟩,fun p hp=>?_⟩⟩
  have s1:=same_new (o:=.tup [V.int n,V.str kd,V.int h,V.int g]) hq
  have hq1:(upd H q (.tup [V.int n,V.str kd,V.int h,V.int g])) q=some (.tup [V.int n,V.str kd,V.int h,V.int g]):=upd_same
  show ∃W:Nat→Nat→List V→Hp→Prop,(∃m,W 0 m [] (upd (upd H q (.tup [V.int n,V.str kd,V.int h,V.int g])) p (.lst [])))∧_
  have hp:(upd H q (.tup [V.int n,V.str kd,V.int h,V.int g])) p=none:=hp
  generalize upd H q (.tup [V.int n,V.str kd,V.int h,V.int g])=H1 at s1 hq1 hp
  refine comp_tupT (xs:=[V.int n,V.str kd,V.int h,V.int g]) (tt:=fun _ H Q=>Q true H) (te:=teStr) (caps:=[]) (fun i ys H2=>H2=upd H1 p (.lst ys)∧ys=([wrI n,kd,wrI h,wrI g].take i).map V.str) ⟨rfl,rfl⟩ (fun i ys H2 _ h=>by rw[h.1];exact⟨SqT.of (same_new hp _ _ hq1),upd_same⟩) ?_ ?_
  · rintro i x ys H2 N hx ⟨rfl,rfl⟩ hN
    refine iteT ?_
    have nx:∀z:Str,([wrI n,kd,wrI h,wrI g].take (i+1)).map V.str=([wrI n,kd,wrI h,wrI g].take i).map V.str++[V.str z]→(upd H1 p (.lst (([wrI n,kd,wrI h,wrI g].take i).map V.str))) p=some (.lst (([wrI n,kd,wrI h,wrI g].take i).map V.str))∧(([wrI n,kd,wrI h,wrI g].take i).map V.str).length<sizeLine∧N (([wrI n,kd,wrI h,wrI g].take i).map V.str++[V.str z]) (upd (upd H1 p (.lst (([wrI n,kd,wrI h,wrI g].take i).map V.str))) p (.lst (([wrI n,kd,wrI h,wrI g].take i).map V.str++[V.str z]))):=fun z e=>by
      refine⟨upd_same,?_,?_⟩
      · rw[ZA,List.length_take]
        simp only[List.length_cons,List.length_nil]
        lia
      · rw[upd_upd]
        refine hN _ _ ⟨rfl,?_⟩
        rw[e]
    match i,hx,nx with
    | 0,hx,nx=>cases hx;exact⟨_,rfl,.inl ⟨n,rfl,log_small z1,nx _ rfl⟩⟩
    | 1,hx,nx=>cases hx;exact⟨_,rfl,.inr ⟨kd,rfl,nx _ rfl⟩⟩
    | 2,hx,nx=>cases hx;exact⟨_,rfl,.inl ⟨h,rfl,log_small z2,nx _ rfl⟩⟩
    | 3,hx,nx=>cases hx;exact⟨_,rfl,.inl ⟨g,rfl,log_small z3,nx _ rfl⟩⟩
    | i+4,hx,_=>simp at hx
  · rintro ys H2 ⟨rfl,rfl⟩
    have l1:=wrI_len n z1
    have l2:=wrI_len h z2
    have l3:=wrI_len g z3
    refine⟨":" ,p,[wrI n,kd,wrI h,wrI g],rfl,rfl,SqL.of upd_same,?_,k _ (same_trans s1 (same_new hp))⟩
    have:Str.length ":"=1:=rfl
    simp only[List.map_cons,List.map_nil,List.sum_cons,List.sum_nil,List.length_cons,List.length_nil,this]
    lia
inductive spListed(vs:List V)(H:Hp)(Q:VK)(E:XK):Prop
  | mk (l:Addr) (ws:List Str) (_:vs=[.ref l]) (_:H l=some (.lst (ws.map V.str))) (_:ws.length≤1000) (_:∀y∈ws,y.length≤10000) (_:Q (.str (wrList ws)) H)
theorem scListed:FnScope ["words"] ["words"] (defScope sListed):=⟨rfl,rfl,rfl,by decide +kernel,rfl,by decide +kernel,by decide +kernel⟩
theorem ok_listed{f:Addr}{fd:FuncData}(F:Fun K "listed" "listed" sListed f fd):FnOk P w K mg base CX0 1 f fd ["words"] spListed:=by
  refine F.ok2 scListed fun vs H Q E h=>?_
  obtain⟨l,ws,rfl,hl,z1,z2,k⟩:=h
  refine⟨rfl,fun cdv A outer s hr=>?_⟩
  refine⟨_,pss_one (ps_ret (pe_ifExp (pt_truth (pv 0) (by intro _;rfl)) (pe_bm PySem.F.plainAttrs_str PySem.F.slot_str_join PySem.F.type_str_join mt_join pe_str (pa_cons (pv 0) pa_nil)) pe_str)),?_⟩
  refine⟨_,rfl,!(ws.map V.str).isEmpty,.inl ⟨_,SqL.of hl,rfl⟩,?_⟩
  cases ws with
  | nil=>exact iteF k
  | cons w r =>
    refine iteT ⟨rfl,_,rfl," ",l,w::r,rfl,rfl,SqL.of hl,?_,k⟩
    have e:=PySem.StrLaws.sumLen_le (B:=10000) (w::r) z2
    have:Str.length " "=1:=rfl
    rw[this]
    have:((w::r).length*10000)≤1000*10000:=Nat.mul_le_mul_right _ z1
    lia
inductive spListedT(K:PySem.W.Frag)(vs:List V)(H:Hp)(Q:VK)(E:XK):Prop
  | mk (a:Addr) (xs:List V) (ts:List T2) (_:vs=[.ref a]) (_:SqL K H a xs∨SqT K H a xs) (_:Paired (ThK K H) xs ts) (_:ts.length≤1000) (_:∀t∈ts,t.1.natAbs≤1000∧t.2.natAbs≤1000) (_:∀H',Same H H'→Q (.str (wrList (ts.map wrThing))) H')
theorem scListedT:FnScope ["things"] ["things"] (defScope sListedT):=⟨rfl,rfl,rfl,by decide +kernel,rfl,by decide +kernel,by decide +kernel⟩
theorem wrThing_len{t:T2}(h1:t.1.natAbs≤1000)(h2:t.2.natAbs≤1000):(wrThing t).length≤10000:=by
  have l1:=wrI_len t.1 h1
  have l2:=wrI_len t.2 h2
  unfold wrThing
  have:=PySem.StrLaws.join_length_le "." [wrI t.1,wrI t.2]
  have q:Str.length "."=1:=rfl
  simp only[List.map_cons,List.map_nil,List.sum_cons,List.sum_nil,List.length_cons,List.length_nil,q] at this
  lia
theorem ok_listedT{f f1 f2:Addr}{fd d1 d2:FuncData}(F:Fun K "listed_things" "listed_things" sListedT f fd)(T:TxtR K mg NR)(M1:Gdf K mg "written_thing" sWrThing ["thing"] f1 d1)(M2:Gdf K mg "listed" sListed ["words"] f2 d2):FnOk P w K mg base CX0 2 f fd ["things"] (spListedT K):=by
  have G1:FnOk P w K mg base CX0 1 f1 d1 ["thing"] (spWrThing K):=ok_wrthing M1.fn T
  have G2:FnOk P w K mg base CX0 1 f2 d2 ["words"] spListed:=ok_listed M2.fn
  refine F.ok2 scListedT fun vs H Q E h=>?_
  obtain⟨a,xs,ts,rfl,ha,pt,z1,z2,k⟩:=h
  refine⟨rfl,fun cdv A outer s hr=>?_⟩
  refine⟨_,pss_one (ps_ret (pe_call G2 hr rfl M2.mg M2.fn.kp M2.bd .nil pass0 (pa_cons (pe_comp (te:=tCall (spWrThing K) [] E0 (tCons (tVar 0) tNil)) (caps:=[]) rfl (pi_seq (pv 0))
      rfl (by decide +kernel) rfl (by decide +kernel) rfl trivial (fun y h=>has_no (by rfl) h) trivial (by decide +kernel) (fun _ _ _ _ _=>pts_nil) (fun _ _ _ _ _=>pe_call G1 hr rfl M1.mg M1.fn.kp M1.bd .nil pass0 (pa_cons (pv 0) pa_nil))) pa_nil))),?_⟩
  have hl:=Paired.length pt
  have hs0:sizeLine=16777216:=sizeLine_eq
  have step:∀(p:Addr),H p=none→∀i x ys (H2:Hp) (N:List V→Hp→Prop),xs[i]?=some x→(Same H H2∧H2 p=some (.lst ys)∧ys=((ts.take i).map wrThing).map V.str)→(∀ys H2,(Same H H2∧H2 p=some (.lst ys)∧ys=((ts.take (i+1)).map wrThing).map V.str)→N ys H2) →
      tCall (spWrThing K) [] E0 (tCons (tVar 0) tNil) [some x] H2 fun v H5=>H5 p=some (.lst ys)∧ys.length<sizeLine∧N (ys++[v]) (upd H5 p (.lst (ys++[v]))):=by
    rintro p hp i x ys H2 N hx ⟨s1,hp1,rfl⟩ hN
    obtain⟨z,_⟩:=ZJ hx
    obtain⟨t,ht⟩:=get_of_lt (xs:=ts) (j:=i) (by lia)
    obtain⟨b,rfl,sb⟩:=paired_get pt i x t hx ht
    obtain⟨y1,y2⟩:=z2 t (ZP ht)
    refine⟨_,rfl,b,t,rfl,sqt_same s1 sb,y1,y2,fun H' s2=>⟨s2 _ _ hp1,?_,hN _ _ ⟨fun c o e=>?_,upd_same,?_⟩⟩⟩
    · rw[ZA,ZA,List.length_take]
      lia
    · rw[upd_ne (ne_of_none e hp)]
      exact s2 _ _ (s1 _ _ e)
    · rw[List.take_add_one,ht]
      simp
  have fin:∀(p:Addr) ys (H2:Hp),(Same H H2∧H2 p=some (.lst ys)∧ys=((ts.take xs.length).map wrThing).map V.str)→spListed [V.ref p] H2 Q E0:=by
    rintro p ys H2 ⟨s1,hp1,rfl⟩
    rw[List.take_of_length_le (by lia)] at hp1
    refine⟨p,ts.map wrThing,rfl,hp1,by rw[ZA];exact z1,fun y hy=>?_,k _ s1⟩
    obtain⟨t,ht,rfl⟩:=ZN hy
    exact wrThing_len (z2 t ht).1 (z2 t ht).2
  refine⟨_,rfl,a,rfl,?_⟩
  rcases ha with ha|ha
  · refine .inl ⟨⟨_,ha⟩,fun p hp=>?_⟩
    exact comp_list (tt:=fun _ H Q=>Q true H) (te:=tCall (spWrThing K) [] E0 (tCons (tVar 0) tNil)) (caps:=[]) (fun i ys H2=>Same H H2∧H2 p=some (.lst ys)∧ys=((ts.take i).map wrThing).map V.str) ⟨same_new hp,upd_same,rfl⟩ (fun i ys H2 _ h=>⟨h.1.seq ha,h.2.1⟩) (fun i x ys H2 N hx h hN=>iteT (step p hp i x ys H2 N hx h hN)) (fun ys H2 h=>fin p ys H2 h)
  · refine .inr ⟨⟨_,ha⟩,fun p hp=>?_⟩
    exact comp_tupT (tt:=fun _ H Q=>Q true H) (te:=tCall (spWrThing K) [] E0 (tCons (tVar 0) tNil)) (caps:=[]) (fun i ys H2=>Same H H2∧H2 p=some (.lst ys)∧ys=((ts.take i).map wrThing).map V.str) ⟨same_new hp,upd_same,rfl⟩ (fun i ys H2 _ h=>⟨sqt_same h.1 ha,h.2.1⟩) (fun i x ys H2 N hx h hN=>iteT (step p hp i x ys H2 N hx h hN)) (fun ys H2 h=>fin p ys H2 h)
end
end K53
namespace FX
open PySem PySem.Spec PyProof.Rows L2
theorem PS.nox{X:Cx}{st:Stmt}{t:TS}(h:PS X.nox st t):PS X st t:=fun pins s σ H D I hw=>wpAny_mono (h pins s σ H D (I.wish _) hw) (fun _ _ z=>z.unwish) fun _ _ z=>z.elim
theorem passN{P:Program}{w:World}{X:Cx}:Passes (CX1 P w) X E0:=by
  rintro pins σ H s e s' I ⟨ex,cls,H',_,_,hE,_⟩
  exact hE.elim
theorem RepT.inv{K:PySem.W.Frag}{H:Hp}{v:V}{ds:List PyData}(h:RepT K H v (.tuple ds)):∃a xs,v=.ref a∧SqT K H a xs∧Paired (RepT K H) xs ds:=by
  cases h with
  | tup s l r=>exact⟨_,_,rfl,s,paired_of l r⟩
theorem RepT.th{K:PySem.W.Frag}{H:Hp}{v:V}{t:T2}(h:RepT K H v (thD t)):ThK K H v t:=by
  obtain⟨a,xs,rfl,s,p⟩:=RepT.inv h
  cases p with
  | cons r1 p=>cases p with
    | cons r2 p=>cases p;cases r1;cases r2;exact⟨a,rfl,s⟩
theorem reps_th{K:PySem.W.Frag}{H:Hp}:∀{xs:List V} {ts:List T2},Paired (RepT K H) xs (ts.map thD)→Paired (ThK K H) xs ts
  | _,[],.nil=>.nil
  | _,_::_,.cons r p=>.cons r.th (reps_th p)
theorem rep_st{K:PySem.W.Frag}{H:Hp}{v:V}{hs:List T2}{os:List (T2×Int×List T2)}{rs:List (T2×Int)}(h:RepT K H v (stD hs os rs)):∃b x1 x2 x3,v=.ref b∧SqT K H b [x1,x2,x3]∧RepT K H x1 (.tuple (hs.map thD))∧RepT K H x2 (.tuple (os.map rowD))∧RepT K H x3 (.tuple (rs.map recD)):=by
  obtain⟨b,xs,rfl,sb,pb⟩:=RepT.inv h
  cases pb with|cons z1 pb=>cases pb with|cons z2 pb=>cases pb with|cons z3 pb=>cases pb;exact⟨b,_,_,_,rfl,sb,z1,z2,z3⟩
theorem thD_eqv(t u:T2):PyData.eqv (thD t) (thD u)=decide (t=u):=by
  obtain⟨a,b⟩:=t
  obtain⟨c,d⟩:=u
  unfold thD
  simp only[PyData.eqv,PyData.eqvAll,Prod.mk.injEq]
  by_cases h1:a=c<;>by_cases h2:b=d<;>simp[h1,h2,PyData.eqv]
theorem WorldAt.ne_desk{CW CH CP CD pw p dx:Addr}{H:Hp}{W:WGh}{v:V}(x:WorldAt CW CH CP H pw W)(hp:H p=some (.ins CD dx [("world",v)])):p∉wfoot pw W:=fun hb=>by
  rcases ZI hb with hb|hb
  · simp only[wtop,List.mem_cons,List.not_mem_nil,or_false] at hb
    rcases hb with rfl|rfl|rfl|rfl|rfl|rfl|rfl
    · obtain⟨dx,e⟩:=x.ob
      rw[hp] at e;cases e
    · have e:=x.hs;rw[hp] at e;cases e
    · obtain⟨dx,e⟩:=x.po.ob
      rw[hp,pflds_eq] at e;cases e
    · have e:=x.po.dc;rw[hp] at e;cases e
    · have e:=x.iq;rw[hp] at e;cases e
    · have e:=x.fi;rw[hp] at e;cases e
    · have e:=x.en;rw[hp] at e;cases e
  · obtain⟨q,hq,hb⟩:=mem_hfoot.mp hb
    rcases hb with rfl|hb
    · obtain⟨dx,e⟩:=(x.ho q hq).ob
      rw[hp] at e;cases e
    · obtain⟨kvs,e⟩:=(x.ho q hq).foot_dT hb
      rw[hp] at e;cases e
end FX
namespace K53
open PySem L2 FX
set_option linter.all false
structure TxtK(K:PySem.W.Frag)(mg:Str→Option Value)(CD:Addr):Prop where
  cl:Cls K CD
  nW:NoAttr K CD "world"
  mgC:mg "Desk"=some (.ref CD)
structure DeskAt(CD CW C CP:Addr)(H:Hp)(p pw:Addr)(W:WGh):Prop where
  ob:∃dx,H p=some (.ins CD dx [("world",.ref pw)])
  wo:WorldAt CW C CP H pw W
section
variable {P:Program}{w:World}{K:PySem.W.Frag}{mg:Str→Option Value}{base:Heap}{NR FA CD CW C CP CI NH NI NL NHd NNr MI NW:Addr}
theorem DeskAt.ne{H:Hp}{p pw:Addr}{W:WGh}(x:DeskAt CD CW C CP H p pw W):p∉wfoot pw W:=let⟨_,e⟩:=x.ob;x.wo.ne_desk e
theorem DeskAt.same{H H':Hp}{p pw:Addr}{W:WGh}(x:DeskAt CD CW C CP H p pw W)(s:Same H H'):DeskAt CD CW C CP H' p pw W:=⟨let⟨dx,e⟩:=x.ob;⟨dx,s _ _ e⟩,x.wo.same s⟩
theorem DeskAt.then{H H':Hp}{p pw:Addr}{W W':WGh}(x:DeskAt CD CW C CP H p pw W)(f:WFr pw W H H')(y:WorldAt CW C CP H' pw W'):DeskAt CD CW C CP H' p pw W':=⟨let⟨dx,e⟩:=x.ob;⟨dx,f _ _ e x.ne⟩,y⟩
theorem df_world{v:V}:([("world",v)]:List (Str×V)).lookup ("world":Str)=some v:=rfl
inductive spDInit(CD CW C CP:Addr)(vs:List V)(H:Hp)(Q:VK)(E:XK):Prop
  | mk (p dx:Addr) (m sh:Int) (_:vs=[.ref p,.int m,.int sh]) (_:H p=some (.ins CD dx [])) (_:0≤m) (_:m≤12) (_:∀(pw:Addr)(W:WGh)(H':Hp),DeskAt CD CW C CP H' p pw W→W.share=sh→W.c=0→W.ls=[]→W.iqs=[]→W.fis=[]→W.qs.length=m.toNat→(∀i q G,W.qs[i]?=some (q,G)→Empty G i)→(∀b u,H b=some u→b≠p→H' b=some u)→Q .non H')
theorem scDInit:FnScope ["self","many","share"] ["self","many","share"] (defScope sDInit):=⟨rfl,rfl,rfl,by decide +kernel,rfl,by decide +kernel,by decide +kernel⟩
theorem ok_dinit{f f1:Addr}{fd d1:FuncData}(F:Fun K "__init__" "Desk.__init__" sDInit f fd)(TK:TxtK K mg CD)(TW:TxtW K mg CW NH NI)(Mm:Mk K CW f1)(b1:Binds K d1 ["self","many","share"] [])(G1:FnOk P w K mg base CX0 3 f1 d1 ["self","many","share"] (spWInit CW C CP)):FnOk P w K mg base CX0 5 f fd ["self","many","share"] (spDInit CD CW C CP):=by
  refine F.ok2 scDInit fun vs H Q E h=>?_
  obtain⟨p,dx,m,sh,rfl,hp,m0,m1,k⟩:=h
  refine⟨rfl,fun cdv A outer s hr=>?_⟩
  refine⟨_,pss_one (ps_fld (pv 0) (pe_make Mm G1 (hr.mono (by decide)) (by rfl) TW.mgC b1 .nil pass0 (pa_cons (pv 1) (pa_cons (pv 2) pa_nil))) rfl),?_⟩
  refine⟨_,rfl,_,rfl,fun x dxx nx ndx nex=>⟨x,dxx,m,sh,rfl,upd_same,m0,m1,fun W H' S e1 e2 e3 e4 e5 _ e6 e7 kp=>⟨rfl,?_⟩⟩⟩
  have k0:∀b u,H b=some u→H' b=some u:=fun b u e=>kp b u (by rw[upd_ne (ne_of_none e nx),upd_ne (ne_of_none e ndx)];exact e) (ne_of_none e nx)
  have hp':=k0 _ _ hp
  have pn:p∉wfoot x W:=fun hb=>by
    rcases ZI hb with hb|hb
    · simp only[wtop,List.mem_cons,List.not_mem_nil,or_false] at hb
      rcases hb with rfl|rfl|rfl|rfl|rfl|rfl|rfl
      · exact ne_of_none hp nx rfl
      · have e:=S.hs;rw[hp'] at e;cases e
      · obtain⟨dx,e⟩:=S.po.ob
        rw[hp',pflds_eq] at e;cases e
      · have e:=S.po.dc;rw[hp'] at e;cases e
      · have e:=S.iq;rw[hp'] at e;cases e
      · have e:=S.fi;rw[hp'] at e;cases e
      · have e:=S.en;rw[hp'] at e;cases e
    · obtain⟨q,hq,hb⟩:=mem_hfoot.mp hb
      rcases hb with rfl|hb
      · obtain⟨dx,e⟩:=(S.ho q hq).ob
        rw[hp'] at e;cases e
      · obtain⟨kvs,e⟩:=(S.ho q hq).foot_dT hb
        rw[hp'] at e;cases e
  refine⟨_,rfl,p,CD,dx,[],rfl,hp',TK.cl,TK.nW,(by show 0<1000;decide),?_⟩
  refine k x W _ ⟨⟨dx,upd_same⟩,S.keep fun b o hb e=>?_⟩ e1 e2 e3 e4 e5 e6 e7 fun b u e hb=>?_
  · rw[upd_ne (fun z=>pn (by rw[←z];exact hb))];exact e
  · rw[upd_ne hb];exact k0 b u e
theorem wstate_mono{vs:List V}{H:Hp}{Q Q':VK}{E:XK}(h:spWState CW C CP NH K vs H Q E)(m:∀v H',Q v H'→Q' v H'):spWState CW C CP NH K vs H Q' E:=by
  obtain⟨p,h,W,e,S,k⟩:=h
  refine⟨p,h,W,e,S,k.imp id ?_⟩
  rintro⟨q,G,i,p',G',hs,os,rs,e1,e2,e3,e4,e5,e6,e7,e8,e9,e10,k⟩
  exact⟨q,G,i,p',G',hs,os,rs,e1,e2,e3,e4,e5,e6,e7,e8,e9,e10,fun x H' s t r=>m _ _ (k x H' s t r)⟩
inductive spHeldBy(CD CW C CP NH MI:Addr)(K:PySem.W.Frag)(vs:List V)(H:Hp)(Q:VK)(E:XK):Prop
  | mk (p pw a:Addr) (W:WGh) (ta:T2) (_:vs=[.ref p,.ref a]) (_:DeskAt CD CW C CP H p pw W) (_:H a=some (.tup (tv ta)))
    (_:spWState CW C CP NH K [.ref pw,.int ta.1] H (fun v H'=>∃hs os rs,Same H H'∧RepT K H' v (stD hs os rs)∧(∀r∈os,r.1=ta→∀x xs,SqT K H' x xs→Paired (ThK K H') xs r.2.2→Q (.ref x) H')∧((∀r∈os,r.1≠ta)→E (.ref MI) none H')) E0)
theorem scHeldBy:FnScope ["self","a","thing","out","held"] ["self","a"] (defScope sHeldBy):=⟨rfl,rfl,rfl,by decide +kernel,rfl,by decide +kernel,by decide +kernel⟩
theorem ok_heldby{f f1:Addr}{fd d1:FuncData}(F:Fun K "held_by" "Desk.held_by" sHeldBy f fd)(T:Txt K mg C NHd NNr MI NW)(TK:TxtK K mg CD)(TW:TxtW K mg CW NH NI)(M1:Mth K CW "state" "World.state" sWState ["self","h"] f1 d1)(G1:FnOk P w K mg base (CX1 P w) 3 f1 d1 ["self","h"] (spWState CW C CP NH K)):FnOk P w K mg base (CX1 P w) 4 f fd ["self","a"] (spHeldBy CD CW C CP NH MI K):=by
  refine ok12 F scHeldBy fun vs H Q E h=>?_
  obtain⟨p,pw,a,W,ta,rfl,S,ha,k⟩:=h
  refine⟨rfl,fun cdv A outer s hr=>?_⟩
  obtain⟨dx,hp⟩:=S.ob
  obtain⟨dxw,hpw⟩:=S.wo.ob
  refine⟨_,pss_cons (PS.nox (ps_for PassesOwn.never rfl (pi_tup (pe_ix ix_tup (pe_meth (pl:=_) (pe_fld (pv 0) rfl) TW.cl M1.mt G1 hr M1.bd .nil passN (pa_cons (pe_ix ix_tup (pv 1) pe_int (fun _ _=>rfl)) pa_nil)) pe_int (fun _ _=>rfl)))
      (pg_tup rfl (pgs_cons (pg_name (i:=2) scHeldBy.nd rfl (Or.inl rfl)) (pgs_cons (pg_name (i:=3) scHeldBy.nd rfl (Or.inl rfl)) (pgs_cons (pg_name (i:=4) scHeldBy.nd rfl (Or.inl rfl)) pgs_nil))))
      (pss_one (ps_if (pt_cmpR (op_eqD (hu64 hr)) (pv 2) (pv 1) (nomark _)) (pss_one (ps_ret (pv 4))) pss_nil))))
    (pss_one (ps_raise rfl rfl T.cMI raises1)),?_⟩
  refine⟨_,rfl,p,CD,dx,_,_,rfl,hp,TK.cl,TK.nW,df_world,pw,dxw,_,rfl,hpw,wf_no W (by decide +kernel),_,rfl,a,_,0,_,rfl,rfl,SqT.of ha,rfl,?_⟩
  refine wstate_mono k fun v H1 z=>?_
  obtain⟨hs,os,rs,s1,rep,kQ,kE⟩:=z
  obtain⟨b,x1,x2,x3,rfl,sb,_,r2,_⟩:=rep_st rep
  obtain⟨c,bs,rfl,sc,pc⟩:=RepT.inv r2
  have hl:=Paired.length pc
  rw[ZA] at hl
  refine⟨b,_,1,_,rfl,rfl,sb,rfl,c,rfl,⟨_,sc⟩,?_⟩
  refine for_tup (K:=K) (a:=c) (xs:=bs) (fun j σ H2=>H2=H1∧(∃u1 u2 u3,σ=[some (.ref p),some (.ref a),u1,u2,u3])∧∀r∈os.take j,r.1≠ta) ⟨rfl,⟨_,_,_,rfl⟩,by simp⟩ (fun j σ H2 _ h=>by rw[h.1];exact sc) ?_ (fun σ H2 h=>?_)
  · rintro j v σ H2 hj ⟨rfl,⟨u1,u2,u3,rfl⟩,no⟩
    obtain⟨zj,_⟩:=ZJ hj
    obtain⟨r,hr'⟩:=get_of_lt (xs:=os) (j:=j) (by lia)
    obtain⟨a',ys,rfl,sa,pr⟩:=RepT.inv (paired_get pc j v (rowD r) hj (by rw[ZH,hr'];rfl))
    obtain⟨y1,y2,y3,rfl,q1,q3⟩:∃y1 y2 y3,ys=[y1,y2,y3]∧RepT K H2 y1 (thD r.1)∧RepT K H2 y3 (.tuple (r.2.2.map thD)):=by
      cases pr with|cons z1 pr=>cases pr with|cons z2 pr=>cases pr with|cons z3 pr=>cases pr;exact⟨_,_,_,rfl,z1,z3⟩
    refine⟨a',_,rfl,sa,rfl,_,_,rfl,_,_,rfl,_,_,rfl,rfl,?_⟩
    refine⟨_,rfl,_,rfl,thD r.1,thD ta,.one q1,.one (th_rep (s1 _ _ ha)),thD_okd r.1,thD_okd ta,_,rfl,?_⟩
    rw[thD_eqv]
    refine ite2 (fun c=>?_) (fun c=>?_)
    · have c:r.1=ta:=of_decide_eq_true c
      obtain⟨x,xs,rfl,sx,px⟩:=RepT.inv q3
      exact⟨_,rfl,kQ r (ZP hr') c x xs sx (reps_th px)⟩
    · have c:¬r.1=ta:=by simpa using c
      refine⟨rfl,⟨_,_,_,rfl⟩,fun r' hm=>?_⟩
      rw[List.take_add_one,hr',List.mem_append] at hm
      rcases hm with hm|hm
      · exact no r' hm
      · have:r'=r:=by simpa using hm
        rw[this];exact c
  · obtain⟨rfl,⟨u1,u2,u3,rfl⟩,no⟩:=h
    exact kE fun r hr=>no r (by rw[hl,List.take_length];exact hr)
end
end K53
namespace K53
open PySem L2 FX
set_option linter.all false
theorem ystr{x y:Str}(e:x=y):decide (V.str x=V.str y)=true:=decide_eq_true (by rw[e])
theorem nstr{x y:Str}(e:¬x=y):decide (V.str x=V.str y)=false:=decide_eq_false fun z=>e (V.str.inj z)
def Small(ts:List T2):Prop:=ts.length≤1000∧∀t∈ts,t.1.natAbs≤1000∧t.2.natAbs≤1000
section
variable {P:Program}{w:World}{K:PySem.W.Frag}{mg:Str→Option Value}{base:Heap}{NR FA CD CW C CP CI NH NI NL NHd NNr MI NW:Addr}
def wrL(l:Int×Str×Int×Int):Str:=wrLet l.1 l.2.1 l.2.2.1 l.2.2.2
def LetK(K:PySem.W.Frag)(H:Hp)(y:Int×Addr)(l:Int×Str×Int×Int):Prop:=∃x,SqT K H y.2 [.int l.1,.str l.2.1,.int l.2.2.1,.int l.2.2.2,x]
def SmallL(ls:List (Int×Str×Int×Int)):Prop:=ls.length≤1000∧∀l∈ls,l.1.natAbs≤1000∧l.2.2.1.natAbs≤1000∧l.2.2.2.natAbs≤1000∧l.2.1.length≤1000
inductive spLook(CD CW C CP NH NI MI:Addr)(K:PySem.W.Frag)(vs:List V)(H:Hp)(Q:VK)(E:XK):Prop
  | hand (p pw r:Addr) (W:WGh) (h:Int) (_:vs=[.ref p,.str "hand",.ref r]) (_:DeskAt CD CW C CP H p pw W) (_:H r=some (.lst [.int h]))
    (_:spWState CW C CP NH K [.ref pw,.int h] H (fun v H'=>∃hs os rs,Same H H'∧RepT K H' v (stD hs os rs)∧Small hs∧∀H2,Same H H2→Q (.str (wrList (hs.map wrThing))) H2) E)
  | things (p pw r:Addr) (W:WGh) (h:Int) (_:vs=[.ref p,.str "things",.ref r]) (_:DeskAt CD CW C CP H p pw W) (_:H r=some (.lst [.int h]))
    (_:spWState CW C CP NH K [.ref pw,.int h] H (fun v H'=>∃hs os rs,Same H H'∧RepT K H' v (stD hs os rs)∧Small (os.map (·.1))∧∀H2,Same H H2→Q (.str (wrList ((os.map (·.1)).map wrThing))) H2) E)
  | holds (p r a:Addr) (_:vs=[.ref p,.str "holds",.ref r]) (_:∃dx fs,H p=some (.ins CD dx fs)∧fs.lookup ("held_by":Str)=none) (_:H r=some (.lst [.ref a]))
    (_:spHeldBy CD CW C CP NH MI K [.ref p,.ref a] H (fun v H'=>∃x xs ts,v=.ref x∧SqT K H' x xs∧Paired (ThK K H') xs ts∧Small ts∧∀H2,Same H' H2→Q (.str (wrList (ts.map wrThing))) H2) E)
  | found (p pw r:Addr) (W:WGh) (n:Int) (_:vs=[.ref p,.str "found",.ref r]) (_:DeskAt CD CW C CP H p pw W) (_:H r=some (.lst [.int n])) (_:∀l∈W.iqs,l.1≠n) (_:E (.ref NI) none H)
  | post (p pw r:Addr) (W:WGh) (ls:List (Int×Str×Int×Int)) (_:vs=[.ref p,.str "post",.ref r]) (_:DeskAt CD CW C CP H p pw W) (_:Paired (LetK K H) W.ls ls) (_:SmallL ls) (_:∀H2,Same H H2→Q (.str (wrList (ls.map wrL))) H2)
theorem scLook:FnScope ["self","verb","given"] ["self","verb","given"] (defScope sLookD):=⟨rfl,rfl,rfl,by decide +kernel,rfl,by decide +kernel,by decide +kernel⟩
def teFst(K:PySem.W.Frag):TE:=tOp (rIxT K) (tVar 0) (tC (.int 0))
theorem ok_look{f f1 f2 f3 f4 f5 f6 f7:Addr}{fd d1 d2 d3 d4 d5 d6 d7:FuncData}(F:Fun K "look" "Desk.look" sLookD f fd)(T:Txt K mg C NHd NNr MI NW)(TR:TxtR K mg NR)(TK:TxtK K mg CD)(TW:TxtW K mg CW NH NI)(M1:Mth K CW "state" "World.state" sWState ["self","h"] f1 d1)(G1:FnOk P w K mg base (CX1 P w) 3 f1 d1 ["self","h"] (spWState CW C CP NH K))(M2:Mth K CD "held_by" "Desk.held_by" sHeldBy ["self","a"] f2 d2)(M3:Mth K CW "inquiry" "World.inquiry" sWInquiry ["self","n"] f3 d3)(M4:Mth K CW "letters" "World.letters" sWLetters ["self"] f4 d4)(G4:FnOk P w K mg base CX0 2 f4 d4 ["self"] (spWLetters CW C CP))(M5:Gdf K mg "listed_things" sListedT ["things"] f5 d5)(G5:FnOk P w K mg base CX0 2 f5 d5 ["things"] (spListedT K))(M6:Gdf K mg "listed" sListed ["words"] f6 d6)(M7:Gdf K mg "written_letter" sWrLetter ["letter"] f7 d7) :
    FnOk P w K mg base (CX1 P w) 5 f fd ["self","verb","given"] (spLook CD CW C CP NH NI MI K):=by
  have G2:FnOk P w K mg base (CX1 P w) 4 f2 d2 ["self","a"] (spHeldBy CD CW C CP NH MI K):=ok_heldby M2.fn T TK TW M1 G1
  have G3:FnOk P w K mg base (CX1 P w) 1 f3 d3 ["self","n"] (spWInquiry CW C CP NI K):=ok_winquiry M3.fn TW
  have G4':FnOk P w K mg base (CX1 P w) 2 f4 d4 ["self"] (spWLetters CW C CP):=FX.FnOk.to1 G4
  have G5':FnOk P w K mg base (CX1 P w) 2 f5 d5 ["things"] (spListedT K):=FX.FnOk.to1 G5
  have G6:FnOk P w K mg base (CX1 P w) 1 f6 d6 ["words"] spListed:=FX.FnOk.to1 (ok_listed M6.fn)
  have G7:FnOk P w K mg base CX0 1 f7 d7 ["letter"] (spWrLetter K):=ok_wrletter M7.fn TR
  refine ok12 F scLook fun vs H Q E h=>?_
  refine⟨by cases h<;>(rename_i e _ _;subst_vars;rfl),fun cdv A outer s hr=>?_⟩
  have hr1:Room 1 _:=hr.mono (by decide)
  have hr2:Room 2 _:=hr.mono (by decide)
  have hr3:Room 3 _:=hr.mono (by decide)
  refine⟨_,pss_cons (ps_if (pt_cmpR op_eq (pv 1) pe_str (nomark _)) (pss_one (ps_ret (pe_call G5' hr2 rfl M5.mg M5.fn.kp M5.bd .nil pass1 (pa_cons (pe_ix ix_tup (pe_meth (pl:=_) (pe_fld (pv 0) rfl) TW.cl M1.mt G1 hr3 M1.bd .nil pass1 (pa_cons (pe_ix ix_list (pv 2) pe_int (fun _ _=>rfl)) pa_nil)) pe_int (fun _ _=>rfl)) pa_nil)))) pss_nil)
    (pss_cons (ps_if (pt_cmpR op_eq (pv 1) pe_str (nomark _)) (pss_one (ps_ret (pe_call G5' hr2 rfl M5.mg M5.fn.kp M5.bd .nil pass1 (pa_cons (pe_comp (te:=teFst K) (caps:=[]) rfl (pi_tup (pe_ix ix_tup (pe_meth (pl:=_) (pe_fld (pv 0) rfl) TW.cl M1.mt G1 hr3 M1.bd .nil pass1 (pa_cons (pe_ix ix_list (pv 2) pe_int (fun _ _=>rfl)) pa_nil)) pe_int (fun _ _=>rfl)))
        rfl (by decide +kernel) rfl (by decide +kernel) rfl trivial (fun y h=>has_no (by rfl) h) trivial (by decide +kernel) (fun _ _ _ _ _=>pts_nil) (fun _ _ _ _ _=>pe_ix ix_tup (pv 0) pe_int (fun _ _=>rfl))) pa_nil)))) pss_nil)
    (pss_cons (ps_if (pt_cmpR op_eq (pv 1) pe_str (nomark _)) (pss_one (ps_ret (pe_call G5' hr2 rfl M5.mg M5.fn.kp M5.bd .nil pass1 (pa_cons (pe_meth (pl:=_) (pv 0) TK.cl M2.mt G2 hr M2.bd .nil pass1 (pa_cons (pe_ix ix_list (pv 2) pe_int (fun _ _=>rfl)) pa_nil)) pa_nil)))) pss_nil)
    (pss_cons (ps_if (pt_cmpR op_eq (pv 1) pe_str (nomark _)) (pss_one (ps_ret (pe_call G5' hr2 rfl M5.mg M5.fn.kp M5.bd .nil pass1 (pa_cons (pe_ix ix_tup (pe_meth (pl:=_) (pe_fld (pv 0) rfl) TW.cl M3.mt G3 hr1 M3.bd .nil pass1 (pa_cons (pe_ix ix_list (pv 2) pe_int (fun _ _=>rfl)) pa_nil)) pe_int (fun _ _=>rfl)) pa_nil)))) pss_nil)
    (pss_one (ps_ret (pe_call G6 hr1 rfl M6.mg M6.fn.kp M6.bd .nil pass1 (pa_cons (pe_comp (te:=tCall (spWrLetter K) [] E0 (tCons (tVar 0) tNil)) (caps:=[]) rfl (pi_list (pe_meth0 (pl:=_) (pe_fld (pv 0) rfl) TW.cl M4.mt G4' hr2 M4.bd .nil pass1))
        rfl (by decide +kernel) rfl (by decide +kernel) rfl trivial (fun y h=>has_no (by rfl) h) trivial (by decide +kernel) (fun _ _ _ _ _=>pts_nil) (fun _ _ _ _ _=>pe_call G7 hr1 rfl M7.mg M7.fn.kp M7.bd .nil pass0 (pa_cons (pv 0) pa_nil))) pa_nil))))))),?_⟩
  have hs0:sizeLine=16777216:=sizeLine_eq
  cases h with
  | hand p pw r W h e S hrr k =>
    subst e
    obtain⟨dx,hp⟩:=S.ob
    obtain⟨dxw,hpw⟩:=S.wo.ob
    refine⟨_,rfl,rfl,_,rfl,?_⟩
    rw[ystr rfl]
    refine iteT ⟨_,rfl,p,CD,dx,_,_,rfl,hp,TK.cl,TK.nW,df_world,pw,dxw,_,rfl,hpw,wf_no W (by decide +kernel),_,rfl,r,_,0,_,rfl,rfl,SqL.of hrr,rfl,?_⟩
    refine wstate_mono k fun v H1 z=>?_
    obtain⟨hs,os,rs,s1,rep,sm,kq⟩:=z
    obtain⟨b,x1,x2,x3,rfl,sb,r1,_,_⟩:=rep_st rep
    obtain⟨c,cs,rfl,sc,pc⟩:=RepT.inv r1
    exact⟨b,_,0,_,rfl,rfl,sb,rfl,c,cs,hs,rfl,.inr sc,reps_th pc,sm.1,sm.2,fun H2 s2=>kq H2 (same_trans s1 s2)⟩
  | things p pw r W h e S hrr k =>
    subst e
    obtain⟨dx,hp⟩:=S.ob
    obtain⟨dxw,hpw⟩:=S.wo.ob
    refine⟨_,rfl,rfl,_,rfl,?_⟩
    rw[nstr (by decide +kernel)]
    refine iteF ⟨_,rfl,rfl,_,rfl,?_⟩
    rw[ystr rfl]
    refine iteT ⟨_,rfl,p,CD,dx,_,_,rfl,hp,TK.cl,TK.nW,df_world,pw,dxw,_,rfl,hpw,wf_no W (by decide +kernel),_,rfl,r,_,0,_,rfl,rfl,SqL.of hrr,rfl,?_⟩
    refine wstate_mono k fun v H1 z=>?_
    obtain⟨hs,os,rs,s1,rep,sm,kq⟩:=z
    obtain⟨b,x1,x2,x3,rfl,sb,_,r2,_⟩:=rep_st rep
    obtain⟨c,cs,rfl,sc,pc⟩:=RepT.inv r2
    have hl:=Paired.length pc
    rw[ZA] at hl
    have sm1:=sm.1
    rw[ZA] at sm1
    refine⟨b,_,1,_,rfl,rfl,sb,rfl,c,rfl,⟨_,sc⟩,fun q hq=>?_⟩
    refine comp_tupT (tt:=fun _ H Q=>Q true H) (te:=teFst K) (caps:=[]) (fun i ys H2=>H2=upd H1 q (.lst ys)∧Paired (ThK K H1) ys ((os.take i).map (·.1))∧ys.length=i) ⟨rfl,.nil,rfl⟩ (fun i ys H2 _ h=>by rw[h.1];exact⟨sqt_same (same_new hq) sc,upd_same⟩) ?_ ?_
    · rintro i x ys H2 N hx ⟨rfl,pys,yl⟩ hN
      obtain⟨zi,_⟩:=ZJ hx
      obtain⟨rr,hrr'⟩:=get_of_lt (xs:=os) (j:=i) (by lia)
      obtain⟨a',ys',rfl,sa,pr⟩:=RepT.inv (paired_get pc i x (rowD rr) hx (by rw[ZH,hrr'];rfl))
      obtain⟨y1,y2,rfl,q1⟩:∃y1 y2,ys'=y1::y2∧RepT K H1 y1 (thD rr.1):=by
        cases pr with|cons z1 pr=>exact⟨_,_,rfl,z1⟩
      refine iteT ⟨_,rfl,a',_,0,y1,rfl,rfl,sqt_same (same_new hq) sa,atI_at (Int.le_refl 0) rfl,upd_same,by lia,?_⟩
      rw[upd_upd]
      refine hN _ _ ⟨rfl,?_,by rw[ZE,yl];rfl⟩
      rw[List.take_add_one,hrr',ZF]
      exact paired_snoc q1.th pys
    · rintro ys H2 ⟨rfl,pys,yl⟩
      rw[hl,List.take_length] at pys
      exact⟨q,ys,os.map (·.1),rfl,.inl (SqL.of upd_same),paired_mono (fun _ _ z=>z.same (same_new hq)) pys,sm.1,sm.2,fun H2 s2=>kq H2 (same_trans s1 (same_trans (same_new hq) s2))⟩
  | holds p r a e hob hrr k =>
    subst e
    obtain⟨dx,fs,hp,hno⟩:=hob
    refine⟨_,rfl,rfl,_,rfl,?_⟩
    rw[nstr (by decide +kernel)]
    refine iteF ⟨_,rfl,rfl,_,rfl,?_⟩
    rw[nstr (by decide +kernel)]
    refine iteF ⟨_,rfl,rfl,_,rfl,?_⟩
    rw[ystr rfl]
    refine iteT ⟨_,rfl,p,dx,_,rfl,hp,hno,_,rfl,r,_,0,_,rfl,rfl,SqL.of hrr,rfl,?_⟩
    obtain⟨p',pw,a',W,ta,e,S,ha,k⟩:=k
    refine⟨p',pw,a',W,ta,e,S,ha,wstate_mono k fun v H1 z=>?_⟩
    obtain⟨hs,os,rs,s1,rep,kQ,kE⟩:=z
    refine⟨hs,os,rs,s1,rep,fun r hr er x xs sx px=>?_,kE⟩
    obtain⟨x',xs',ts,ex,sx',px',sm,kq⟩:=kQ r hr er x xs sx px
    obtain rfl:=V.ref.inj ex
    exact⟨x,xs',ts,rfl,.inr sx',px',sm.1,sm.2,kq⟩
  | found p pw r W n e S hrr h1 kE =>
    subst e
    obtain⟨dx,hp⟩:=S.ob
    obtain⟨dxw,hpw⟩:=S.wo.ob
    refine⟨_,rfl,rfl,_,rfl,?_⟩
    rw[nstr (by decide +kernel)]
    refine iteF ⟨_,rfl,rfl,_,rfl,?_⟩
    rw[nstr (by decide +kernel)]
    refine iteF ⟨_,rfl,rfl,_,rfl,?_⟩
    rw[nstr (by decide +kernel)]
    refine iteF ⟨_,rfl,rfl,_,rfl,?_⟩
    rw[ystr rfl]
    exact iteT ⟨_,rfl,p,CD,dx,_,_,rfl,hp,TK.cl,TK.nW,df_world,pw,dxw,_,rfl,hpw,wf_no W (by decide +kernel),_,rfl,r,_,0,_,rfl,rfl,SqL.of hrr,rfl,pw,n,W,rfl,S.wo,.inl ⟨h1,kE⟩⟩
  | post p pw r W ls e S pl sm kq =>
    subst e
    obtain⟨dx,hp⟩:=S.ob
    obtain⟨dxw,hpw⟩:=S.wo.ob
    refine⟨_,rfl,rfl,_,rfl,?_⟩
    rw[nstr (by decide +kernel)]
    refine iteF ⟨_,rfl,rfl,_,rfl,?_⟩
    rw[nstr (by decide +kernel)]
    refine iteF ⟨_,rfl,rfl,_,rfl,?_⟩
    rw[nstr (by decide +kernel)]
    refine iteF ⟨_,rfl,rfl,_,rfl,?_⟩
    rw[nstr (by decide +kernel)]
    refine iteF ⟨_,rfl,p,CD,dx,_,_,rfl,hp,TK.cl,TK.nW,df_world,pw,dxw,_,rfl,hpw,wf_no W (by decide +kernel),pw,W,rfl,S.wo,fun l H1 hl h1 s1=>?_⟩
    have len:=Paired.length pl
    have sm1:=sm.1
    refine⟨l,rfl,⟨_,SqL.of h1⟩,fun q hq=>?_⟩
    refine comp_list (tt:=fun _ H Q=>Q true H) (te:=tCall (spWrLetter K) [] E0 (tCons (tVar 0) tNil)) (caps:=[]) (fun i ys H2=>Same H1 H2∧H2 q=some (.lst ys)∧ys=((ls.take i).map wrL).map V.str) ⟨same_new hq,upd_same,rfl⟩ (fun i ys H2 _ h=>⟨SqL.of (h.1 _ _ h1),h.2.1⟩) ?_ ?_
    · rintro i x ys H2 N hx ⟨s2,hq2,rfl⟩ hN
      rw[ZH] at hx
      obtain⟨y,hy,rfl⟩:=Option.map_eq_some_iff.mp hx
      obtain⟨zi,_⟩:=ZJ hy
      obtain⟨le,hle⟩:=get_of_lt (xs:=ls) (j:=i) (by lia)
      obtain⟨xx,sx⟩:=paired_get pl i y le hy hle
      obtain⟨b1,b2,b3,b4⟩:=sm.2 le (ZP hle)
      refine iteT ⟨_,rfl,y.2,le.1,le.2.2.1,le.2.2.2,le.2.1,xx,rfl,sqt_same (same_trans s1 s2) sx,b1,b2,b3,b4,fun H' s3=>⟨s3 _ _ hq2,?_,hN _ _ ⟨fun c o e=>?_,upd_same,?_⟩⟩⟩
      · rw[ZA,ZA,List.length_take]
        lia
      · rw[upd_ne (ne_of_none e hq)]
        exact s3 _ _ (s2 _ _ e)
      · rw[List.take_add_one,hle,ZF,ZF]
        rfl
    · rintro ys H2 ⟨s2,hq2,rfl⟩
      rw[ZA,len,List.take_length] at hq2
      refine⟨q,ls.map wrL,rfl,hq2,by rw[ZA];exact sm1,fun y hy=>?_,kq _ (same_trans s1 s2)⟩
      obtain⟨le,hle,rfl⟩:=ZN hy
      obtain⟨b1,b2,b3,b4⟩:=sm.2 le hle
      have l1:=wrI_len le.1 b1
      have l2:=wrI_len le.2.2.1 b2
      have l3:=wrI_len le.2.2.2 b3
      unfold wrL wrLet
      have:=PySem.StrLaws.join_length_le ":" [wrI le.1,le.2.1,wrI le.2.2.1,wrI le.2.2.2]
      have q:Str.length ":"=1:=rfl
      simp only[List.map_cons,List.map_nil,List.sum_cons,List.sum_nil,List.length_cons,List.length_nil,q] at this
      lia
end
end K53
namespace K53
open PySem L2 FX
set_option linter.all false
theorem ystr'{x y:Str}(e:x=y):decide (V.str x=V.str y)=true:=decide_eq_true (by rw[e])
theorem nstr'{x y:Str}(e:¬x=y):decide (V.str x=V.str y)=false:=decide_eq_false fun z=>e (V.str.inj z)
section
variable {P:Program}{w:World}{K:PySem.W.Frag}{mg:Str→Option Value}{base:Heap}{NR FA CD CW C CP CI NH NI NL NHd NNr MI NW:Addr}
inductive spMove(CD CW C CP NH NHd NNr:Addr)(vs:List V)(H:Hp)(Q:VK)(E:XK):Prop
  | hold (p pw r a b:Addr) (W:WGh) (h:Int) (_:vs=[.ref p,.str "hold",.ref r]) (_:DeskAt CD CW C CP H p pw W) (_:H r=some (.lst [.int h,.ref a,.ref b])) (_:spWHold CW C CP NH NHd NNr [.ref pw,.int h,.ref a,.ref b] H (fun _ H'=>Q .non H') E)
  | free (p pw r b:Addr) (W:WGh) (h:Int) (_:vs=[.ref p,.str "free",.ref r]) (_:DeskAt CD CW C CP H p pw W) (_:H r=some (.lst [.int h,.ref b])) (_:spWFree CW C CP NH NHd [.ref pw,.int h,.ref b] H (fun _ H'=>Q .non H') E)
theorem scMove:FnScope ["self","verb","given"] ["self","verb","given"] (defScope sMove):=⟨rfl,rfl,rfl,by decide +kernel,rfl,by decide +kernel,by decide +kernel⟩
theorem ok_move{f f1 f2:Addr}{fd d1 d2:FuncData}(F:Fun K "move" "Desk.move" sMove f fd)(TK:TxtK K mg CD)(TW:TxtW K mg CW NH NI)(M1:Mth K CW "hold" "World.hold" sWHold ["self","h","a","b"] f1 d1)(G1:FnOk P w K mg base (CX1 P w) 4 f1 d1 ["self","h","a","b"] (spWHold CW C CP NH NHd NNr))(M2:Mth K CW "free" "World.free" sWFree ["self","h","b"] f2 d2)(G2:FnOk P w K mg base (CX1 P w) 3 f2 d2 ["self","h","b"] (spWFree CW C CP NH NHd)):FnOk P w K mg base (CX1 P w) 5 f fd ["self","verb","given"] (spMove CD CW C CP NH NHd NNr):=by
  refine ok12 F scMove fun vs H Q E h=>?_
  refine⟨by cases h<;>(subst_vars;rfl),fun cdv A outer s hr=>?_⟩
  have hr3:Room 3 _:=hr.mono (by decide)
  refine⟨_,pss_one (ps_if (pt_cmpR op_eq (pv 1) pe_str (nomark _)) (pss_one (ps_expr (pe_meth (pl:=_) (pe_fld (pv 0) rfl) TW.cl M1.mt G1 hr M1.bd .nil pass1 (pa_cons (pe_ix ix_list (pv 2) pe_int (fun _ _=>rfl)) (pa_cons (pe_ix ix_list (pv 2) pe_int (fun _ _=>rfl)) (pa_cons (pe_ix ix_list (pv 2) pe_int (fun _ _=>rfl)) pa_nil))))))
    (pss_one (ps_if (pt_cmpR op_eq (pv 1) pe_str (nomark _)) pss_never (pss_one (ps_if (pt_cmpR op_eq (pv 1) pe_str (nomark _)) pss_never (pss_one (ps_expr (pe_meth (pl:=_) (pe_fld (pv 0) rfl) TW.cl M2.mt G2 hr3 M2.bd .nil pass1 (pa_cons (pe_ix ix_list (pv 2) pe_int (fun _ _=>rfl)) (pa_cons (pe_ix ix_list (pv 2) pe_int (fun _ _=>rfl)) pa_nil)))))))))),?_⟩
  cases h with
  | hold p pw r a b W h e S hrr k =>
    subst e
    obtain⟨dx,hp⟩:=S.ob
    obtain⟨dxw,hpw⟩:=S.wo.ob
    refine⟨_,rfl,rfl,_,rfl,?_⟩
    rw[ystr' rfl]
    exact iteT ⟨_,rfl,p,CD,dx,_,_,rfl,hp,TK.cl,TK.nW,df_world,pw,dxw,_,rfl,hpw,wf_no W (by decide +kernel),_,rfl,r,_,0,_,rfl,rfl,SqL.of hrr,rfl,_,rfl,r,_,1,_,rfl,rfl,SqL.of hrr,rfl,_,rfl,r,_,2,_,rfl,rfl,SqL.of hrr,rfl,k⟩
  | free p pw r b W h e S hrr k =>
    subst e
    obtain⟨dx,hp⟩:=S.ob
    obtain⟨dxw,hpw⟩:=S.wo.ob
    refine⟨_,rfl,rfl,_,rfl,?_⟩
    rw[nstr' (by decide +kernel)]
    refine iteF ⟨_,rfl,rfl,_,rfl,?_⟩
    rw[nstr' (by decide +kernel)]
    refine iteF ⟨_,rfl,rfl,_,rfl,?_⟩
    rw[nstr' (by decide +kernel)]
    exact iteF ⟨_,rfl,p,CD,dx,_,_,rfl,hp,TK.cl,TK.nW,df_world,pw,dxw,_,rfl,hpw,wf_no W (by decide +kernel),_,rfl,r,_,0,_,rfl,rfl,SqL.of hrr,rfl,_,rfl,r,_,1,_,rfl,rfl,SqL.of hrr,rfl,k⟩
inductive spAct(CD CW C CP NH NHd NL:Addr)(K:PySem.W.Frag)(vs:List V)(H:Hp)(Q:VK)(E:XK):Prop
  | make (p pw r:Addr) (W:WGh) (h:Int) (_:vs=[.ref p,.str "make",.ref r]) (_:DeskAt CD CW C CP H p pw W) (_:H r=some (.lst [.int h])) (_:spWMake CW C CP NH [.ref pw,.int h] H (fun v H'=>spWrThing K [v] H' Q E) E)
  | send (p pw r b:Addr) (W:WGh) (h g:Int) (_:vs=[.ref p,.str "send",.ref r]) (_:DeskAt CD CW C CP H p pw W) (_:H r=some (.lst [.int h,.int g,.ref b])) (_:spWSend CW C CP NH NHd [.ref pw,.int h,.int g,.ref b] H (fun v H'=>Rcall_str_int [v] H' Q) E)
  | ask (p pw r:Addr) (W:WGh) (h:Int) (_:vs=[.ref p,.str "ask",.ref r]) (_:DeskAt CD CW C CP H p pw W) (_:H r=some (.lst [.int h])) (_:spWAsk CW C CP NH K [.ref pw,.int h] H (fun v H'=>Rcall_str_int [v] H' Q) E)
  | come (p pw r:Addr) (W:WGh) (n:Int) (_:vs=[.ref p,.str "come",.ref r]) (_:DeskAt CD CW C CP H p pw W) (_:H r=some (.lst [.int n])) (_:spWDeliver CW C CP NL [.ref pw,.int n] H (fun v H'=>∃l,v=.ref l∧H' l=some (.lst [])∧∀H2,Same H' H2→Q (.str "none") H2) E)
theorem scAct:FnScope ["self","verb","given"] ["self","verb","given"] (defScope sAct):=⟨rfl,rfl,rfl,by decide +kernel,rfl,by decide +kernel,by decide +kernel⟩
theorem ok_act{f f1 f2 f3 f4 f5 f6:Addr}{fd d1 d2 d3 d4 d5 d6:FuncData}(F:Fun K "act" "Desk.act" sAct f fd)(TR:TxtR K mg NR)(TK:TxtK K mg CD)(TW:TxtW K mg CW NH NI)(M1:Mth K CW "make" "World.make" sWMake ["self","h"] f1 d1)(G1:FnOk P w K mg base (CX1 P w) 2 f1 d1 ["self","h"] (spWMake CW C CP NH))(M2:Mth K CW "send" "World.send" sWSend ["self","h","g","b"] f2 d2)(G2:FnOk P w K mg base (CX1 P w) 4 f2 d2 ["self","h","g","b"] (spWSend CW C CP NH NHd))(M3:Mth K CW "ask" "World.ask" sWAsk ["self","h"] f3 d3)(G3:FnOk P w K mg base (CX1 P w) 3 f3 d3 ["self","h"] (spWAsk CW C CP NH K))(M4:Mth K CW "deliver" "World.deliver" sWDeliver ["self","n"] f4 d4)(G4:FnOk P w K mg base (CX1 P w) 4 f4 d4 ["self","n"] (spWDeliver CW C CP NL))(M5:Gdf K mg "written_thing" sWrThing ["thing"] f5 d5)(M6:Gdf K mg "listed" sListed ["words"] f6 d6) :
    FnOk P w K mg base (CX1 P w) 5 f fd ["self","verb","given"] (spAct CD CW C CP NH NHd NL K):=by
  have G5:FnOk P w K mg base (CX1 P w) 1 f5 d5 ["thing"] (spWrThing K):=FX.FnOk.to1 (ok_wrthing M5.fn TR)
  have G6:FnOk P w K mg base (CX1 P w) 1 f6 d6 ["words"] spListed:=FX.FnOk.to1 (ok_listed M6.fn)
  refine ok12 F scAct fun vs H Q E h=>?_
  refine⟨by cases h<;>(subst_vars;rfl),fun cdv A outer s hr=>?_⟩
  have hr1:Room 1 _:=hr.mono (by decide)
  have hr2:Room 2 _:=hr.mono (by decide)
  have hr3:Room 3 _:=hr.mono (by decide)
  refine⟨_,pss_cons (ps_if (pt_cmpR op_eq (pv 1) pe_str (nomark _)) (pss_one (ps_ret (pe_call G5 hr1 rfl M5.mg M5.fn.kp M5.bd .nil pass1 (pa_cons (pe_meth (pl:=_) (pe_fld (pv 0) rfl) TW.cl M1.mt G1 hr2 M1.bd .nil pass1 (pa_cons (pe_ix ix_list (pv 2) pe_int (fun _ _=>rfl)) pa_nil)) pa_nil)))) pss_nil)
    (pss_cons (ps_if (pt_cmpR op_eq (pv 1) pe_str (nomark _)) (pss_one (ps_ret (pe_callTy call_str_int (by rfl) TR.str PyProof.Rows.boot_str (pa_cons (pe_meth (pl:=_) (pe_fld (pv 0) rfl) TW.cl M2.mt G2 hr M2.bd .nil pass1 (pa_cons (pe_ix ix_list (pv 2) pe_int (fun _ _=>rfl)) (pa_cons (pe_ix ix_list (pv 2) pe_int (fun _ _=>rfl)) (pa_cons (pe_ix ix_list (pv 2) pe_int (fun _ _=>rfl)) pa_nil)))) pa_nil)))) pss_nil)
    (pss_cons (ps_if (pt_cmpR op_eq (pv 1) pe_str (nomark _)) (pss_one (ps_ret (pe_callTy call_str_int (by rfl) TR.str PyProof.Rows.boot_str (pa_cons (pe_meth (pl:=_) (pe_fld (pv 0) rfl) TW.cl M3.mt G3 hr3 M3.bd .nil pass1 (pa_cons (pe_ix ix_list (pv 2) pe_int (fun _ _=>rfl)) pa_nil)) pa_nil)))) pss_nil)
    (pss_cons (ps_if (pt_cmpR op_eq (pv 1) pe_str (nomark _)) pss_never pss_nil)
    (pss_one (ps_ret (pe_call G6 hr1 rfl M6.mg M6.fn.kp M6.bd .nil pass1 (pa_cons (pe_comp (te:=teStr) (caps:=[]) rfl (pi_list (pe_meth (pl:=_) (pe_fld (pv 0) rfl) TW.cl M4.mt G4 hr M4.bd .nil pass1 (pa_cons (pe_ix ix_list (pv 2) pe_int (fun _ _=>rfl)) pa_nil)))
        rfl (by decide +kernel) rfl (by decide +kernel) rfl trivial (fun y h=>has_no (by rfl) h) trivial (by decide +kernel) (fun _ _ _ _ _=>pts_nil) (fun _ _ _ _ _=>pe_callTy (call_str_int.or call_str_str) (by rfl) TR.str PyProof.Rows.boot_str (pa_cons (pv 0) pa_nil))) pa_nil))))))),?_⟩
  cases h with
  | make p pw r W h e S hrr k =>
    subst e
    obtain⟨dx,hp⟩:=S.ob
    obtain⟨dxw,hpw⟩:=S.wo.ob
    refine⟨_,rfl,rfl,_,rfl,?_⟩
    rw[ystr' rfl]
    exact iteT ⟨_,rfl,p,CD,dx,_,_,rfl,hp,TK.cl,TK.nW,df_world,pw,dxw,_,rfl,hpw,wf_no W (by decide +kernel),_,rfl,r,_,0,_,rfl,rfl,SqL.of hrr,rfl,k⟩
  | send p pw r b W h g e S hrr k =>
    subst e
    obtain⟨dx,hp⟩:=S.ob
    obtain⟨dxw,hpw⟩:=S.wo.ob
    refine⟨_,rfl,rfl,_,rfl,?_⟩
    rw[nstr' (by decide +kernel)]
    refine iteF ⟨_,rfl,rfl,_,rfl,?_⟩
    rw[ystr' rfl]
    exact iteT ⟨_,rfl,p,CD,dx,_,_,rfl,hp,TK.cl,TK.nW,df_world,pw,dxw,_,rfl,hpw,wf_no W (by decide +kernel),_,rfl,r,_,0,_,rfl,rfl,SqL.of hrr,rfl,_,rfl,r,_,1,_,rfl,rfl,SqL.of hrr,rfl,_,rfl,r,_,2,_,rfl,rfl,SqL.of hrr,rfl,k⟩
  | ask p pw r W h e S hrr k =>
    subst e
    obtain⟨dx,hp⟩:=S.ob
    obtain⟨dxw,hpw⟩:=S.wo.ob
    refine⟨_,rfl,rfl,_,rfl,?_⟩
    rw[nstr' (by decide +kernel)]
    refine iteF ⟨_,rfl,rfl,_,rfl,?_⟩
    rw[nstr' (by decide +kernel)]
    refine iteF ⟨_,rfl,rfl,_,rfl,?_⟩
    rw[ystr' rfl]
    exact iteT ⟨_,rfl,p,CD,dx,_,_,rfl,hp,TK.cl,TK.nW,df_world,pw,dxw,_,rfl,hpw,wf_no W (by decide +kernel),_,rfl,r,_,0,_,rfl,rfl,SqL.of hrr,rfl,k⟩
  | come p pw r W n e S hrr k =>
    subst e
    obtain⟨dx,hp⟩:=S.ob
    obtain⟨dxw,hpw⟩:=S.wo.ob
    refine⟨_,rfl,rfl,_,rfl,?_⟩
    rw[nstr' (by decide +kernel)]
    refine iteF ⟨_,rfl,rfl,_,rfl,?_⟩
    rw[nstr' (by decide +kernel)]
    refine iteF ⟨_,rfl,rfl,_,rfl,?_⟩
    rw[nstr' (by decide +kernel)]
    refine iteF ⟨_,rfl,rfl,_,rfl,?_⟩
    rw[nstr' (by decide +kernel)]
    refine iteF ⟨_,rfl,p,CD,dx,_,_,rfl,hp,TK.cl,TK.nW,df_world,pw,dxw,_,rfl,hpw,wf_no W (by decide +kernel),_,rfl,r,_,0,_,rfl,rfl,SqL.of hrr,rfl,?_⟩
    obtain⟨p',n',W',e',S',k⟩:=k
    refine⟨p',n',W',e',S',k.imp id ?_⟩
    rintro⟨l1,l2,t,m,h,g,tb,wt,q,G,G',q1,q2,q3,q4,q5,q6,q7,k⟩
    refine⟨l1,l2,t,m,h,g,tb,wt,q,G,G',q1,q2,q3,q4,q5,q6,q7,fun x H' a1 a2 a3=>?_⟩
    obtain⟨l,el,hl,kq⟩:=k x H' a1 a2 a3
    obtain rfl:=V.ref.inj el
    refine⟨x,rfl,⟨_,SqL.of hl⟩,fun p hp=>?_⟩
    exact comp_list (xs:=[]) (tt:=fun _ H Q=>Q true H) (te:=teStr) (caps:=[]) (fun i ys H2=>H2=upd H' p (.lst [])∧ys=[]) ⟨rfl,rfl⟩ (fun i ys H2 _ h=>by rw[h.1,h.2];exact⟨SqL.of (same_new hp _ _ hl),upd_same⟩) (fun i x ys H2 N hx=>by simp at hx) fun ys H2 h=>by
      obtain⟨rfl,rfl⟩:=h
      exact⟨p,[],rfl,upd_same,by simp,by simp,kq _ (same_new hp)⟩
end
end K53
namespace K53
open PySem L2 FX
set_option linter.all false
theorem cut_from(xs:List V)(k:Nat):cutV xs (some (k:Int)) none=xs.drop k:=by
  unfold cutV HT.sIx
  rw[List.take_of_length_le]
  · by_cases h:k≤xs.length
    · congr 1
      simp
      lia
    · rw[List.drop_of_length_le (by simp;lia),List.drop_of_length_le (by lia)]
  · rw[List.length_drop]
    simp
theorem cut_to(xs:List V)(k:Nat):cutV xs none (some (k:Int))=xs.take k:=by
  unfold cutV HT.sIx
  simp
  split<;>omega
def mvL:List V:=[.str "hold",.str "drop",.str "take",.str "free"]
def acL:List V:=[.str "make",.str "send",.str "ask",.str "clean",.str "come"]
section
variable {P:Program}{w:World}{K:PySem.W.Frag}{mg:Str→Option Value}{base:Heap}{NR FA CD CW C CP CI NH NI NL NHd NNr MI NW:Addr}
inductive spSay(CD CW C CP NH NHd NNr NL NI MI NR:Addr)(K:PySem.W.Frag)(vs:List V)(H:Hp)(Q:VK)(E:XK):Prop
  | bad (p:Addr) (z:Str) (_:vs=[.ref p,.str z]) (_:z.length≤1000) (_:BadR z) (_:∀H',Same H H'→E (.ref NR) none H')
  | good (p:Addr) (z v:Str) (ws:List Str) (as:List FX.Arg) (_:vs=[.ref p,.str z]) (_:z.length≤1000) (_:∃dx fs,H p=some (.ins CD dx fs)∧fs.lookup ("move":Str)=none∧fs.lookup ("act":Str)=none∧fs.lookup ("look":Str)=none) (_:Txt.split z " "=v::ws) (_:rdWords v ws=some as)
    (_:∀r xs H1,Same H H1→H1 r=some (.lst xs)→Paired (ArgAt H1) xs as→(inV (.str v) mvL=true→spMove CD CW C CP NH NHd NNr [.ref p,.str v,.ref r] H1 (fun _ H'=>Q (.str "ok") H') E)∧(inV (.str v) mvL=false→inV (.str v) acL=true→spAct CD CW C CP NH NHd NL K [.ref p,.str v,.ref r] H1 Q E)∧(inV (.str v) mvL=false→inV (.str v) acL=false→spLook CD CW C CP NH NI MI K [.ref p,.str v,.ref r] H1 Q E))
theorem scSay:FnScope ["self","row","words","verb","given"] ["self","row"] (defScope sSay):=⟨rfl,rfl,rfl,by decide +kernel,rfl,by decide +kernel,by decide +kernel⟩
theorem ok_say{f f1 f2 f3 f4:Addr}{fd d1 d2 d3 d4:FuncData}(F:Fun K "say" "Desk.say" sSay f fd)(TK:TxtK K mg CD)(M1:Gdf K mg "read_words" sReadWords ["verb","words"] f1 d1)(G1:FnOk P w K mg base (CX1 P w) 3 f1 d1 ["verb","words"] (spReadWords NR))(M2:Mth K CD "move" "Desk.move" sMove ["self","verb","given"] f2 d2)(G2:FnOk P w K mg base (CX1 P w) 5 f2 d2 ["self","verb","given"] (spMove CD CW C CP NH NHd NNr))(M3:Mth K CD "act" "Desk.act" sAct ["self","verb","given"] f3 d3)(G3:FnOk P w K mg base (CX1 P w) 5 f3 d3 ["self","verb","given"] (spAct CD CW C CP NH NHd NL K))(M4:Mth K CD "look" "Desk.look" sLookD ["self","verb","given"] f4 d4)(G4:FnOk P w K mg base (CX1 P w) 5 f4 d4 ["self","verb","given"] (spLook CD CW C CP NH NI MI K)):FnOk P w K mg base (CX1 P w) 6 f fd ["self","row"] (spSay CD CW C CP NH NHd NNr NL NI MI NR K):=by
  refine ok12 F scSay fun vs H Q E h=>?_
  refine⟨by cases h<;>(subst_vars;rfl),fun cdv A outer s hr=>?_⟩
  have hr3:Room 3 _:=hr.mono (by decide)
  refine⟨_,pss_cons (ps_set (i:=2) scSay.nd rfl (Or.inl rfl) (pe_bm PySem.F.plainAttrs_str PySem.F.slot_str_split PySem.F.type_str_split mt_split (pv 1) (pa_cons pe_str pa_nil)))
    (pss_cons (ps_set (i:=3) scSay.nd rfl (Or.inl rfl) (pe_ix ix_list (pv 2) pe_int (fun _ _=>rfl)))
    (pss_cons (ps_set (i:=4) scSay.nd rfl (Or.inl rfl) (pe_call G1 hr3 rfl M1.mg M1.fn.kp M1.bd .nil pass1 (pa_cons (pv 3) (pa_cons (pe_slice sl_list (pv 2) (po_some pe_int) po_none) pa_nil))))
    (pss_cons (ps_if (pt_cmpR op_in_seq (pv 3) (pe_tup (pa_cons pe_str (pa_cons pe_str (pa_cons pe_str (pa_cons pe_str pa_nil))))) rfl) (pss_cons (ps_expr (pe_meth (pl:=_) (pv 0) TK.cl M2.mt G2 hr M2.bd .nil pass1 (pa_cons (pv 3) (pa_cons (pv 4) pa_nil)))) (pss_one (ps_ret pe_str))) pss_nil)
    (pss_cons (ps_if (pt_cmpR op_in_seq (pv 3) (pe_tup (pa_cons pe_str (pa_cons pe_str (pa_cons pe_str (pa_cons pe_str (pa_cons pe_str pa_nil)))))) rfl) (pss_one (ps_ret (pe_meth (pl:=_) (pv 0) TK.cl M3.mt G3 hr M3.bd .nil pass1 (pa_cons (pv 3) (pa_cons (pv 4) pa_nil))))) pss_nil)
    (pss_one (ps_ret (pe_meth (pl:=_) (pv 0) TK.cl M4.mt G4 hr M4.bd .nil pass1 (pa_cons (pv 3) (pa_cons (pv 4) pa_nil))))))))),?_⟩
  have hs0:sizeLine=16777216:=sizeLine_eq
  have wl:∀{z:Str},z.length≤1000→∀y∈Txt.split z " ",y.length≤1000:=fun hz y hy=>Nat.le_trans (PyProof.Rows.part_short hy) hz
  cases h with
  | bad p z e hz hb kE =>
    subst e
    obtain⟨v,ws,e⟩:=List.exists_cons_of_ne_nil (split_ne z " ")
    refine⟨_,rfl,rfl,z," ",rfl,rfl,rfl,by lia,fun l hl=>?_⟩
    have s1:=same_new (o:=.lst ((Txt.split z " ").map V.str)) hl
    have w0:=wl hz
    rw[e] at s1 w0 ⊢
    refine⟨_,rfl,l,_,0,_,rfl,rfl,SqL.of upd_same,atI_at (Int.le_refl 0) rfl,?_⟩
    refine⟨_,rfl,_,rfl,1,rfl,l,_,rfl,SqL.of upd_same,fun q hq=>?_⟩
    rw[show(1:Int)=((1:Nat):Int) from rfl,cut_from]
    have s2:=same_new (o:=.lst (ws.map V.str)) hq
    refine⟨v,q,ws,rfl,upd_same,fun y hy=>w0 y (ZD _ hy),fun _ H' s3=>kE H' (same_trans s1 (same_trans s2 s3)),fun as ha=>?_⟩
    rw[hb v ws e] at ha;cases ha
  | good p z v ws as e hz hob es ra k =>
    subst e
    obtain⟨dx,fs,hp,n1,n2,n3⟩:=hob
    refine⟨_,rfl,rfl,z," ",rfl,rfl,rfl,by lia,fun l hl=>?_⟩
    have s1:=same_new (o:=.lst ((Txt.split z " ").map V.str)) hl
    have w0:=wl hz
    rw[es] at s1 w0 ⊢
    refine⟨_,rfl,l,_,0,_,rfl,rfl,SqL.of upd_same,atI_at (Int.le_refl 0) rfl,?_⟩
    refine⟨_,rfl,_,rfl,1,rfl,l,_,rfl,SqL.of upd_same,fun q hq=>?_⟩
    rw[show(1:Int)=((1:Nat):Int) from rfl,cut_from]
    have s2:=same_new (o:=.lst (ws.map V.str)) hq
    refine⟨v,q,ws,rfl,upd_same,fun y hy=>w0 y (ZD _ hy),(fun e=>by rw[ra] at e;cases e),fun as' ha r xs H1 s3 hr1 pa=>?_⟩
    rw[ra] at ha
    cases ha
    have s4:=same_trans s1 (same_trans s2 s3)
    refine⟨_,rfl,(by show 4≤sizeLine;decide),fun t ht=>⟨t,mvL,rfl,.inr (SqT.of upd_same),rfl,rfl,_,rfl,?_⟩⟩
    have s5:=same_new (o:=.tup mvL) ht
    obtain⟨k1,k2,k3⟩:=k r xs _ (same_trans s4 s5) (s5 _ _ hr1) (paired_mono (fun _ _ z=>z.same s5) pa)
    show if inV (V.str v) mvL=true then _ else _
    cases c:inV (V.str v) mvL with
    | true=>exact iteT ⟨_,rfl,p,dx,_,rfl,s5 _ _ (s4 _ _ hp),n1,_,rfl,_,rfl,k1 c⟩
    | false =>
      refine iteF ⟨_,rfl,(by show 5≤sizeLine;decide),fun t2 ht2=>⟨t2,acL,rfl,.inr (SqT.of upd_same),rfl,rfl,_,rfl,?_⟩⟩
      have s6:=same_new (o:=.tup acL) ht2
      obtain⟨k1,k2,k3⟩:=k r xs _ (same_trans s4 (same_trans s5 s6)) (s6 _ _ (s5 _ _ hr1)) (paired_mono (fun _ _ z=>z.same (same_trans s5 s6)) pa)
      show if inV (V.str v) acL=true then _ else _
      cases c2:inV (V.str v) acL with
      | true=>exact iteT ⟨_,rfl,p,dx,_,rfl,s6 _ _ (s5 _ _ (s4 _ _ hp)),n2,_,rfl,_,rfl,k2 c c2⟩
      | false=>exact iteF ⟨_,rfl,p,dx,_,rfl,s6 _ _ (s5 _ _ (s4 _ _ hp)),n3,_,rfl,_,rfl,k3 c c2⟩
end
end K53
namespace FX
open PySem PySem.Spec PyProof.Rows L2
theorem entry_unchain:entryFor table "proto.unchain"=some Builtin.«proto.unchain»:=entryFor_of_tree (by kernel_rfl)
section
variable {prog:Program}{w:World}{A:Around}{E:Value→Shared→Prop}{s:Shared}
theorem list_endH{it l ex:Addr}{i:Nat}{items:Array Value}{oe:Obj}{vs:Array Value}{Q:Option Value→Shared→Prop}(hh:A.handled=some (.ref ex))(hx1:s.heap.get? ex=some oe)(hx2:oe.data=.fields vs)(hx3:vs[2]?=some .none)(hne:ex≠it)(hit:s.heap.IsListIter it l i)(hl:s.heap.IsList l items)(hx:items[i]?=none)(hQ:∀h',Heap.ExtBut it s.heap h'→Q none { s with heap:=h' }):wpAny (model prog w) A (pyNext (.ref it)) Q E s:=by
  obtain⟨o,ho,hc,hd⟩:=id hit
  obtain⟨ol,hol,_,nl,hdl⟩:=hl
  refine wpAny_bind (wpAny_attempt (wpAny_callSpecial?_slot (name:=Str.ofString "__next__") hit.typeIs slot_listiter_next (wpAny_call_entry slot_listiter_next hit.typeIs entry_listiter_next ?_ (args_listiter_next _))))
  show wpAny _ _ (field (.ref it) 0 >>= _) _ _ s
  refine wpAny_bind (wpAny_field ho hd (x:=.ref l) rfl ?_)
  show wpAny _ _ (ite ((Value.ref l==Value.none)=true) _ _) _ _ s
  rw[if_neg (show ¬((Value.ref l==Value.none)=true) from Bool.false_ne_true)]
  show wpAny _ _ (field (.ref it) 1 >>= _) _ _ s
  refine wpAny_bind (wpAny_field ho hd (x:=.int i 0) rfl (wpAny_bind (wpAny_seqItems hol hdl ?_)))
  simp only[Int.toNat_natCast,hx]
  refine wpAny_bind (wpAny_rule (wpAny_bind (wpAny_setField ho hd (by simp) (wpAny_bind ?_))))
  simp only[newExc,newTuple]
  refine wpAny_bind (wpAny_newObj_type (wpAny_bind (m:=firstArgMember _ _) (wpAny_of_eq (a:=Value.none) (by first|rfl|(simp only[firstArgMember];rfl)) (wpAny_newObj_type ?_ (by size_fits)))) (by size_fits))
  simp only[raiseNew]
  refine wpAny_bind (wpAny_handled ?_)
  rw[show A.in1.handled=some (.ref ex) from hh]
  obtain⟨h2,eh2⟩:∃h2,h2=(s.heap.update it (Obj.mapFields fun x=>x.setIfInBounds 0 Value.none)).push { cls:=Value.type "tuple",data:=Data.seq #[] }:=⟨_,rfl⟩
  have eb2:Heap.ExtBut it s.heap h2:=by rw[eh2];exact(Heap.SameBut.update ..).extBut.push _
  rw[←eh2]
  have x2:h2.get? ex=some oe:=eb2 ex oe hne hx1
  have nx:ex≠h2.objs.size:=Nat.ne_of_lt (Heap.lt_size x2)
  obtain⟨vn,evn⟩:∃vn,vn=(#[Value.ref (s.heap.update it (Obj.mapFields fun x=>x.setIfInBounds 0 Value.none)).objs.size,Value.none,Value.none,Value.none,Value.bool false,Value.none]++ownMembersOf (Value.type "StopIteration") []):=⟨_,rfl⟩
  have vn2:2<vn.size:=by rw[evn,Array.size_append];exact Nat.lt_of_lt_of_le (show 2<6 by decide) (Nat.le_add_right 6 _)
  rw[←evn]
  show wpAny _ _ (ite ((Value.ref ex != Value.ref h2.objs.size)=true) _ _) _ _ _
  rw[if_pos (by simp[bne_iff_ne,nx])]
  have x3:=Heap.get?_push_of_some { cls:=Value.type "StopIteration",data:=Data.fields vn } x2
  have y3:(h2.push { cls:=Value.type "StopIteration",data:=Data.fields vn }).get? h2.objs.size=some { cls:=Value.type "StopIteration",data:=Data.fields vn }:=Heap.get?_push_size _ rfl
  refine wpAny_bind (wpAny_holding (runValue_entry entry_unchain ?_))
  refine wpAny_bind (m:=field (.ref ex) 2) (wpAny_field x3 hx2 hx3 ?_)
  refine wpAny_pure ⟨_,rfl,wpAny_bind (wpAny_setField (a:=h2.objs.size) y3 rfl vn2 (wpAny_throw ?_))⟩
  refine wpAny_bind (wpAny_isInstance (T:="StopIteration") (b:=true) ⟨_,Heap.get?_update_self _ y3 rfl,rfl⟩ isSubtype_stop ?_)
  refine wpAny_pure (hQ _ fun b o' hb e=>?_)
  have e2:=eb2 b o' hb e
  exact((Heap.SameBut.update ..).2 b (Nat.ne_of_lt (Heap.lt_size e2))).trans (Heap.get?_push_of_some _ e2)
end
structure TurnH(ex:Addr)(P:Program)(w:World)(K:PySem.W.Frag)(tg:Expr)(J:It)(fp:List Addr)(it:Addr)(tn:Nat→Heap→Prop):Prop where
  mem:it∈fp
  obj:∀i h,tn i h→∀b∈fp,∃o,h.get? b=some o∧∀v,o.data≠.cell v
  keep:∀i h h',tn i h→(∀b∈fp,∀o,h.get? b=some o→h'.get? b=some o)→tn i h'
  item:∀(X:Cx),X.prog=P→X.w=w→X.K=K→X.A.handled=some (.ref ex)→∀(i:Nat)(pins:List (Addr×Obj))(s:Shared)(σ:L2.St)(H:Hp)(E:Value→Shared→Prop),Inv X pins σ H s→(∀b∈fp,FpOk X pins H b)→tn i s.heap→J.go i H →
    wpAny (model P w) X.A (pyNext (.ref it)) (fun r s1=>∃u,r=some u ∧
      wpAny (model P w) X.A (letOwnedTupleGo tg (.ref it) u) (fun _ s2=>∃x H',Inv X pins σ H' s2∧RelV x u∧J.yld i H x H'∧tn (i+1) s2.heap∧∀b∈fp,H' b=none) E s1) E s
  done:∀(X:Cx),X.prog=P→X.w=w→X.K=K→X.A.handled=some (.ref ex)→∀(i:Nat)(pins:List (Addr×Obj))(s:Shared)(σ:L2.St)(H:Hp)(E:Value→Shared→Prop),Inv X pins σ H s→(∀b∈fp,FpOk X pins H b)→tn i s.heap→J.stop i H →
    wpAny (model P w) X.A (pyNext (.ref it)) (fun r s1=>r=none∧Inv X pins σ H s1) E s
  self:∀(A:Around)(i:Nat)(s:Shared)(Q:Value→Shared→Prop)(E:Value→Shared→Prop),tn i s.heap→Q (.ref it) s→wpAny (model P w) A (pyIter (.ref it)) Q E s
inductive PIEH(ex:Addr)(X:Cx)(pins:List (Addr×Obj))(σ:L2.St)(tg:Expr)(R:It→Hp→Prop)(itv:Value)(s2:Shared):Prop
  | mk (it:Addr) (fp:List Addr) (tn:Nat→Heap→Prop) (J:It) (H':Hp) (_:itv=.ref it) (_:Inv X pins σ H' s2) (_:TurnH ex X.prog X.w X.K tg J fp it tn) (_:tn 0 s2.heap) (_:(∀b∈fp,FpOk X pins H' b)) (_:R J H')
def PIH(ex:Addr)(X:Cx)(tg iter:Expr)(wi:TI):Prop :=
  ∀(pins:List (Addr×Obj))(s:Shared)(σ:L2.St)(H:Hp)(R:It→Hp→Prop),Inv X pins σ H s→wi σ H R →
    wpAny (model X.prog X.w) X.A (eval iter X.env) (fun v s1=>wpAny (model X.prog X.w) X.A (pyIter v) (PIEH ex X pins σ tg R) X.xe s1) X.xe s
def ItlH(ex:Addr)(K:PySem.W.Frag)(a:Addr):It:=⟨(Itl K a).go,(Itl K a).yld,fun i H=>(∃xs,SqL K H a xs∧xs.length≤i)∧∃C,H ex=some (excO ex C)⟩
theorem turn_listH{ex:Addr}{P:Program}{w:World}{K:PySem.W.Frag}{tg:Expr}(a it:Addr):TurnH ex P w K tg (ItlH ex K a) [it] it (fun i h=>h.IsListIter it a i) where
  mem:=by simp
  obj:=fun i h st b hb=>by
    have e:b=it:=by simpa using hb
    subst e
    obtain⟨o,e,c,d⟩:=st
    exact⟨o,e,fun v z=>by rw[d] at z;cases z⟩
  keep:=fun i h h' st k=>st.at fun o e=>k it (by simp) o e
  item:=by
    intro X hP hw hK hc i pins s σ H E I hf st hg
    subst hP hw hK
    obtain⟨xs,x,hq,hx⟩:=hg
    obtain⟨its,rv,p,hz⟩:=I.list hq
    obtain⟨u,hu,ru⟩:=rv.get hx
    obtain⟨f0,f1,f2,f3,f4,f5⟩:=hf it (by simp)
    refine wpAny_pyNext_list_item st p.isList (x:=u) (by simpa using hu) fun h' st' sb=>?_
    have I1:Inv X pins σ H { s with heap:=h' }:=I.turned (t':=s.toks) (fun b o hb e=>(sb.2 b hb).trans e) f0 f1 f3 f4 f5
    obtain⟨o,e,c,d⟩:=id st'
    exact⟨u,rfl,go_of (s:={ s with heap:=h' }) e c d (by decide) ⟨x,H,I1,ru,⟨rfl,fun ys hy=>by rw[I.list_inj hy hq];exact hx⟩,st',fun b hb=>(hf b hb).1⟩⟩
  done:=by
    intro X hP hw hK hc i pins s σ H E I hf st hg
    subst hP hw hK
    obtain⟨⟨xs,hq,hx⟩,C,hC⟩:=hg
    obtain⟨its,rv,p,hz⟩:=I.list hq
    obtain⟨f0,f1,f2,f3,f4,f5⟩:=hf it (by simp)
    have hl:=rv.length
    obtain⟨o,vs,g1,g2,g3,g4⟩:=(I.hok ex _ hC).1
    exact list_endH hc g1 g3 g4 (fun z=>by rw[z,f0] at hC;cases hC) st p.isList (by simp;lia) fun h' eb=>⟨rfl,I.turned (t':=s.toks) (fun b o hb e=>eb b o hb e) f0 f1 f3 f4 f5⟩
  self:=fun _ _ _ _ _ st h=>wpAny_pyIter_listiter st h
def iListH(ex:Addr)(K:PySem.W.Frag)(tl:TE):TI:=fun σ H R=>tl σ H fun x H1=>∃a,x=.ref a∧(∃xs,SqL K H1 a xs)∧R (ItlH ex K a) H1
theorem pi_listH{ex:Addr}{X:Cx}{tg l:Expr}{tl:TE}(hl:PE X l tl):PIH ex X tg l (iListH ex X.K tl):=by
  intro pins s σ H R I h
  refine thn (hl pins s σ H _ I h) ?_
  rintro v s1 ⟨x,H1,I1,r1,q1⟩
  obtain⟨a,e,⟨xs,hq⟩,q⟩:=q1
  subst e
  cases r1
  obtain⟨its,rv,p,hz⟩:=I1.list hq
  refine wpAny_pyIter_list p.isList ?_
  refine⟨s1.heap.objs.size,[s1.heap.objs.size],_,_,H1,rfl,I1.kept (t':=s1.toks) fun b o e=>Heap.get?_push_of_some _ e,turn_listH a _,⟨_,Heap.get?_push_size _ rfl,rfl,rfl⟩,fun b hb=>?_,q⟩
  have e:b=s1.heap.objs.size:=by simpa using hb
  subst e
  exact I1.fpOk (ZG _) (I1.hok.fresh (ZG _))
section
variable {exx:Addr}{X:Cx}{elt iter:Expr}{x:Str}{px pos:Pos}{ifs:List Expr}{sc:Scope}{cl:List (Str×Addr)}{caps:List (Str×Nat)}{wi:TI}{tt:TT}{te:TE}
theorem comp_coreH{pins:List (Addr×Obj)}{σ:L2.St}{H:Hp}{s:Shared}{Q:VK}{use:Option (Value→Sem Unit)}{RQ:Value→Shared→Prop}(hc:X.A.handled=some (.ref exx))(hi:PIH exx X (.Name x px) iter wi)(hclos:closureFor sc X.env=pure cl)(hcell:∀y∈sc.names,y.2≠.cell)(hkind:sc.kind=.function)(hnames:∀y∈sc.names,y.2=.local→sc.names.lookup y.1=some .local)(hx:sc.names.lookup x=some .local)(hin:InCells X.env.cells cl)(has:∀y,((relabel sc X.env).names.lookup y=some .cell∨(relabel sc X.env).names.lookup y=some .free)→∃c,cl.lookup y=some c)(hcap:CapsOk X sc cl caps)(hN:(x::capn caps).Nodup)(ht:∀C s1 H1 fp pins,PTs (blk X sc cl C (x::capn caps) s1 H1 fp pins) ifs tt)(he:∀C s1 H1 fp pins,PE (blk X sc cl C (x::capn caps) s1 H1 fp pins) elt te)(I:Inv X pins σ H s)(h:tComp wi caps tt te σ H Q)(fin:∀(C D:Addr) (H':Hp) (s1 s':Shared) (H1:Hp),C=s1.heap.objs.size→Inv X pins σ H1 s1→Inv X pins σ H' s'→H' C=none→(∃m,s'.heap.Ns C m)→Q (.ref D) H'→compPost (model X.prog X.w) X.A X.xe use RQ (.ref D) C (.ok .next) s')(hs:∀v,foldedSetIterable iter X.env v=pure v) :
    wpAny (model X.prog X.w) X.A (comprehension (.ListComp elt [⟨.Name x px,iter,ifs,0⟩] sc pos) sc X.env (firstIterPos [⟨.Name x px,iter,ifs,0⟩] pos) (newList []) false (eval iter X.env) use) RQ X.xe s:=by
  refine wpAny_comprehension_free rfl hs hclos hkind hnames (thn (hi pins s σ H _ I h) fun v s1 h1=>thn h1 fun itv s2 h2=>?_)
  obtain⟨it,fp,tn,J,H2,e,I2,T,st2,f2,hW⟩:=h2
  subst e
  refine wpAny_newObj_type ?_
  have hfresh:H2 s2.heap.objs.size=none:=I2.hok.fresh (ZG _)
  have I3:Inv X pins σ (upd H2 s2.heap.objs.size (.lst [])) { s2 with heap:=s2.heap.push { cls:=.type "list",dict:=none,data:=.seq ([]:List Value).toArray } }:=I2.lnew (t':=s2.toks) (its:=[]) .nil (Nat.zero_le _)
  obtain⟨W,⟨m0,w0⟩,turn⟩:=hW s2.heap.objs.size hfresh
  have fpn:∀b∈fp,b≠s2.heap.objs.size:=fun b hb z=>by
    obtain⟨o,e,_⟩:=T.obj 0 _ st2 b hb
    exact absurd (Heap.lt_size e) (by rw[z];exact Nat.lt_irrefl _)
  have f3:∀b∈fp,FpOk X pins (upd H2 s2.heap.objs.size (.lst [])) b:=fun b hb=>⟨by rw[upd_ne (fpn b hb)];exact(f2 b hb).1,(f2 b hb).2⟩
  have st3:tn 0 (s2.heap.push { cls:=.type "list",dict:=none,data:=.seq ([]:List Value).toArray }):=T.keep 0 _ _ st2 fun b hb o e=>Heap.get?_push_of_some _ e
  obtain⟨D,hD⟩:∃D,D=s2.heap.objs.size:=⟨_,rfl⟩
  obtain⟨H3,hH3⟩:∃H3,H3=upd H2 s2.heap.objs.size (.lst []):=⟨_,rfl⟩
  obtain⟨s3,hs3⟩:∃s3:Shared,s3={ s2 with heap:=s2.heap.push { cls:=.type "list",dict:=none,data:=.seq ([]:List Value).toArray } }:=⟨_,rfl⟩
  have st3':tn 0 s3.heap:=by rw[hs3];exact st3
  rw[←hH3] at I3 f3 w0
  rw[←hs3] at I3
  rw[←hD] at turn
  show wpAny _ _ _ _ _ ({ s2 with heap:=s2.heap.push { cls:=.type "list",dict:=none,data:=.seq ([]:List Value).toArray } }:Shared)
  rw[←hs3,←hD]
  refine wpAny_newFunctionEnv hcell (by intro y hy;simp at hy) (fun h1 hn1 hs1=>?_) hkind
  have ok:=blk_ok (N:=x::capn caps) I3 f3 (fun b hb=>let⟨o,e,_⟩:=T.obj 0 _ st3' b hb;⟨o,e⟩) hkind hin has
  have hx':(relabel sc X.env).names.lookup x=some .local:=lookup_relabel_local hx
  have J4:=blk_in (t':=s3.toks+([]:List (Str×Value)).length) I3 ok hin hcap hx' hn1 hs1
  have st4:tn 0 h1:=T.keep 0 _ _ st3' fun b hb o e=>(hs1.2 b (Nat.ne_of_lt (Heap.lt_size e))).trans (Heap.get?_push_of_some _ e)
  have stat:∀{H':Hp},(∀b∈fp,H' b=none)→∀b∈fp,FpOk (blk X sc cl s3.heap.objs.size (x::capn caps) s3 H3 fp pins) [] H' b:=fun hn b hb=>by
    refine⟨hn b hb,?_,fun z=>ok.exfs b hb z,.inl hb,fun y c e=>(f3 b hb).2.2.2.2.1 y c (hin.look e),fun p hp=>?_⟩
    · exact(ok.exf b hb).1
    · have hp':p∈(X.pn++pins)++[]:=hp
      rw[List.append_nil] at hp'
      exact(f3 b hb).2.2.2.2.2 p hp'
  have loop:∀s4:Shared,s4={ s3 with heap:=h1,toks:=s3.toks+([]:List (Str×Value)).length } →
      codeAny (model X.prog X.w) X.A (.compLoop (.ListComp elt [⟨.Name x px,iter,ifs,0⟩] sc pos) 0 (.ref it) (.ref D) (compEnvC sc cl s3.heap.objs.size X.env)) (compPost (model X.prog X.w) X.A X.xe use RQ (.ref D) s3.heap.objs.size) s4:=by
    rintro s4 rfl
    refine comp_loop (fun k s'=>∃i v0 ys H',Inv (blk X sc cl s3.heap.objs.size (x::capn caps) s3 H3 fp pins) [] (v0::capv σ caps) H' s'∧tn i s'.heap∧(∀b∈fp,H' b=none)∧W i k ys H') ?_ m0
      ⟨0,none,[],H3,J4,st4,fun b hb=>(f3 b hb).1,w0⟩
    rintro k s5 ⟨i,v0,ys,H5,I5,st5,fr5,w5⟩
    obtain⟨hD5,stop|⟨go,step⟩⟩:=turn i k ys H5 w5
    · obtain⟨stop,q⟩:=stop
      refine thn (T.done (blk X sc cl s3.heap.objs.size (x::capn caps) s3 H3 fp pins) rfl rfl rfl hc i [] s5 _ H5 (fun _ _=>False) I5 (stat fr5) st5 stop) ?_
      rintro r s6 ⟨hr,I6⟩
      subst hr
      obtain⟨mm,hnn,_⟩:=I6.loc
      exact fin _ D H5 s3 s6 H3 rfl I3 (blk_out I3 f3 I6) I6.free ⟨mm,hnn⟩ q
    · refine thn (T.item (blk X sc cl s3.heap.objs.size (x::capn caps) s3 H3 fp pins) rfl rfl rfl hc i [] s5 _ H5 (fun _ _=>False) I5 (stat fr5) st5 go) ?_
      rintro r s6 ⟨u,hr,h6⟩
      subst hr
      refine thn h6 ?_
      rintro _ s7 ⟨y,H7,I7,r7,y7,st7,fr7⟩
      have I7':=I7.pinned (stat fr7) (T.obj _ _ st7)
      refine thn (pg_name (X:=blk X sc cl s3.heap.objs.size (x::capn caps) s3 H3 fp pins) (i:=0) hN rfl (.inl hx') (.inr hx') _ s7 (v0::capv σ caps) H7 y u (fun σ' H'=>σ'=some y::capv σ caps∧H'=H7) I7' r7 ⟨rfl,rfl⟩) ?_
      rintro _ s8 ⟨σ8,H8,I8,e8,e8'⟩
      subst e8
      subst e8'
      have back:∀{σ9:L2.St} {H9:Hp} {s9:Shared},Inv (blk X sc cl s3.heap.objs.size (x::capn caps) s3 H3 fp pins) ([]++pinsAt fp s7.heap) σ9 H9 s9→tn (i+1) s9.heap∧∀b∈fp,H9 b=none:=fun{σ9 H9 s9} I9=>by
        refine⟨T.keep _ _ _ st7 fun b hb o e=>(I9.pin (b,o) (ZC _ (ZC _ (mem_pinsAt hb e)))).1,fun b hb=>?_⟩
        obtain⟨o,e,d⟩:=T.obj _ _ st7 b hb
        exact(I9.pin (b,o) (ZC _ (ZC _ (mem_pinsAt hb e)))).2.1
      refine thn (ht _ _ _ _ _ _ s8 _ _ _ I8 (step y _ y7)) ?_
      rintro ok s9 ⟨H9,I9,q9⟩
      cases ok with
      | false =>
        simp only[Bool.false_eq_true,if_false] at q9 ⊢
        obtain⟨m',hm,w9⟩:=q9
        exact⟨m',hm,i+1,some y,ys,H9,I9.unpinned,(back I9).1,(back I9).2,w9⟩
      | true =>
        simp only[if_true] at q9 ⊢
        refine thn (he _ _ _ _ _ _ s9 _ _ _ I9 q9) ?_
        rintro xv s10 ⟨v,H10,I10,r10,hD10,hlt,m',hm,w10⟩
        refine thn (mt_append (X:=blk X sc cl s3.heap.objs.size (x::capn caps) s3 H3 fp pins) _ s10 _ H10 (.ref D) [v] (.ref D) [xv] (fun _ H'=>H'=upd H10 D (.lst (ys++[v]))) I10 rfl (.cons r10 .nil) ⟨D,ys,v,rfl,rfl,hD10,hlt,rfl⟩) ?_
        rintro _ s11 ⟨_,H11,I11,_,e11⟩
        subst e11
        exact⟨m',hm,i+1,some y,ys++[v],_,I11.unpinned,(back I11).1,(back I11).2,w10⟩
  exact codeAny_compStart_list (loop _ rfl) (T.self _ 0 _ _ _ st4 (loop _ rfl))
theorem pe_compH(hc:X.A.handled=some (.ref exx))(hi:PIH exx X (.Name x px) iter wi)(hclos:closureFor sc X.env=pure cl)(hcell:∀y∈sc.names,y.2≠.cell)(hkind:sc.kind=.function)(hnames:∀y∈sc.names,y.2=.local→sc.names.lookup y.1=some .local)(hx:sc.names.lookup x=some .local)(hin:InCells X.env.cells cl)(has:∀y,((relabel sc X.env).names.lookup y=some .cell∨(relabel sc X.env).names.lookup y=some .free)→∃c,cl.lookup y=some c)(hcap:CapsOk X sc cl caps)(hN:(x::capn caps).Nodup)(ht:∀C s1 H1 fp pins,PTs (blk X sc cl C (x::capn caps) s1 H1 fp pins) ifs tt)(he:∀C s1 H1 fp pins,PE (blk X sc cl C (x::capn caps) s1 H1 fp pins) elt te)(hs:∀v,foldedSetIterable iter X.env v=pure v:=by intro _;rfl):PE X (.ListComp elt [⟨.Name x px,iter,ifs,0⟩] sc pos) (tComp wi caps tt te):=by
  intro pins s σ H Q I h
  rw[eval_ListComp]
  refine comp_coreH (use:=none) hc hi hclos hcell hkind hnames hx hin has hcap hN ht he I h (fun C D H' s1 s' H1 hC I1 I' hn ⟨m,hm⟩ q=>?_) hs
  subst hC
  exact⟨m,hm,fun h' hs'=>⟨.ref D,H',blk_let (s':=s') I1 I' hn hs',rfl,q⟩⟩
end
structure FnOkH(P:Program)(w:World)(K:PySem.W.Frag)(mg:Str→Option Value)(base:Heap)(k:Nat)(f:Addr)(fd:FuncData)(ps:List Str)(sp:Addr→List V→Hp→VK→Prop):Prop where
  len:∀ex vs H Q,sp ex vs H Q→vs.length=ps.length
  run:∀(ex:Addr)(A:Around)(outer:List Env)(s:Shared)(H:Hp)(args:Args)(us:List Value)(vs:List V)(Q:VK),Room k A→Env0 P w K mg base A outer s H→BindsTo s fd args (ps.zip us)→Vals vs us→sp ex vs H Q →
    codeAny (model P w) (A.mark (some (.ref ex))) (.call (.ref f) args) (CR CX0 outer P w H s Q E0) s
section
variable {P:Program}{w:World}{K:PySem.W.Frag}{mg:Str→Option Value}{base:Heap}{sp:Addr→List V→Hp→VK→Prop}
theorem fn_ofH{k:Nat}{f:Addr}{name qual:Str}{params:Arguments}{body:List Stmt}{scope:Scope}{dV kV doc pm cdv ct oc:Value}{an od:Option Addr}{osl:Array (Option Value)}{N ps:List Str}(lk:K.lookup f=some ⟨oc,od,.func (PySem.W.fnOf name qual params body scope dV kV doc pm an cdv ct),osl⟩)(hcd:PySem.W.codeIn K cdv qual=true)(S:FnScope N ps scope)(len:∀ex vs H Q,sp ex vs H Q→vs.length=ps.length)(hbody:∀(ex:Addr) (A:Around) (outer:List Env) (s:Shared) (H:Hp) (vs:List V) (Q:VK),Room k (A.deeper (envOfC qual scope s.heap.objs.size f cdv))→sp ex vs H Q →
      ∃t,PSs (inX (cxOf CX0 P w K mg base N qual scope f cdv A outer s H E0) ex) body t∧t { nx:=fun _ H'=>Q .non H',rt:=Q } (start N vs) H) :
    FnOkH P w K mg base (k+1) f (PySem.W.fnOf name qual params body scope dV kV doc pm an cdv ct) ps sp:=by
  refine⟨len,fun ex A outer s H args us vs Q hr e0 hb r hsp=>?_⟩
  have hl:=len _ _ _ _ hsp
  have KX:K.In s.heap:=e0.mod.kin.keeps fun b o e=>(e0.bs b o e).1
  have lim:s.heap.NoLimit:=e0.mod.nolimit.keeps fun b o e=>(e0.bs b o e).1
  have hkind:∀y∈ps.zip us,scope.names.lookup y.1=some .local∨(scope.names.lookup y.1=some .cell∧((cellsFrom (s.heap.objs.size+1) scope.names []).lookup y.1).isSome=true):=fun⟨n,v⟩ hy=>by
    rcases S.par n (List.of_mem_zip hy).1 with q|q
    · exact .inl q
    · exact .inr ⟨q,PySem.W.cellsFrom_some _ _ _ (.inl q)⟩
  refine codeAny_call_function hr.depth (KX _ _ lk) rfl S.co S.gen rfl (PySem.W.codeRec_of KX hcd) (hb _ _ _ _ ?_)
  refine wpAny_newFunctionEnv_cells S.kind hkind fun env he s1 x=>?_
  subst he
  refine⟨lim.keeps x.toInCall.keep,codeAny_func ?_⟩
  obtain⟨t,ht,hq⟩:=hbody ex A outer s H vs Q (hr.deeper _) hsp
  have I:Inv (inX (cxOf CX0 P w K mg base N qual scope f cdv A outer s H E0) ex) [] (start N vs) H s1:=inv_toX (inv_start S hr.hd e0 hl r x)
  refine wpAny_mono (ht [] s1 (start N vs) H _ I hq) (fun fl s' hs=>?_) fun e s' hs=>hs.elim
  have fin:∀{σ':L2.St} {H':Hp} {v:V} {u:Value},Inv (inX (cxOf CX0 P w K mg base N qual scope f cdv A outer s H E0) ex) [] σ' H' s'→RelV v u→Q v H'→CE outer P w H s Q u s' :=
    fun{σ' H' v u} J rv q=>⟨v,H',J.os,J.bare,J.base,J.hok,rv,q⟩
  cases fl with
  | ret u =>
    obtain⟨v,σ',H',J,rv,q⟩:=hs
    exact fin J rv q
  | next =>
    obtain⟨σ',H',J,q⟩:=hs
    exact fin (v:=V.non) (u:=Value.none) J rfl q
  | brk =>
    obtain⟨_,_,_,q⟩:=hs
    exact False.elim q
  | cont =>
    obtain⟨_,_,_,q⟩:=hs
    exact False.elim q
theorem Cx.Ok.ofX{Y:Cx}{ex:Addr}(ok:(inX Y ex).Ok)(h:Y.A.handled=none):Y.Ok:=⟨ok.mod,ok.kind,ok.glob,ok.blt,ok.above,ok.inj,ok.has,ok.cab,fun _=>h,ok.frames,ok.stk,ok.exf,ok.bs,ok.bsz,ok.noex,ok.exfs,ok.funs,ok.frf⟩
def tCallH(sp:Addr→List V→Hp→VK→Prop)(ex:Addr)(t:TA):TE:=fun σ H Q=>t σ H fun vs H1=>sp ex vs H1 Q
theorem pe_callH{Y:Cx}{k:Nat}{f ex:Addr}{fd:FuncData}{ps:List Str}{x:Str}{e:Expr}{es:List Expr}{t:TA}{p pos:Pos}(F:FnOkH Y.prog Y.w Y.K Y.mg Y.base k f fd ps sp)(hr:Room k Y.A)(hg:Gl (inX Y ex) x)(hm:Y.mg x=some (.ref f))(hk:PySem.W.keepIn Y.K (.ref f)=true)(hb:Binds Y.K fd ps [])(ha:PA (inX Y ex) (e::es) t)(hdb:(x==("__debug__":Str))=false:=by decide)(he:starEach (e::es) Y.env=(false,eval e Y.env)::starEach es Y.env:=by rfl)(hpl:(backTo pos (starEach es Y.env)).any (·.1)=false:=by rfl) :
    PE (inX Y ex) (.Call (.Name x p) (e::es) [] pos) (tCallH sp ex t):=by
  intro pins s σ H Q I h
  refine wpAny_Call_Name_kw (ld_glob I hg hm ?_ hdb)
  refine PySem.W.callWith_K (h₀:=Y.base) I.ok.mod.kin hk (thn (ha pos pins s σ H _ I h) fun us s1 ⟨vs,H1,I1,r,q⟩=>⟨I1.kIn,?_⟩) he hpl
  have hl:us.length=ps.length:=by rw[←r.length];exact F.len _ _ _ _ q
  refine wpAny_call (codeAny_mono (F.run ex Y.A Y.stack s1 H1 ⟨us,[]⟩ us vs Q hr (inv_ofX I1 (Cx.Ok.ofX I1.ok hr.hd)).env0 (by have:=hb s1 us I1.kIn (by rw[List.append_nil];exact hl);rwa [List.append_nil] at this) r q) fun r s' hq=>?_)
  cases r with
  | error e=>exact hq.elim
  | ok fl =>
    cases fl with
    | ret u=>exact I1.after hq
    | next=>exact False.elim hq
    | brk=>exact False.elim hq
    | cont=>exact False.elim hq
end
inductive rIndexB(x:V)(vs:List V)(H:Hp)(Q:VK):Prop
  | mk l (bs:List Bool) (n:Nat) (_:x=.ref l) (_:vs=[.bl true]) (_:H l=some (.lst (bs.map V.bl))) (_:bs.idxOf true=n) (_:n<bs.length) (_:Q (.int n) H)
theorem vals_bls:∀{bs:List Bool} {us:List Value},Vals (bs.map V.bl) us→us=bs.map Value.bool
  | [],_,.nil=>rfl
  | b::r,_,.cons e q=>by cases e;rw[vals_bls q];rfl
theorem mt_indexB{X:Cx}:MtM X "list.index" rIndexB:=by
  intro pins s σ H x vs v us Q I rx rv h
  obtain⟨l,bs,n,rfl,rfl,hH,hi,hn,q⟩:=h
  cases rx
  obtain⟨u,rfl,ru⟩:=rv.one
  cases ru
  obtain⟨z,its,k,r,hl,e⟩:=I.lstM hH
  have ei:=vals_bls r
  subst ei
  have hz:bs.length≤sizeLine:=by simpa using z
  have sz:sizeLine=16777216:=sizeLine_eq
  refine call_meets F.slot_list_index ⟨_,e,rfl⟩ F.entry_list_index (F.args_list_index_2 _ _) (PySem.SeqAt.list_indexAt l (bs.map Value.bool).toArray k none #[] (.bool true) (fun y=>y == .bool true) n (by simpa using hn) (by lia) ?_ ?_) ⟨e,?_,⟨.int n,H,I.tok _,⟨_,rfl⟩,q⟩⟩
  · subst hi
    have:=List.getElem_idxOf hn
    simp only[List.getElem_toArray,List.getElem_map,this]
    rfl
  · intro m hm hmn
    have hm':m<bs.length:=by simpa using hm
    have:=List.not_of_lt_findIdx (p:=(· == true)) (xs:=bs) (i:=m) (by rw[←hi] at hmn;exact hmn)
    simp only[List.getElem_toArray,List.getElem_map]
    cases c:bs[m] with
    | false=>rfl
    | true=>rw[c] at this;simp at this
  · intro y hy
    obtain⟨b,_,rfl⟩:∃b,b∈bs∧Value.bool b=y:=by simpa using hy
    have:=PySem.SeqAt.EqAt.bool_bool (A:=X.A.in1) (s:=s) b true
    cases b<;>exact this
theorem comp_listH{ex:Addr}{C:Addr}{K:PySem.W.Frag}{a p:Addr}{xs:List V}{tt:TT}{te:TE}{caps:List (Str×Nat)}{σ:L2.St}{H:Hp}{Q:Hp→Prop}(Pv:Nat→List V→Hp→Prop)(h0:Pv 0 [] (upd H p (.lst [])))(hl:∀i ys H2,i≤xs.length→Pv i ys H2→SqL K H2 a xs∧H2 p=some (.lst ys)∧H2 ex=some (excO ex C))(hs:∀i x ys H2 (N:List V→Hp→Prop),xs[i]?=some x→Pv i ys H2→(∀ys H,Pv (i+1) ys H→N ys H)→tt (some x::capv σ caps) H2 fun b H4 =>
      if b=true then te (some x::capv σ caps) H4 fun v H5=>H5 p=some (.lst ys)∧ys.length<sizeLine∧N (ys++[v]) (upd H5 p (.lst (ys++[v]))) else N ys H4)(hd:∀ys H2,Pv xs.length ys H2→Q H2) :
    ∃W:Nat→Nat→List V→Hp→Prop,(∃m,W 0 m [] (upd H p (.lst [])))∧∀i m ys H2,W i m ys H2→H2 p=some (.lst ys) ∧
      (((ItlH ex K a).stop i H2∧Q H2)∨((ItlH ex K a).go i H2∧∀x H3,(ItlH ex K a).yld i H2 x H3→tt (some x::capv σ caps) H3 fun b H4 =>
        if b=true then te (some x::capv σ caps) H4 fun v H5=>H5 p=some (.lst ys)∧ys.length<sizeLine∧∃m',m'<m∧W (i+1) m' (ys++[v]) (upd H5 p (.lst (ys++[v])))
        else ∃m',m'<m∧W (i+1) m' ys H4)):=by
  refine⟨fun i m ys H=>m=xs.length-i∧i≤xs.length∧Pv i ys H,⟨xs.length,by simp,Nat.zero_le _,h0⟩,?_⟩
  rintro i m ys H2 ⟨rfl,hi,pv⟩
  obtain⟨q1,q2,q3⟩:=hl i ys H2 hi pv
  refine⟨q2,?_⟩
  by_cases hlt:i<xs.length
  · refine .inr ⟨⟨xs,xs[i],q1,by simp[hlt]⟩,fun x H3 y=>?_⟩
    obtain⟨e,y⟩:=y
    subst e
    exact hs i x ys _ (fun zs H'=>∃m',m'<xs.length-i∧(m'=xs.length-(i+1)∧i+1≤xs.length∧Pv (i+1) zs H')) (y xs q1) pv fun zs H' pz=>⟨_,by lia,rfl,hlt,pz⟩
  · have e:i=xs.length:=by lia
    subst e
    exact .inl ⟨⟨⟨xs,q1,ZG _⟩,C,q3⟩,hd ys H2 pv⟩
end FX
namespace K53
open PySem L2 FX
set_option linter.all false
structure XF8(K:PySem.W.Frag)(HE NH NHd NNr MI NW NL NI NR cls:Addr)(n:Nat):Prop where
  lt:n<8
  sub:PySem.W.mroIn K cls (.ref HE)=some true
  isX:XIsi K cls
  k0:PySem.W.kitOne K (.ref cls) (.ref NH)=some (n==0)
  k1:PySem.W.kitOne K (.ref cls) (.ref NHd)=some (n==1)
  k2:PySem.W.kitOne K (.ref cls) (.ref NNr)=some (n==2)
  k3:PySem.W.kitOne K (.ref cls) (.ref MI)=some (n==3)
  k4:PySem.W.kitOne K (.ref cls) (.ref NW)=some (n==4)
  k5:PySem.W.kitOne K (.ref cls) (.ref NL)=some (n==5)
  k6:PySem.W.kitOne K (.ref cls) (.ref NI)=some (n==6)
  k7:PySem.W.kitOne K (.ref cls) (.ref NR)=some (n==7)
  kV:PySem.W.kitOne K (.ref cls) (.type "ValueError")=some true
def bs8(n:Nat):List Bool:=[n==0,n==1,n==2,n==3,n==4,n==5,n==6,n==7]
section
variable {P:Program}{w:World}{K:PySem.W.Frag}{mg:Str→Option Value}{base:Heap}{HE NR FA CD CW C CP CI NH NI NL NHd NNr MI NW:Addr}
inductive spClass(K:PySem.W.Frag)(HE NH NHd NNr MI NW NL NI NR:Addr)(ex:Addr)(vs:List V)(H:Hp)(Q:VK):Prop
  | mk (cls:Addr) (n:Nat) (_:vs=[.ref ex]) (_:H ex=some (excO ex cls)) (_:XF8 K HE NH NHd NNr MI NW NL NI NR cls n) (_:∀H',Same H H'→Q (.int n) H')
theorem scClass:FnScope ["_law_e","_law_some"] ["_law_e"] (defScope sClass):=⟨rfl,rfl,rfl,by decide +kernel,rfl,by decide +kernel,by decide +kernel⟩
theorem ok_class{f:Addr}{fd:FuncData}(F:Fun K "_law_class" "_law_class" sClass f fd)(T:Txt K mg C NHd NNr MI NW)(TW:TxtW K mg CW NH NI)(TP:TxtP K mg CP NL)(TR:TxtR K mg NR)(hVE:mg "ValueError"=none):FnOkH P w K mg base 1 f fd ["_law_e"] (spClass K HE NH NHd NNr MI NW NL NI NR):=by
  obtain⟨oc,od,kV,doc,pm,an,cdv,ct,osl,rfl,lk,hcd⟩:=F.ex
  refine fn_ofH lk hcd scClass (fun ex vs H Q h=>?_) fun ex A outer s H vs Q hr h=>?_
  · obtain⟨cls,n,rfl,_⟩:=h
    rfl
  · obtain⟨cls,n,rfl,he,xf,k⟩:=h
    refine⟨_,pss_cons (ps_set (i:=1) scClass.nd rfl (Or.inl rfl) (pe_lst (pa_cons (pe_callB call_isiX (by rfl) T.isi PyProof.Rows.boot_isinstance (pa_cons (pv 0) (pa_cons (pe_glob (v:=.ref NH) (by rfl) TW.cNH.mg rfl) pa_nil)))
        (pa_cons (pe_callB call_isiX (by rfl) T.isi PyProof.Rows.boot_isinstance (pa_cons (pv 0) (pa_cons (pe_glob (v:=.ref NHd) (by rfl) T.cNHd.mg rfl) pa_nil)))
        (pa_cons (pe_callB call_isiX (by rfl) T.isi PyProof.Rows.boot_isinstance (pa_cons (pv 0) (pa_cons (pe_glob (v:=.ref NNr) (by rfl) T.cNNr.mg rfl) pa_nil)))
        (pa_cons (pe_callB call_isiX (by rfl) T.isi PyProof.Rows.boot_isinstance (pa_cons (pv 0) (pa_cons (pe_glob (v:=.ref MI) (by rfl) T.cMI.mg rfl) pa_nil))) pa_nil))))))
      (pss_cons (ps_set (i:=1) scClass.nd rfl (Or.inl rfl) (pe_op op_cat (pv 1) (pe_lst (pa_cons (pe_callB call_isiX (by rfl) T.isi PyProof.Rows.boot_isinstance (pa_cons (pv 0) (pa_cons (pe_glob (v:=.ref NW) (by rfl) T.cNW.mg rfl) pa_nil)))
        (pa_cons (pe_callB call_isiX (by rfl) T.isi PyProof.Rows.boot_isinstance (pa_cons (pv 0) (pa_cons (pe_glob (v:=.ref NL) (by rfl) TP.cNL.mg rfl) pa_nil)))
        (pa_cons (pe_callB call_isiX (by rfl) T.isi PyProof.Rows.boot_isinstance (pa_cons (pv 0) (pa_cons (pe_glob (v:=.ref NI) (by rfl) TW.cNI.mg rfl) pa_nil)))
        (pa_cons (pe_callB call_isiX (by rfl) T.isi PyProof.Rows.boot_isinstance (pa_cons (pv 0) (pa_cons (pe_glob (v:=.ref NR) (by rfl) TR.cNR.mg rfl) pa_nil))) pa_nil)))))))
      (pss_cons (ps_if (PW.pt (pw_or (pt_not (pt_val (pe_callB call_isiX (by rfl) T.isi PyProof.Rows.boot_isinstance (pa_cons (pv 0) (pa_cons (pe_bltn (v:=.ty "ValueError") (by rfl) hVE boot_VE rfl) pa_nil)))))
          (pw_or1 (pt_cmpR op_ne (pe_callB call_len_seq (by rfl) T.len PySem.boot_len (pa_cons (pe_compH (te:=tVar 0) (caps:=[]) rfl (pi_listH (pv 1))
            rfl (by decide +kernel) rfl (by decide +kernel) rfl trivial (fun y h=>has_no rfl h) trivial (by decide +kernel) (fun _ _ _ _ _=>pts_one (pt_val (pv 0))) (fun _ _ _ _ _=>pv 0)) pa_nil)) pe_int (nomark _))))) (pss_one (ps_ret (pe_un un_neg pe_int))) pss_nil)
      (pss_one (ps_ret (pe_bm PySem.F.plainAttrs_list PySem.F.slot_list_index PySem.F.type_list_index mt_indexB (pv 1) (pa_cons pe_bl pa_nil)))))),?_⟩
    have isi:∀{D:Addr} {b:Bool} {H':Hp} {Q':VK},Same H H'→PySem.W.kitOne K (.ref cls) (.ref D)=some b→Q' (.bl b) H'→Rcall_isiX K [.ref ex,.ref D] H' Q':=fun{D b H' Q'} s' kk q=>⟨ex,cls,.ref D,.ref D,b,rfl,rfl,s' _ _ he,xf.isX,kk,q⟩
    refine⟨_,rfl,isi (Same.refl _) xf.k0 ⟨_,rfl,isi (Same.refl _) xf.k1 ⟨_,rfl,isi (Same.refl _) xf.k2 ⟨_,rfl,isi (Same.refl _) xf.k3 ⟨by show 4≤sizeLine;decide,fun a1 h1=>?_⟩⟩⟩⟩⟩
    have s1:=same_new (o:=.lst [.bl (n==0),.bl (n==1),.bl (n==2),.bl (n==3)]) h1
    refine⟨_,rfl,_,rfl,isi s1 xf.k4 ⟨_,rfl,isi s1 xf.k5 ⟨_,rfl,isi s1 xf.k6 ⟨_,rfl,isi s1 xf.k7 ⟨by show 4≤sizeLine;decide,fun a2 h2=>?_⟩⟩⟩⟩⟩
    have s2:=same_new (o:=.lst [.bl (n==4),.bl (n==5),.bl (n==6),.bl (n==7)]) h2
    refine⟨a1,a2,_,_,rfl,rfl,s2 _ _ upd_same,upd_same,(by show 8≤sizeLine;decide),fun a3 h3=>?_⟩
    have s3:=same_new (o:=.lst ([V.bl (n==0),V.bl (n==1),V.bl (n==2),V.bl (n==3)]++[V.bl (n==4),V.bl (n==5),V.bl (n==6),V.bl (n==7)])) h3
    have s03:=same_trans s1 (same_trans s2 s3)
    have e3:(upd (upd (upd H a1 (.lst [V.bl (n==0),V.bl (n==1),V.bl (n==2),V.bl (n==3)])) a2 (.lst [V.bl (n==4),V.bl (n==5),V.bl (n==6),V.bl (n==7)])) a3 (.lst ([V.bl (n==0),V.bl (n==1),V.bl (n==2),V.bl (n==3)]++[V.bl (n==4),V.bl (n==5),V.bl (n==6),V.bl (n==7)]))) a3=some (.lst ((bs8 n).map V.bl)):=upd_same
    generalize upd (upd (upd H a1 (.lst [V.bl (n==0),V.bl (n==1),V.bl (n==2),V.bl (n==3)])) a2 (.lst [V.bl (n==4),V.bl (n==5),V.bl (n==6),V.bl (n==7)])) a3 (.lst ([V.bl (n==0),V.bl (n==1),V.bl (n==2),V.bl (n==3)]++[V.bl (n==4),V.bl (n==5),V.bl (n==6),V.bl (n==7)]))=H3 at s03 e3 ⊢
    refine⟨_,rfl,⟨ex,cls,.ty "ValueError",.type "ValueError",true,rfl,rfl,s03 _ _ he,xf.isX,xf.kV,true,rfl,?_⟩⟩
    refine iteF ?_
    refine⟨_,rfl,a3,rfl,⟨_,SqL.of e3⟩,fun p4 h4=>?_⟩
    refine comp_listH (C:=cls) (ex:=ex) (xs:=(bs8 n).map V.bl) (tt:=tB (tVar 0)) (te:=tVar 0) (caps:=[]) (σ:=[some (.ref ex),some (.ref a3)]) (fun i ys H4=>Same H3 H4∧H4 p4=some (.lst ys)∧ys=(((bs8 n).take i).filter id).map V.bl) ⟨same_new h4,upd_same,rfl⟩ (fun i ys H4 _ h=>⟨SqL.of (h.1 _ _ e3),h.2.1,h.1 _ _ (s03 _ _ he)⟩) ?_ ?_
    · rintro i x ys H4 N hi ⟨s4,e4,rfl⟩ hN
      rw[ZH] at hi
      obtain⟨b,hb,rfl⟩:=Option.map_eq_some_iff.mp hi
      have hlen:(((bs8 n).take i).filter id).length<sizeLine:=Nat.lt_of_le_of_lt (List.length_filter_le ..) (Nat.lt_of_le_of_lt (List.length_take_le' ..) (by show 8<sizeLine;decide))
      refine⟨_,rfl,b,rfl,?_⟩
      cases b with
      | false =>
        refine iteF (hN _ _ ⟨s4,e4,?_⟩)
        rw[List.take_add_one,hb]
        simp
      | true =>
        refine iteT ⟨_,rfl,e4,by rw[ZA];exact hlen,hN _ _ ⟨fun b' o e=>?_,upd_same,?_⟩⟩
        · rw[upd_ne (ne_of_none e h4)];exact s4 _ _ e
        · rw[List.take_add_one,hb]
          simp
    · rintro ys H4 ⟨s4,e4,rfl⟩
      rw[ZA,List.take_length] at e4
      have l1:((bs8 n).filter id).length=1:=by
        have:=xf.lt
        match n,this with
        | 0,_|1,_|2,_|3,_|4,_|5,_|6,_|7,_=>rfl
      have l2:(bs8 n).idxOf true=n:=by
        have:=xf.lt
        match n,this with
        | 0,_|1,_|2,_|3,_|4,_|5,_|6,_|7,_=>rfl
      refine⟨p4,_,rfl,.inl (SqL.of e4),?_⟩
      rw[ZA,l1]
      refine⟨rfl,false,by simp,iteF ?_⟩
      exact⟨_,rfl,.inl ⟨rfl,_,SqL.of (s4 _ _ e3)⟩,a3,bs8 n,n,rfl,rfl,s4 _ _ e3,l2,xf.lt,k _ (same_trans s03 s4)⟩
inductive spLSay(CD CW C CP NH NHd NNr NL NI MI NW NR HE:Addr)(K:PySem.W.Frag)(vs:List V)(H:Hp)(Q:VK)(E:XK):Prop
  | mk (p:Addr) (z:Str) (cls:Addr) (n:Nat) (dx:Addr) (fs:List (Str×V)) (_:vs=[.ref p,.str z]) (_:H p=some (.ins CD dx fs)) (_:fs.lookup ("say":Str)=none) (_:∀(H':Hp)(Q':VK)(E':XK),Same H H'→(∀H2,Same H' H2→E' (.ref cls) none H2)→spSay CD CW C CP NH NHd NNr NL NI MI NR K [.ref p,.str z] H' Q' E') (_:XF8 K HE NH NHd NNr MI NW NL NI NR cls n)
    (_:∀t H',Same H H'→H' t=some (.tup [.str "refused",.int n])→Q (.ref t) H')
theorem scLSay:FnScope ["_law_desk","_law_row","_law_told","_law_e"] ["_law_desk","_law_row"] (defScope sLSay):=⟨rfl,rfl,rfl,by decide +kernel,rfl,by decide +kernel,by decide +kernel⟩
theorem ok_lsay{f f1 f2:Addr}{fd d1 d2:FuncData}(F:Fun K "_law_say" "_law_say" sLSay f fd)(TK:TxtK K mg CD)(cHE:XCls K mg "HoldError" HE)(M1:Mth K CD "say" "Desk.say" sSay ["self","row"] f1 d1)(G1:FnOk P w K mg base (CX1 P w) 6 f1 d1 ["self","row"] (spSay CD CW C CP NH NHd NNr NL NI MI NR K))(M2:Gdf K mg "_law_class" sClass ["_law_e"] f2 d2)(G2:FnOkH P w K mg base 1 f2 d2 ["_law_e"] (spClass K HE NH NHd NNr MI NW NL NI NR)):FnOk P w K mg base CX0 7 f fd ["_law_desk","_law_row"] (spLSay CD CW C CP NH NHd NNr NL NI MI NW NR HE K):=by
  refine F.ok scLSay (fun vs H Q E h=>?_) (fun cdv A outer s H vs Q E hr h=>?_)
  · obtain⟨p,z,cls,n,dx,fs,rfl,_⟩:=h
    rfl
  · obtain⟨p,z,cls,n,dx,fs,rfl,hp,hl,ks,xf,k⟩:=h
    have hr1:Room 1 _:=hr.mono (by decide)
    refine⟨_,pss_cons (ps_set (i:=2) scLSay.nd rfl (Or.inl rfl) (pe_tup (pa_cons pe_str (pa_cons pe_non pa_nil))))
      (pss_cons (ps_tryAs (i:=3) rfl rfl rfl scLSay.nd rfl rfl rfl cHE (fun pins E ES hES=>pss_one (ps_set (i:=2) scLSay.nd rfl (Or.inl rfl) (pe_tup (pa_cons pe_str (pa_cons (pe_methS (pl:=_) (pv 0) TK.cl M1.mt G1 hr M1.bd hES (pa_cons (pv 1) pa_nil)) pa_nil)))))
        (fun ex=>pss_one (ps_set (i:=2) scLSay.nd rfl (Or.inl rfl) (pe_tup (pa_cons pe_str (pa_cons (pe_callH G2 hr1 (by rfl) M2.mg M2.fn.kp M2.bd (pa_cons (pv 3) pa_nil)) pa_nil))))))
      (pss_one (ps_ret (pv 2)))),?_⟩
    refine⟨by show 2≤sizeLine;decide,fun t1 h1=>?_⟩
    have s1:=same_new (o:=.tup [.str "done",.non]) h1
    refine⟨_,rfl,⟨p,dx,fs,rfl,s1 _ _ hp,hl,_,rfl,?_⟩⟩
    refine ks _ _ _ s1 fun H2 s2=>⟨cls,⟨rfl,xf.sub⟩,fun ex hx=>?_⟩
    have s3:=same_new (o:=excO ex cls) hx
    refine⟨_,rfl,⟨cls,n,rfl,upd_same,xf,fun H4 s4=>⟨by show 2≤sizeLine;decide,fun t5 h5=>?_⟩⟩⟩
    have s5:=same_new (o:=.tup [.str "refused",.int n]) h5
    exact⟨_,rfl,k _ _ (same_trans s1 (same_trans s2 (same_trans s3 (same_trans s4 s5)))) upd_same⟩
end
end K53
namespace FX
open PySem PySem.Spec PyProof.Rows L2
theorem figs_nat(n:Nat):(Str.ofString (toString ((n:Nat):Int))).cps.toList=(Nat.toDigits 10 n).map Char.toNat:=by
  show(cpsOfBytes 0 0 _).toArray.toList=_
  rw[List.toList_toArray,cpsOfBytes_string]
  congr 1
  show(Nat.repr n).toList=_
  unfold Nat.repr
  simp
theorem digs_int{i:Int}(h0:0≤i)(h1:i<1000000000):Digs (Str.ofString (toString i)):=by
  obtain⟨n,rfl⟩:=Int.eq_ofNat_of_zero_le h0
  refine⟨fun c hc=>?_,fun e=>?_,?_⟩
  · rw[figs_nat] at hc
    obtain⟨d,hd,rfl⟩:=ZN hc
    have:=Nat.isDigit_of_mem_toDigits (by decide) (by decide) hd
    simp only[Char.isDigit,Bool.and_eq_true,decide_eq_true_eq] at this
    obtain⟨a,b⟩:=this
    have a':48≤d.toNat:=a
    have b':d.toNat≤57:=b
    simp[isFig,a',b']
  · rw[figs_nat] at e
    have:=(Nat.length_toDigits_le_iff (b:=10) (n:=n) (k:=9) (by decide) (by decide))
    have:(Nat.toDigits 10 n).length=0:=by rw[List.map_eq_nil_iff.mp e];rfl
    exact absurd (List.map_eq_nil_iff.mp e) (Nat.toDigits_ne_nil)
  · rw[len_list,figs_nat,ZA]
    exact(Nat.length_toDigits_le_iff (by decide) (by decide)).mpr (by show n<1000000000;lia)
end FX
namespace K53
open PySem L2 FX
set_option linter.all false
def Rg(x:Int):Prop:=0≤x∧x<2147483647
section
variable {P:Program}{w:World}{K:PySem.W.Frag}{mg:Str→Option Value}{base:Heap}{NR:Addr}
theorem scStr:FnScope ["_law_cell_here","_law_many","_law_xs","_law_number_here","_law_k"] ["_law_cell_here","_law_many"] (defScope sStream):=⟨rfl,rfl,rfl,by decide +kernel,rfl,by decide +kernel,by decide +kernel⟩
def spStream:Sp:=fun vs H Q _=>∃(c:Int)(m:Nat),vs=[.int c,.int m]∧m≤20∧∀(l:Addr)(xs:List Int)(H':Hp),Same H H'→H' l=some (.lst (xs.map V.int))→xs.length=m→(∀x∈xs,Rg x)→Q (.ref l) H'
theorem ok_stream{f:Addr}{fd:FuncData}(F:Fun K "_law_stream" "_law_stream" sStream f fd)(hrange:mg "range"=none):FnOk P w K mg base CX0 1 f fd ["_law_cell_here","_law_many"] spStream:=by
  refine F.ok scStr (fun vs H Q E h=>?_) (fun cdv A outer s H vs Q E hr h=>?_)
  · obtain⟨c,m,rfl,_⟩:=h
    rfl
  · obtain⟨c,m,rfl,hm,k⟩:=h
    refine⟨_,pss_cons (ps_set (i:=2) scStr.nd rfl (Or.inl rfl) (pe_lst pa_nil))
      (pss_cons (ps_set (i:=3) scStr.nd rfl (Or.inl rfl) (pe_op op_mod (pv 0) pe_int))
      (pss_cons (ps_for PassesOwn.never rfl (pi_range1 rfl hrange (pa_cons (pv 1) pa_nil)) (pg_name (i:=4) scStr.nd rfl (Or.inl rfl))
        (pss_cons (ps_set (i:=3) scStr.nd rfl (Or.inl rfl) (pe_op op_mod (pe_op op_add (pe_op op_mul (pv 3) pe_int) pe_int) pe_int))
        (pss_one (ps_expr (pe_bm PySem.F.plainAttrs_list PySem.F.slot_list_append PySem.F.type_list_append mt_append (pv 2) (pa_cons (pv 3) pa_nil))))))
      (pss_one (ps_ret (pv 2))))),?_⟩
    refine⟨by decide,fun l hl=>?_⟩
    refine⟨_,rfl,_,_,rfl,rfl,(show(0:Int)<2147483647 by decide),?_⟩
    refine⟨_,rfl,(m:Int),rfl,by omega,by omega,?_⟩
    rw[Int.toNat_natCast]
    refine for_range (lo:=0) (n:=m) (fun i σ H2=>∃(xs:List Int)(z:Int)(u:Option V),σ=[some (.int c),some (.int m),some (.ref l),some (.int z),u]∧Same H H2∧H2 l=some (.lst (xs.map V.int))∧xs.length=i∧∀x∈xs,Rg x)
      ⟨[],_,_,rfl,same_new hl,upd_same,rfl,fun x hx=>by cases hx⟩ ?_ ?_
    · rintro i σ H2 hi ⟨xs,z,u,rfl,s2,e2,len,pos⟩
      refine⟨_,rfl,_,_,rfl,rfl,.inr ⟨by decide,by decide⟩,_,_,rfl,rfl,_,_,rfl,rfl,(show(0:Int)<2147483647 by decide),?_⟩
      have n0:=Int.emod_nonneg (z*48271+12345) (show(2147483647:Int)≠0 by decide)
      have n1:=Int.emod_lt_of_pos (z*48271+12345) (show(0:Int)<2147483647 by decide)
      generalize (z*48271+12345) % 2147483647=y at n0 n1 ⊢
      refine⟨_,rfl,.inl ⟨rfl,_,SqL.of e2⟩,_,rfl,l,_,_,rfl,rfl,e2,small1000 (by rw[ZA];omega),?_⟩
      refine⟨xs++[y],y,_,rfl,fun b o e=>?_,?_,by rw[ZE,len];rfl,fun x hx=>?_⟩
      · rw[upd_ne (ne_of_none e hl)];exact s2 b o e
      · rw[ZF];exact upd_same
      · rcases ZI hx with hx|hx
        · exact pos x hx
        · rw[ZK hx];exact⟨n0,n1⟩
    · rintro σ H2 ⟨xs,z,u,rfl,s2,e2,len,pos⟩
      exact⟨_,rfl,k l xs H2 s2 e2 len pos⟩
inductive spLNum(vs:List V)(H:Hp)(Q:VK)(E:XK):Prop
  | mk (x:Int) (_:vs=[.int x]) (_:Rg x) (_:∀z,Digs z→Q (.str z) H)
theorem scLNum:FnScope ["_law_x"] ["_law_x"] (defScope sLNum):=⟨rfl,rfl,rfl,by decide +kernel,rfl,by decide +kernel,by decide +kernel⟩
theorem log_mid{i:Int}(h0:0≤i)(h:i<1000000000):i.natAbs.log2<1920:=by
  by_cases z:i.natAbs=0
  · rw[z];decide
  · refine Nat.lt_trans ((Nat.log2_lt z (k:=30)).mpr ?_) (by decide)
    have:(2:Nat) ^ 30=1073741824:=by decide
    omega
theorem ok_lnum{f:Addr}{fd:FuncData}(F:Fun K "_law_number" "_law_number" sLNum f fd)(hstr:mg "str"=none):FnOk P w K mg base CX0 1 f fd ["_law_x"] spLNum:=by
  refine F.ok scLNum (fun vs H Q E h=>?_) (fun cdv A outer s H vs Q E hr h=>?_)
  · obtain⟨x,rfl,_⟩:=h
    rfl
  · obtain⟨x,rfl,⟨hx,hx2⟩,k⟩:=h
    refine⟨_,pss_cons (ps_if (pt_cmpR op_eq (pe_op op_mod (pv 0) pe_int) pe_int (nomark _)) (pss_one (ps_ret (pe_callTy call_str_int (by rfl) hstr PyProof.Rows.boot_str (pa_cons (pe_op op_add pe_int (pe_op op_mod (pv 0) pe_int)) pa_nil)))) pss_nil)
      (pss_one (ps_ret (pe_callTy call_str_int (by rfl) hstr PyProof.Rows.boot_str (pa_cons (pe_op op_mod (pe_op op_fdiv (pv 0) pe_int) pe_int) pa_nil)))),?_⟩
    refine⟨_,rfl,_,_,rfl,rfl,(show(0:Int)<7 by decide),rfl,_,rfl,?_⟩
    split
    · have a0:=Int.emod_nonneg x (show(899999999:Int)≠0 by decide)
      have a1:=Int.emod_lt_of_pos x (show(0:Int)<899999999 by decide)
      exact⟨_,rfl,_,_,rfl,rfl,(show(0:Int)<899999999 by decide),_,_,rfl,rfl,_,rfl,log_mid (by omega) (by omega),k _ (digs_int (by omega) (by omega))⟩
    · have a0:=Int.emod_nonneg (x / 7) (show(21:Int)≠0 by decide)
      have a1:=Int.emod_lt_of_pos (x / 7) (show(0:Int)<21 by decide)
      exact⟨_,rfl,_,_,rfl,rfl,⟨by decide,by decide⟩,_,_,rfl,rfl,(show(0:Int)<21 by decide),_,rfl,log_mid a0 (by omega),k _ (digs_int a0 (by omega))⟩
end
end K53
namespace FX
open PySem PySem.Spec PyProof.Rows L2
theorem nocon{l:List Nat}{c:Nat}(h:l.contains c=false):c∉l:=fun m=>by rw[List.contains_iff_mem.mpr m] at h;cases h
def GT:List (Str×List Bool):=[("make",[true]),("hold",[true,false,false]),("drop",[true,false,false]),("take",[true,false,false]),("free",[true,false]),("send",[true,true,false]),("ask",[true]),("clean",[true]),("come",[true]),("hand",[true]),("things",[true]),("holds",[false]),("post",[]),("found",[true])]
def kd(b:Bool):Str:=if b=true then "n" else "t"
def GS:List Str:=["make n","hold n t t","drop n t t","take n t t","free n t","send n n t","ask n","clean n","come n","hand n","things n","holds t","post","found n"]
def GS9:List Str:=["make n","hold n t t","drop n t t","take n t t","free n t","send n n t","ask n","clean n","come n"]
def GS5:List Str:=["hand n","things n","holds t","post","found n"]
theorem gs_cat:GS9.map V.str++GS5.map V.str=GS.map V.str:=rfl
theorem gs_split:(GS.map fun z=>Txt.split z " ")=GT.map fun p=>p.1::p.2.map kd:=by decide +kernel
theorem gt_look:∀p∈GT,FT.lookup p.1=some p.2:=by decide +kernel
theorem gs_at{i:Nat}(h:i<14):∃z v fs,GS[i]?=some z∧Txt.split z " "=v::fs.map kd∧FT.lookup v=some fs∧z.length≤20:=by
  have hl:GS.length=14:=rfl
  obtain⟨z,hz⟩:=get_of_lt (xs:=GS) (j:=i) (by lia)
  obtain⟨p,hp⟩:=get_of_lt (xs:=GT) (j:=i) (show i<14 from h)
  refine⟨z,p.1,p.2,hz,?_,gt_look p (ZP hp),?_⟩
  · have:=congrArg (fun l=>l[i]?) gs_split
    simp only[ZH,hz,hp,Option.map_some] at this
    exact ZO this
  · exact(by decide +kernel:∀z∈GS,z.length≤20) z (ZP hz)
def oth(v:Str):List Str:=[Txt.slice v none (some (-1)),v++"s",Txt.upper v,Txt.upper (Txt.slice v none (some 1))++Txt.slice v (some 1) none,v++"0","x"++v,Txt.slice v (some 1) none]
def othOk(v:Str)(fs:List Bool)(w:Str):Bool:=!(w.cps.toList.contains 32)&&decide (w.length≤20)&&match FT.lookup w with
  | none=>true
  | some gs=>decide (gs.length≠fs.length)
theorem oth_all:(FT.all fun p=>(oth p.1).all fun w=>othOk p.1 p.2 w)=true:=by decide +kernel
theorem oth_len{v:Str}{fs:List Bool}(h:FT.lookup v=some fs):(Builtin.Str.tooLong (Txt.upper v).length)=false∧(Builtin.Str.tooLong (Txt.upper (Txt.slice v none (some 1))).length)=false∧(Txt.upper (Txt.slice v none (some 1))).length+(Txt.slice v (some 1) none).length≤20:=by
  have:=ft_keys h
  have q:(FT.all fun p=>!(Builtin.Str.tooLong (Txt.upper p.1).length) && !(Builtin.Str.tooLong (Txt.upper (Txt.slice p.1 none (some 1))).length)&&decide ((Txt.upper (Txt.slice p.1 none (some 1))).length+(Txt.slice p.1 (some 1) none).length≤20))=true:=by decide +kernel
  have:=List.all_eq_true.mp q _ this
  simp only[Bool.and_eq_true,Bool.not_eq_true',decide_eq_true_eq] at this
  exact⟨this.1.1,this.1.2,this.2⟩
theorem oth_at{v w:Str}{fs:List Bool}(h:FT.lookup v=some fs)(hw:w∈oth v):32∉w.cps.toList∧w.length≤20∧∀gs,FT.lookup w=some gs→gs.length≠fs.length:=by
  have q:=List.all_eq_true.mp (List.all_eq_true.mp oth_all _ (ft_keys h)) w hw
  simp only[othOk,Bool.and_eq_true,Bool.not_eq_true',decide_eq_true_eq] at q
  refine⟨nocon q.1.1,q.1.2,fun gs e=>?_⟩
  have:=q.2
  rw[e] at this
  simpa using this
def B13:List Str:=["","00","01","-1","+1","1a","a","1234567890","1,","0x1","1_0","#1","none"]
def B3:List Str:=["0.1","1.",".1"]
theorem b16{w:Str}(h:w∈B13++B3):rdWord true w=none∧32∉w.cps.toList∧w.length≤10:=by
  have q:((B13++B3).all fun w=>(!(okNum w)) && !(w.cps.toList.contains 32)&&decide (w.length≤10))=true:=by decide +kernel
  have:=List.all_eq_true.mp q _ h
  simp only[Bool.and_eq_true,Bool.not_eq_true',decide_eq_true_eq] at this
  refine⟨?_,nocon this.1.2,this.2⟩
  simp[rdWord,rdNum,this.1.1]
theorem b13{w:Str}(h:w∈B13):rdNum w=none∧32∉w.cps.toList∧46∉w.cps.toList∧w.length≤10:=by
  have q:(B13.all fun w=>(!(okNum w)) && !(w.cps.toList.contains 32) && !(w.cps.toList.contains 46)&&decide (w.length≤10))=true:=by decide +kernel
  have:=List.all_eq_true.mp q _ h
  simp only[Bool.and_eq_true,Bool.not_eq_true',decide_eq_true_eq] at this
  exact⟨by simp[rdNum,this.1.1.1],nocon this.1.1.2,nocon this.1.2,this.2⟩
theorem dot_of(z:Str):(!(Builtin.Str.occurrences z "." 0 z.length 1).isEmpty)=decide (46∈z.cps.toList):=StrLaws.found_one z 46
theorem cat_join(a b:Str):a++"."++b=Str.join (one 46) [a,b]:=str_ext (by rw[cat_list,join_cons2,join_one])
theorem cat_join3(a b c:Str):a++"."++b++"."++c=Str.join (one 46) [a,b,c]:=str_ext (by
  rw[cat_list,cat_list,join_cons2,join_cons2,join_one];simp)
theorem split2{a b:Str}(ha:46∉a.cps.toList)(hb:46∉b.cps.toList):Txt.split (a++"."++b) "."=[a,b]:=by
  rw[cat_join]
  exact split_join (by simp) (fun p hp=>by simp only[List.mem_cons,List.not_mem_nil,or_false] at hp;rcases hp with rfl|rfl<;>assumption)
theorem split3{a b c:Str}(ha:46∉a.cps.toList)(hb:46∉b.cps.toList)(hc:46∉c.cps.toList):Txt.split (a++"."++b++"."++c) "."=[a,b,c]:=by
  rw[cat_join3]
  exact split_join (by simp) (fun p hp=>by simp only[List.mem_cons,List.not_mem_nil,or_false] at hp;rcases hp with rfl|rfl|rfl<;>assumption)
theorem bad_t0{x b:Str}(hx:x∈B13)(hb:Digs b):rdWord false (x++"."++b)=none:=by
  obtain⟨h1,_,h3,_⟩:=b13 hx
  simp[rdWord,rdThing,split2 h3 hb.free.2,h1]
theorem bad_t1{x a:Str}(hx:x∈B13)(ha:Digs a):rdWord false (a++"."++x)=none:=by
  obtain⟨h1,_,h3,_⟩:=b13 hx
  simp[rdWord,rdThing,split2 ha.free.2 h3,h1]
theorem bad_t2{a:Str}(ha:Digs a):rdWord false a=none:=by
  have:Txt.split a "."=[a]:=by
    have:=split_join (c:=46) (ps:=[a]) (by simp) (fun p hp=>by rw[ZK hp];exact ha.free.2)
    rwa [join_one] at this
  simp[rdWord,rdThing,this]
theorem bad_t3{a b c:Str}(ha:46∉a.cps.toList)(hb:46∉b.cps.toList)(hc:46∉c.cps.toList):rdWord false (a++"."++b++"."++c)=none:=by
  simp[rdWord,rdThing,split3 ha hb hc]
theorem part_at{a b:Str}(ha:46∉a.cps.toList):∃is,Builtin.Str.occurrences (a++"."++b) "." 0 (a++"."++b).length 1=a.length::is:=by
  have at_:∀i,StrLaws.At (a++"."++b) (one 46) (a++"."++b).length i↔(a++"."++b).cps.toList[i]?=some 46:=fun i=>StrLaws.subAt_one _ 46 i
  have ea:(a++"."++b).cps.toList[a.length]?=some 46:=by rw[cat_list,len_list];simp
  rcases StrLaws.occ_head (a++"."++b) (one 46) 1 (ZG _) with⟨_,h⟩|⟨i,r,e,h1,h2⟩
  · exact absurd ((at_ _).mpr ea) (h _)
  · refine⟨r,?_⟩
    have hi:i=a.length:=by
      have n1:¬a.length<i:=fun z=>h2 _ z ((at_ _).mpr ea)
      have n2:¬i<a.length:=fun z=>by
        have q:=(at_ i).mp h1
        rw[cat_list,List.getElem?_append_left (by rw[←len_list];exact z)] at q
        exact ha (ZP q)
      omega
    rw[←hi]
    exact e
theorem part_l{a b:Str}:Builtin.Str.strSub (a++"."++b) 0 a.length=a:=str_ext (by
  rw[StrLaws.strSub_toList,cat_list,len_list];simp)
theorem part_r{a b:Str}:Builtin.Str.strSub (a++"."++b) (a.length+Str.length ".") (a++"."++b).length=b:=str_ext (by
  rw[StrLaws.strSub_toList,len_list (a++"."++b),cat_list,len_list a,show Str.length "."=1 from by decide +kernel]
  rw[List.take_of_length_le (by simp),show a.cps.toList.length+1=(a.cps.toList++[46]).length by simp,show a.cps.toList++46::b.cps.toList=(a.cps.toList++[46])++b.cps.toList by simp,List.drop_left])
def badB(z:Str):Bool:=decide (z.length≤1000)&&match Txt.split z " " with
  | v::ws=>(rdWords v ws).isNone
  | []=>true
theorem badB_of{z:Str}(h:badB z=true):BadR z∧z.length≤1000:=by
  simp only[badB,Bool.and_eq_true,decide_eq_true_eq] at h
  refine⟨fun v ws e=>?_,h.1⟩
  have:=h.2
  rw[e] at this
  simpa using this
def O1:List Str:=[""," ","none","ok","0","0.0","make 0.0","hold 0 0 0","hold 0.0 0.0 0.0","free 0 0","free 0.0 0"]
def O2:List Str:=["send 0 0.0 1","send 0 1 2 0.0","ask","asks 0","come 0.0","come 1 2","clean","hand","hand 0.0"]
def O3:List Str:=["things","thing 0","holds 0","holds 0.0 0.0","post 0","posts","found","found 0.0","make 0 0"]
def O4:List Str:=["Make 0","make -0","make 0 "," make 0","make  0","let 0","pass 0","deliver 1"]
def O5:List Str:=["state 0","tick 0","inquiry 1","letters"]
def Odd:List Str:=O1++O2++O3++O4++O5
theorem odd_all:(Odd.all badB)=true:=by decide +kernel
theorem odd_at{z:Str}(h:z∈Odd):BadR z∧z.length≤1000:=badB_of (List.all_eq_true.mp odd_all z h)
def strsOf:List Expr→Option (List Str)
  | []=>some []
  | .Constant (.str v) _ _::es=>(strsOf es).map (v :: ·)
  | _::_=>none
def tK(vs:List V):TA:=fun _ H Q=>Q vs H
theorem pa_strs{X:Cx}:∀{es:List Expr} {vs:List Str},strsOf es=some vs→PA X es (tK (vs.map V.str))
  | [],vs,h=>by cases h;exact pa_nil
  | .Constant (.str v) j p::es,vs,h=>by
    obtain⟨ws,hw,rfl⟩:=Option.map_eq_some_iff.mp h
    exact fun pos pins s σ H Q I q=>(pa_cons pe_str (pa_strs (X:=X) hw) rfl:PA X (.Constant (.str v) j p::es) _) pos pins s σ H Q I q
end FX
namespace K53
open PySem L2 FX
set_option linter.all false
section
variable {P:Program}{w:World}{K:PySem.W.Frag}{mg:Str→Option Value}{base:Heap}{NR:Addr}
theorem rg_at{xs:List Int}{i:Nat}{x:Int}(h:∀x∈xs,Rg x)(e:xs[i]?=some x):Rg x:=h x (ZP e)
inductive spGood(vs:List V)(H:Hp)(Q:VK)(E:XK):Prop
  | mk (a:Addr) (xs:List Int) (_:vs=[.ref a]) (_:H a=some (.lst (xs.map V.int))) (_:xs.length=9) (_:∀x∈xs,Rg x)
    (_:∀(l:Addr)(v:Str)(fs:List Bool)(ws:List Str)(H':Hp),Same H H'→Pcs v fs ws→H' l=some (.lst ((v::ws).map V.str))→Q (.ref l) H')
theorem scGood:FnScope ["_law_xs","_law_some","_law_kinds","_law_pieces","_law_k"] ["_law_xs"] (defScope sGood):=⟨rfl,rfl,rfl,by decide +kernel,rfl,by decide +kernel,by decide +kernel⟩
theorem ok_good{f f1:Addr}{fd d1:FuncData}(F:Fun K "_law_good" "_law_good" sGood f fd)(hrange:mg "range"=none)(hlen:mg "len"=none)(M1:Gdf K mg "_law_number" sLNum ["_law_x"] f1 d1)(G1:FnOk P w K mg base CX0 1 f1 d1 ["_law_x"] spLNum):FnOk P w K mg base CX0 2 f fd ["_law_xs"] spGood:=by
  refine F.ok scGood (fun vs H Q E h=>?_) (fun cdv A outer s H vs Q E hr h=>?_)
  · obtain⟨a,xs,rfl,_⟩:=h
    rfl
  · obtain⟨a,xs,rfl,ha,hx,hR,k⟩:=h
    refine⟨_,pss_cons (ps_set (i:=1) scGood.nd rfl (Or.inl rfl) (pe_lst (pa_strs (vs:=GS9) rfl)))
      (pss_cons (ps_set (i:=1) scGood.nd rfl (Or.inl rfl) (pe_op op_cat (pv 1) (pe_lst (pa_strs (vs:=GS5) rfl))))
      (pss_cons (ps_set (i:=2) scGood.nd rfl (Or.inl rfl) (pe_bm PySem.F.plainAttrs_str PySem.F.slot_str_split PySem.F.type_str_split mt_split (pe_ix ix_list (pv 1) (pe_op op_mod (pe_ix ix_list (pv 0) pe_int (fun _ _=>rfl)) pe_int) (fun _ _=>rfl)) (pa_cons pe_str pa_nil)))
      (pss_cons (ps_set (i:=3) scGood.nd rfl (Or.inl rfl) (pe_slice sl_list (pv 2) po_none (po_some pe_int)))
      (pss_cons (ps_for PassesOwn.never rfl (pi_range2 rfl hrange (pa_cons pe_int (pa_cons (pe_callB call_len_seq (by rfl) hlen PySem.boot_len (pa_cons (pv 2) pa_nil)) pa_nil))) (pg_name (i:=4) scGood.nd rfl (Or.inl rfl))
        (pss_one (ps_if (pt_cmpR op_eq (pe_ix ix_list (pv 2) (pv 4) (fun _ _=>rfl)) pe_str (nomark _))
          (pss_one (ps_expr (pe_bm PySem.F.plainAttrs_list PySem.F.slot_list_append PySem.F.type_list_append mt_append (pv 3) (pa_cons (pe_call G1 hr (by rfl) M1.mg M1.fn.kp M1.bd .nil pass0 (pa_cons (pe_ix ix_list (pv 0) (pv 4) (fun _ _=>rfl)) pa_nil)) pa_nil))))
          (pss_one (ps_expr (pe_bm PySem.F.plainAttrs_list PySem.F.slot_list_append PySem.F.type_list_append mt_append (pv 3) (pa_cons (pe_op op_add_str (pe_op op_add_str (pe_call G1 hr (by rfl) M1.mg M1.fn.kp M1.bd .nil pass0 (pa_cons (pe_ix ix_list (pv 0) (pv 4) (fun _ _=>rfl)) pa_nil)) pe_str) (pe_call G1 hr (by rfl) M1.mg M1.fn.kp M1.bd .nil pass0 (pa_cons (pe_op op_fdiv (pe_ix ix_list (pv 0) (pv 4) (fun _ _=>rfl)) pe_int) pa_nil))) pa_nil)))))))
      (pss_one (ps_ret (pv 3))))))),?_⟩
    refine⟨by show 9≤sizeLine;decide,fun a1 h1=>?_⟩
    have s1:=same_new (o:=.lst (GS9.map V.str)) h1
    refine⟨_,rfl,by show 5≤sizeLine;decide,fun a2 h2=>?_⟩
    have s2:=same_new (o:=.lst (GS5.map V.str)) h2
    refine⟨a1,a2,_,_,rfl,rfl,s2 _ _ upd_same,upd_same,(by show 14≤sizeLine;decide),fun a3 h3=>?_⟩
    have s03:=same_trans s1 (same_trans s2 (same_new (o:=.lst ((GS9.map V.str)++(GS5.map V.str))) h3))
    have e3:(upd (upd (upd H a1 (.lst (GS9.map V.str))) a2 (.lst (GS5.map V.str))) a3 (.lst ((GS9.map V.str)++(GS5.map V.str)))) a3=some (.lst (GS.map V.str)):=by rw[gs_cat];exact upd_same
    generalize upd (upd (upd H a1 (.lst (GS9.map V.str))) a2 (.lst (GS5.map V.str))) a3 (.lst ((GS9.map V.str)++(GS5.map V.str)))=H3 at s03 e3 ⊢
    clear s1 s2 h1 h2 h3
    obtain⟨x0,hx0⟩:=get_of_lt (xs:=xs) (j:=0) (by omega)
    have m0:=Int.emod_nonneg x0 (show(14:Int)≠0 by decide)
    have m1:=Int.emod_lt_of_pos x0 (show(0:Int)<14 by decide)
    obtain⟨z,v,fs,hz,hsp,hft,hzl⟩:=gs_at (i:=(x0 % 14).toNat) (by omega)
    have ff:=ft_free hft
    have hs0:sizeLine=16777216:=sizeLine_eq
    refine⟨_,rfl,_,rfl,a,_,0,_,rfl,rfl,SqL.of (s03 _ _ ha),atI_at (Int.le_refl 0) (by rw[ZH,show(0:Int).toNat=0 from rfl,hx0];rfl),_,_,rfl,rfl,(show(0:Int)<14 by decide),a3,_,_,_,rfl,rfl,SqL.of e3,atI_at m0 (by rw[ZH,hz];rfl),?_⟩
    refine⟨rfl,z," ",rfl,rfl,rfl,by omega,fun l hl=>?_⟩
    rw[hsp]
    have s4:=same_new (o:=.lst ((v::fs.map kd).map V.str)) hl
    refine⟨_,rfl,1,rfl,l,_,rfl,SqL.of upd_same,fun q hq=>?_⟩
    rw[show(1:Int)=((1:Nat):Int) from rfl,cut_to,show((v::fs.map kd).map V.str).take 1=[v].map V.str from rfl]
    have s5:=same_new (o:=.lst ([v].map V.str)) hq
    have s05:=same_trans s03 (same_trans s4 s5)
    have el:(upd (upd H3 l (.lst ((v::fs.map kd).map V.str))) q (.lst ([v].map V.str))) l=some (.lst ((v::fs.map kd).map V.str)):=s5 _ _ upd_same
    have eq:(upd (upd H3 l (.lst ((v::fs.map kd).map V.str))) q (.lst ([v].map V.str))) q=some (.lst ([v].map V.str)):=upd_same
    have nq:∀b o,H b=some o→b≠q:=fun b o e=>ne_of_none (s4 _ _ (s03 _ _ e)) hq
    have nl:l≠q:=ne_of_none upd_same hq
    generalize upd (upd H3 l (.lst ((v::fs.map kd).map V.str))) q (.lst ([v].map V.str))=H5 at s05 el eq ⊢
    have hb:-(2 ^ 62)≤(1:Int)∧(1:Int)<2 ^ 62∧-(2 ^ 62)≤((((v::fs.map kd).map V.str).length:Nat):Int)∧((((v::fs.map kd).map V.str).length:Nat):Int)<2 ^ 62:=by
      rw[ZA,List.length_cons,ZA]
      have:=ff.2.2
      omega
    refine⟨_,rfl,l,_,rfl,.inl (SqL.of el),1,_,rfl,hb,?_⟩
    rw[show((((v::fs.map kd).map V.str).length:Nat)-1:Int).toNat=fs.length by rw[ZA,List.length_cons,ZA];omega]
    refine for_range (lo:=1) (n:=fs.length) (fun i σ H2=>∃(ws:List Str)(u:Option V),σ=[some (.ref a),some (.ref a3),some (.ref l),some (.ref q),u]∧Same H H2∧H2 l=some (.lst ((v::fs.map kd).map V.str))∧H2 q=some (.lst ((v::ws).map V.str))∧Paired PieceOk (fs.take i) ws)
      ⟨[],_,rfl,s05,el,eq,.nil⟩ ?_ ?_
    · rintro i σ H2 hi ⟨ws,u,rfl,s6,e6,q6,pr⟩
      obtain⟨f0,hf⟩:=get_of_lt (xs:=fs) (j:=i) hi
      have lw:ws.length≤3:=by rw[←Paired.length pr];exact Nat.le_trans (List.length_take_le' ..) ff.2.2
      have ifs:=ff.2.2
      obtain⟨y,hy⟩:=get_of_lt (xs:=xs) (j:=i+1) (by omega)
      have ry:=rg_at hR hy
      have tn:((1:Int)+(i:Int)).toNat=i+1:=by omega
      have ls:((v::ws).map V.str).length<sizeLine:=by rw[ZA,List.length_cons];omega
      have sm:∀(z:Str),Same H (upd H2 q (.lst ((v::ws).map V.str++[V.str z]))):=fun z b o e=>by rw[upd_ne (nq b o e)];exact s6 _ _ e
      have ix:∀{Q':VK},Q' (.int y) H2→rIxL K (.ref a) (.int (1+(i:Int))) H2 Q':=fun h=>⟨a,_,_,_,rfl,rfl,SqL.of (s6 _ _ ha),atI_at (by omega) (by rw[tn,ZH,hy];rfl),h⟩
      refine⟨_,rfl,_,rfl,⟨l,_,_,V.str (kd f0),rfl,rfl,SqL.of e6,atI_at (by omega) (by rw[tn,ZH,List.getElem?_cons_succ,ZH,hf];rfl),?_⟩⟩
      refine⟨rfl,_,rfl,?_⟩
      rw[show(decide (V.str (kd f0)=V.str "n"))=f0 by cases f0<;>decide +kernel]
      cases f0 with
      | true =>
        refine iteT ⟨_,rfl,.inl ⟨rfl,_,SqL.of q6⟩,_,rfl,_,rfl,ix ⟨y,rfl,ry,fun z hz=>?_⟩⟩
        exact⟨q,_,_,rfl,rfl,q6,ls,ws++[z],_,rfl,sm z,by rw[upd_ne nl];exact e6,by rw[upd_same];simp,by rw[List.take_add_one,hf];exact paired_snoc hz pr⟩
      | false =>
        have ry3:Rg (y / 3):=⟨Int.ediv_nonneg ry.1 (by decide),by have:=ry.2;have:=ry.1;omega⟩
        refine iteF ⟨_,rfl,.inl ⟨rfl,_,SqL.of q6⟩,_,rfl,_,rfl,ix ⟨y,rfl,ry,fun z1 hz1=>?_⟩⟩
        have l1:=hz1.l
        refine⟨z1,".",rfl,rfl,(by have:Str.length "."=1:=rfl;omega),?_⟩
        refine⟨_,rfl,_,rfl,ix ⟨_,_,rfl,rfl,⟨by decide,by decide⟩,_,rfl,ry3,fun z2 hz2=>?_⟩⟩
        have l2:=hz2.l
        refine⟨_,_,rfl,rfl,by rw[Str.length_append,show Str.length "."=1 from rfl];omega,?_⟩
        exact⟨q,_,_,rfl,rfl,q6,ls,ws++[z1++"."++z2],_,rfl,sm _,by rw[upd_ne nl];exact e6,by rw[upd_same];simp,by rw[List.take_add_one,hf];exact paired_snoc (show PieceOk false (z1++"."++z2) from⟨z1,z2,hz1,hz2,rfl⟩) pr⟩
    · rintro σ H2 ⟨ws,u,rfl,s6,e6,q6,pr⟩
      rw[List.take_length] at pr
      exact⟨_,rfl,k q v fs ws H2 s6 ⟨hft,pr⟩ q6⟩
end
end K53
namespace FX
open PySem L2
def strsS:Stmt→Option (Str×List Str)
  | .Assign [.Name x _] (.List es _) _=>(strsOf es).map fun l=>(x,l)
  | _=>none
theorem ps_strs{X:Cx}{i:Nat}{x:Str}{st:Stmt}{vs:List Str}(h:strsS st=some (x,vs))(hN:X.N.Nodup)(hi:X.N[i]?=some x)(hx:Loc X.env.scope x)(hf:X.fn x=true∨X.env.scope.names.lookup x=some .local):PS X st (tAsg (tLst (tK (vs.map V.str))) (gName i)):=by
  unfold strsS at h
  split at h
  · obtain⟨l,hl,e⟩:=Option.map_eq_some_iff.mp h
    cases e
    exact ps_set hN hi hx (pe_lst (pa_strs hl)) rfl hf
  · cases h
def strsC:Stmt→Option (Str×Str×List Str)
  | .Assign [.Name x _] (.BinOp (.Name y _) .Add (.List es _) _) _=>(strsOf es).map fun l=>(x,y,l)
  | _=>none
theorem ps_cstrs{X:Cx}{i j:Nat}{x y:Str}{st:Stmt}{vs:List Str}(h:strsC st=some (x,y,vs))(hN:X.N.Nodup)(hi:X.N[i]?=some x)(hx:Loc X.env.scope x)(hf:X.fn x=true∨X.env.scope.names.lookup x=some .local)(hj:X.N[j]?=some y)(hv:Vis X.env.scope y)(hd:(y==("__debug__":Str))=false)(hcd:(y==("__classdict__":Str))=false):PS X st (tAsg (tOp rCat (tVar j) (tLst (tK (vs.map V.str)))) (gName i)):=by
  unfold strsC at h
  split at h
  · obtain⟨l,hl,e⟩:=Option.map_eq_some_iff.mp h
    cases e
    exact ps_set hN hi hx (pe_op op_cat (pe_var hj hv hd hcd) (pe_lst (pa_strs hl))) rfl hf
  · cases h
def strsR:Stmt→Option (Str×List Str)
  | .Return (some (.BinOp (.Name y _) .Add (.List es _) _)) _=>(strsOf es).map fun l=>(y,l)
  | _=>none
theorem ps_rstrs{X:Cx}{j:Nat}{y:Str}{st:Stmt}{vs:List Str}(h:strsR st=some (y,vs))(hj:X.N[j]?=some y)(hv:Vis X.env.scope y)(hd:(y==("__debug__":Str))=false)(hcd:(y==("__classdict__":Str))=false):PS X st (tRet (tOp rCat (tVar j) (tLst (tK (vs.map V.str))))):=by
  unfold strsR at h
  split at h
  · obtain⟨l,hl,e⟩:=Option.map_eq_some_iff.mp h
    cases e
    exact ps_ret (pe_op op_cat (pe_var hj hv hd hcd) (pe_lst (pa_strs hl)))
  · cases h
end FX
namespace FX
open PySem L2
structure PSw(X:Cx)(st:Stmt)(t:TS):Prop where
  out:PS X st t
structure PSsw(X:Cx)(ss:List Stmt)(t:TS):Prop where
  out:PSs X ss t
theorem pssw_cons{X:Cx}{st:Stmt}{rest:List Stmt}{t u:TS}(h1:PSw X st t)(h2:PSsw X rest u):PSsw X (st::rest) (tSeq t u):=⟨pss_cons h1.out h2.out⟩
theorem pssw_one{X:Cx}{st:Stmt}{t:TS}(h:PSw X st t):PSsw X [st] t:=⟨pss_one h.out⟩
theorem psw_strs{X:Cx}{i:Nat}{x:Str}{st:Stmt}{vs:List Str}(h:strsS st=some (x,vs))(hN:X.N.Nodup)(hi:X.N[i]?=some x)(hx:Loc X.env.scope x)(hf:X.fn x=true∨X.env.scope.names.lookup x=some .local):PSw X st (tAsg (tLst (tK (vs.map V.str))) (gName i)):=⟨ps_strs h hN hi hx hf⟩
theorem psw_cstrs{X:Cx}{i j:Nat}{x y:Str}{st:Stmt}{vs:List Str}(h:strsC st=some (x,y,vs))(hN:X.N.Nodup)(hi:X.N[i]?=some x)(hx:Loc X.env.scope x)(hf:X.fn x=true∨X.env.scope.names.lookup x=some .local)(hj:X.N[j]?=some y)(hv:Vis X.env.scope y)(hd:(y==("__debug__":Str))=false)(hcd:(y==("__classdict__":Str))=false):PSw X st (tAsg (tOp rCat (tVar j) (tLst (tK (vs.map V.str)))) (gName i)):=⟨ps_cstrs h hN hi hx hf hj hv hd hcd⟩
theorem psw_rstrs{X:Cx}{j:Nat}{y:Str}{st:Stmt}{vs:List Str}(h:strsR st=some (y,vs))(hj:X.N[j]?=some y)(hv:Vis X.env.scope y)(hd:(y==("__debug__":Str))=false)(hcd:(y==("__classdict__":Str))=false):PSw X st (tRet (tOp rCat (tVar j) (tLst (tK (vs.map V.str))))):=⟨ps_rstrs h hj hv hd hcd⟩
theorem okw{P:Program}{w:World}{K:PySem.W.Frag}{mg:Str→Option Value}{base:Heap}{x qual:Str}{st:Stmt}{f:Addr}{fd:FuncData}{N ps:List Str}{k:Nat}{sp:Sp}(F:Fun K x qual st f fd)(S:FnScope N ps (defScope st))(len:∀vs H Q E,sp vs H Q E→vs.length=ps.length)(hbody:∀(cdv:Value) (A:Around) (outer:List Env) (s:Shared) (H:Hp) (vs:List V) (Q:VK) (E:XK),Room k (A.deeper (PyProof.Rows.envOfC qual (defScope st) s.heap.objs.size f cdv))→sp vs H Q E →
      ∃t,PSsw (cxOf CX0 P w K mg base N qual (defScope st) f cdv A outer s H E).nox (defBody st) t∧t { nx:=fun _ H'=>Q .non H',rt:=Q } (start N vs) H):FnOk P w K mg base CX0 (k+1) f fd ps sp :=
  F.ok S len fun cdv A outer s H vs Q E hr h=>let⟨t,a,b⟩:=hbody cdv A outer s H vs Q E hr h;⟨t,a.out,b⟩
end FX
namespace K53
open PySem L2 FX
set_option linter.all false
section
variable {P:Program}{w:World}{K:PySem.W.Frag}{mg:Str→Option Value}{base:Heap}{NR:Addr}
inductive spOther(vs:List V)(H:Hp)(Q:VK)(E:XK):Prop
  | mk (v:Str) (fs:List Bool) (x:Int) (_:vs=[.str v,.int x]) (_:FT.lookup v=some fs) (_:∀(z:Str)(H':Hp),Same H H'→z∈oth v→Q (.str z) H')
theorem scOther:FnScope ["_law_word","_law_x","_law_some"] ["_law_word","_law_x"] (defScope sOther):=⟨rfl,rfl,rfl,by decide +kernel,rfl,by decide +kernel,by decide +kernel⟩
theorem ok_other{f:Addr}{fd:FuncData}(F:Fun K "_law_other_word" "_law_other_word" sOther f fd):FnOk P w K mg base CX0 1 f fd ["_law_word","_law_x"] spOther:=by
  refine F.ok scOther (fun vs H Q E h=>?_) (fun cdv A outer s H vs Q E hr h=>?_)
  · obtain⟨v,fs,x,rfl,_⟩:=h
    rfl
  · obtain⟨v,fs,x,rfl,hv,k⟩:=h
    refine⟨_,pss_cons (ps_set (i:=2) scOther.nd rfl (Or.inl rfl) (pe_lst (pa_cons (pe_slice sl_str (pv 0) po_none (po_some (pe_un un_neg pe_int)))
        (pa_cons (pe_op op_add_str (pv 0) pe_str)
        (pa_cons (pe_bm0 PySem.F.plainAttrs_str PySem.F.slot_str_upper PySem.F.type_str_upper mt_upper (pv 0))
        (pa_cons (pe_op op_add_str (pe_bm0 PySem.F.plainAttrs_str PySem.F.slot_str_upper PySem.F.type_str_upper mt_upper (pe_slice sl_str (pv 0) po_none (po_some pe_int))) (pe_slice sl_str (pv 0) (po_some pe_int) po_none))
        (pa_cons (pe_op op_add_str (pv 0) pe_str)
        (pa_cons (pe_op op_add_str pe_str (pv 0))
        (pa_cons (pe_slice sl_str (pv 0) (po_some pe_int) po_none) pa_nil)))))))))
      (pss_one (ps_ret (pe_ix ix_list (pv 2) (pe_op op_mod (pv 1) pe_int) (fun _ _=>rfl)))),?_⟩
    have hs0:sizeLine=16777216:=sizeLine_eq
    have ff:=ft_free hv
    obtain⟨u1,u2,u3⟩:=oth_len hv
    have n0:=Int.emod_nonneg x (show(7:Int)≠0 by decide)
    have n1:=Int.emod_lt_of_pos x (show(0:Int)<7 by decide)
    have hvl:v.length≤sizeLine:=by omega
    have le0:Str.length "s"=1:=rfl
    have le1:Str.length "0"=1:=rfl
    have le2:Str.length "x"=1:=rfl
    refine⟨_,rfl,1,rfl,-1,rfl,v,rfl,hvl,?_⟩
    refine⟨_,rfl,_,_,rfl,rfl,by omega,?_⟩
    refine⟨_,rfl,rfl,v,rfl,rfl,u1,?_⟩
    refine⟨_,rfl,1,rfl,v,rfl,hvl,rfl,_,rfl,rfl,u2,_,rfl,1,rfl,v,rfl,hvl,_,_,rfl,rfl,by omega,?_⟩
    refine⟨_,rfl,_,_,rfl,rfl,by omega,?_⟩
    refine⟨_,rfl,_,_,rfl,rfl,by omega,?_⟩
    refine⟨_,rfl,1,rfl,v,rfl,hvl,?_⟩
    refine⟨by show 7≤sizeLine;decide,fun a1 h1=>?_⟩
    have s1:=same_new (o:=.lst ((oth v).map V.str)) h1
    have e1:(upd H a1 (.lst ((oth v).map V.str))) a1=some (.lst ((oth v).map V.str)):=upd_same
    obtain⟨z,hz⟩:=get_of_lt (xs:=oth v) (j:=(x % 7).toNat) (by show _<7;omega)
    exact⟨_,rfl,_,rfl,_,_,rfl,rfl,(show(0:Int)<7 by decide),a1,_,_,_,rfl,rfl,SqL.of e1,atI_at n0 (by rw[ZH,hz];rfl),k z _ s1 (ZP hz)⟩
inductive spBad(vs:List V)(H:Hp)(Q:VK)(E:XK):Prop
  | mk (z:Str) (b:Bool) (x:Int) (_:vs=[.str z,.int x]) (_:PieceOk b z) (_:Rg x) (_:∀(y:Str)(H':Hp),Same H H'→rdWord b y=none→32∉y.cps.toList→y.length≤40→Q (.str y) H')
theorem scBad:FnScope ["_law_piece","_law_x","_law_bad_here","_law_house","_law_dot","_law_number_here","_law_some"] ["_law_piece","_law_x"] (defScope sBad):=⟨rfl,rfl,rfl,by decide +kernel,rfl,by decide +kernel,by decide +kernel⟩
theorem ok_bad{f:Addr}{fd:FuncData}(F:Fun K "_law_bad" "_law_bad" sBad f fd):FnOk P w K mg base CX0 1 f fd ["_law_piece","_law_x"] spBad:=by
  refine okw F scBad (fun vs H Q E h=>?_) (fun cdv A outer s H vs Q E hr h=>?_)
  · obtain⟨z,b,x,rfl,_⟩:=h
    rfl
  · obtain⟨z,b,x,rfl,hz,hx,k⟩:=h
    refine⟨_,pssw_cons (psw_strs (i:=2) (x:="_law_bad_here") (vs:=B13) (by rfl) scBad.nd rfl (Or.inl rfl) (Or.inl rfl))
      (pssw_cons (⟨ps_if (pt_cmpR op_notin_str pe_str (pv 0) rfl) (pss_one (ps_ret (pe_ix ix_list (pe_op op_cat (pv 2) (pe_lst (pa_strs (vs:=B3) rfl))) (pe_op op_mod (pv 1) pe_int) (fun _ _=>rfl)))) pss_nil⟩)
      (pssw_cons (⟨ps_asg (pe_bm PySem.F.plainAttrs_str PySem.F.slot_str_partition PySem.F.type_str_partition mt_partition (pv 0) (pa_cons pe_str pa_nil)) (pg_tup rfl (pgs_cons (pg_name (i:=3) scBad.nd rfl (Or.inl rfl)) (pgs_cons (pg_name (i:=4) scBad.nd rfl (Or.inl rfl)) (pgs_cons (pg_name (i:=5) scBad.nd rfl (Or.inl rfl)) pgs_nil))))⟩)
      (pssw_cons (⟨ps_set (i:=6) scBad.nd rfl (Or.inl rfl) (pe_lst (pa_cons (pe_op op_add_str (pe_op op_add_str (pe_ix ix_list (pv 2) (pe_op op_mod (pe_op op_fdiv (pv 1) pe_int) pe_int) (fun _ _=>rfl)) pe_str) (pv 5)) (pa_cons (pe_op op_add_str (pe_op op_add_str (pv 3) pe_str) (pe_ix ix_list (pv 2) (pe_op op_mod (pe_op op_fdiv (pv 1) pe_int) pe_int) (fun _ _=>rfl))) (pa_cons (pv 3) (pa_cons (pe_op op_add_str (pe_op op_add_str (pe_op op_add_str (pv 3) pe_str) (pv 5)) pe_str) pa_nil)))))⟩)
      (pssw_one (⟨ps_ret (pe_ix ix_list (pe_op op_cat (pv 6) (pe_lst (pa_cons (pe_op op_add_str (pe_op op_add_str (pv 3) pe_str) (pv 5)) pa_nil))) (pe_op op_mod (pv 1) pe_int) (fun _ _=>rfl))⟩))))),?_⟩
    have hs0:sizeLine=16777216:=sizeLine_eq
    refine⟨by show 13≤sizeLine;decide,fun a1 h1=>?_⟩
    have s1:=same_new (o:=.lst (B13.map V.str)) h1
    have e1:(upd H a1 (.lst (B13.map V.str))) a1=some (.lst (B13.map V.str)):=upd_same
    generalize upd H a1 (.lst (B13.map V.str))=H1 at s1 e1 ⊢
    refine⟨_,rfl,_,_,rfl,rfl,_,rfl,?_⟩
    rw[dot_of]
    cases b with
    | true =>
      have hd:Digs z:=hz
      rw[decide_eq_false hd.free.2]
      refine iteT ⟨_,rfl,by show 3≤sizeLine;decide,fun a2 h2=>?_⟩
      have s2:=same_new (o:=.lst (B3.map V.str)) h2
      refine⟨a1,a2,_,_,rfl,rfl,s2 _ _ e1,upd_same,by show 16≤sizeLine;decide,fun a3 h3=>?_⟩
      have s3:=same_new (o:=.lst (B13.map V.str++B3.map V.str)) h3
      have n0:=Int.emod_nonneg x (show(16:Int)≠0 by decide)
      have n1:=Int.emod_lt_of_pos x (show(0:Int)<16 by decide)
      obtain⟨y,hy⟩:=get_of_lt (xs:=B13++B3) (j:=(x % 16).toNat) (by show _<16;omega)
      obtain⟨q1,q2,q3⟩:=b16 (ZP hy)
      exact⟨_,rfl,_,_,rfl,rfl,(show(0:Int)<16 by decide),a3,_,_,_,rfl,rfl,SqL.of upd_same,atI_at n0 (by rw[←ZF,ZH,hy];rfl),k y _ (same_trans s1 (same_trans s2 s3)) q1 q2 (by omega)⟩
    | false =>
      obtain⟨a,b,da,db,rfl⟩:∃a b,Digs a∧Digs b∧z=a++"."++b:=hz
      rw[decide_eq_true (show 46∈(a++"."++b).cps.toList by rw[cat_list];simp)]
      have la:=da.l
      have lb:=db.l
      have ld:Str.length "."=1:=rfl
      have lz:(a++"."++b).length≤19:=by rw[Str.length_append,Str.length_append];omega
      obtain⟨is,ho⟩:=part_at (b:=b) da.free.2
      refine iteF ⟨_,rfl,rfl,_,".",_,is,rfl,rfl,rfl,by omega,ho,fun t2 h2=>?_⟩
      rw[part_l,part_r]
      have s2:=same_new (o:=.tup [.str a,.str ".",.str b]) h2
      refine⟨t2,_,rfl,SqT.of upd_same,rfl,_,_,rfl,_,_,rfl,_,_,rfl,rfl,?_⟩
      have e2:(upd H1 t2 (.tup [.str a,.str ".",.str b])) a1=some (.lst (B13.map V.str)):=s2 _ _ e1
      have s02:=same_trans s1 s2
      generalize upd H1 t2 (.tup [.str a,.str ".",.str b])=H2 at s02 e2 ⊢
      have n0:=Int.emod_nonneg (x / 5) (show(13:Int)≠0 by decide)
      have n1:=Int.emod_lt_of_pos (x / 5) (show(0:Int)<13 by decide)
      obtain⟨y,hy⟩:=get_of_lt (xs:=B13) (j:=(x / 5 % 13).toNat) (by show _<13;omega)
      have my:=ZP hy
      obtain⟨y1,y2,y3,y4⟩:=b13 my
      have ix:∀{H':Hp} {Q':VK},Same H2 H'→Q' (.str y) H'→rIxL K (.ref a1) (.int (x / 5 % 13)) H' Q':=fun s' h=>⟨a1,_,_,_,rfl,rfl,SqL.of (s' _ _ e2),atI_at n0 (by rw[ZH,hy];rfl),h⟩
      have l0:Str.length ".0"=2:=rfl
      have l2:Str.length ".."=2:=rfl
      refine⟨_,rfl,_,rfl,_,_,rfl,rfl,⟨by decide,by decide⟩,_,_,rfl,rfl,(show(0:Int)<13 by decide),ix (Same.refl _) ⟨_,_,rfl,rfl,by omega,_,rfl,_,_,rfl,rfl,by rw[Str.length_append];omega,?_⟩⟩
      refine⟨_,rfl,_,_,rfl,rfl,by omega,_,rfl,_,rfl,_,_,rfl,rfl,⟨by decide,by decide⟩,_,_,rfl,rfl,(show(0:Int)<13 by decide),ix (Same.refl _) ⟨_,_,rfl,rfl,by rw[Str.length_append];omega,?_⟩⟩
      refine⟨_,rfl,_,rfl,_,_,rfl,rfl,by omega,_,rfl,_,_,rfl,rfl,by rw[Str.length_append];omega,_,_,rfl,rfl,by rw[Str.length_append,Str.length_append];omega,by show 4≤sizeLine;decide,fun a4 h4=>?_⟩
      have s4:=same_new (o:=.lst ([y++"."++b,a++"."++y,a,a++"."++b++".0"].map V.str)) h4
      refine⟨_,rfl,_,rfl,_,_,rfl,rfl,by omega,_,rfl,_,_,rfl,rfl,by rw[Str.length_append];omega,by show 1≤sizeLine;decide,fun a5 h5=>?_⟩
      have s5:=same_new (o:=.lst ([a++".."++b].map V.str)) h5
      refine⟨a4,a5,_,_,rfl,rfl,s5 _ _ upd_same,upd_same,by show 5≤sizeLine;decide,fun a6 h6=>?_⟩
      have s6:=same_new (o:=.lst ([y++"."++b,a++"."++y,a,a++"."++b++".0",a++".."++b].map V.str)) h6
      have m0:=Int.emod_nonneg x (show(5:Int)≠0 by decide)
      have m1:=Int.emod_lt_of_pos x (show(0:Int)<5 by decide)
      obtain⟨u,hu⟩:=get_of_lt (xs:=[y++"."++b,a++"."++y,a,a++"."++b++".0",a++".."++b]) (j:=(x % 5).toNat) (by show _<5;omega)
      refine⟨_,rfl,_,_,rfl,rfl,(show(0:Int)<5 by decide),a6,_,_,_,rfl,rfl,SqL.of upd_same,atI_at m0 (v:=V.str u) (by
        show([y++"."++b,a++"."++y,a,a++"."++b++".0",a++".."++b].map V.str)[(x % 5).toNat]?=_
        rw[ZH,hu];rfl),?_⟩
      have ss:=same_trans s02 (same_trans s4 (same_trans s5 s6))
      have fa:=da.free
      have fb:=db.free
      have free2:∀{p q:Str},32∉p.cps.toList→32∉q.cps.toList→32∉(p++"."++q).cps.toList:=fun h1 h2 m=>by
        rw[cat_list] at m
        rcases ZI m with m|m
        · exact h1 m
        · rcases ZM m with m|m
          · cases m
          · exact h2 m
      have c0:a++"."++b++".0"=a++"."++b++"."++"0":=str_ext (by rw[cat_list,Str.cps_append,Array.toList_append,cat_list];rfl)
      have c1:a++".."++b=a++"."++""++"."++b:=str_ext (by rw[cat_list,cat_list,Str.cps_append,Str.cps_append,Array.toList_append,Array.toList_append];simp;rfl)
      have hu':=ZP hu
      simp only[List.mem_cons,List.not_mem_nil,or_false] at hu'
      rcases hu' with rfl|rfl|rfl|rfl|rfl
      · exact k _ _ ss (bad_t0 my db) (free2 y2 fb.1) (by rw[Str.length_append,Str.length_append];omega)
      · exact k _ _ ss (bad_t1 my da) (free2 fa.1 y2) (by rw[Str.length_append,Str.length_append];omega)
      · exact k _ _ ss (bad_t2 da) fa.1 (by omega)
      · rw[c0]
        exact k _ _ ss (bad_t3 fa.2 fb.2 (by decide +kernel)) (free2 (free2 fa.1 fb.1) (by decide +kernel)) (by rw[Str.length_append,Str.length_append,show Str.length "0"=1 from rfl];omega)
      · rw[c1]
        exact k _ _ ss (bad_t3 fa.2 (by decide +kernel) fb.2) (free2 (free2 fa.1 (by decide +kernel)) fb.1) (by rw[Str.length_append,Str.length_append,Str.length_append,Str.length_append,show Str.length ""=0 from rfl];omega)
end
end K53
namespace K53
open PySem L2 FX
set_option linter.all false
section
variable {P:Program}{w:World}{K:PySem.W.Frag}{mg:Str→Option Value}{base:Heap}{NR:Addr}
inductive spOdd(vs:List V)(H:Hp)(Q:VK)(E:XK):Prop
  | mk (_:vs=[]) (_:∀(l:Addr)(H':Hp),Same H H'→H' l=some (.lst (Odd.map V.str))→Q (.ref l) H')
theorem scOdd:FnScope ["_law_odd_here"] [] (defScope sOdd):=⟨rfl,rfl,rfl,by decide +kernel,rfl,by decide +kernel,by decide +kernel⟩
theorem ok_odd{f:Addr}{fd:FuncData}(F:Fun K "_law_odd" "_law_odd" sOdd f fd):FnOk P w K mg base CX0 1 f fd [] spOdd:=by
  refine okw F scOdd (fun vs H Q E h=>?_) (fun cdv A outer s H vs Q E hr h=>?_)
  · obtain⟨rfl,_⟩:=h
    rfl
  · obtain⟨rfl,k⟩:=h
    refine⟨_,pssw_cons (psw_strs (i:=0) (x:="_law_odd_here") (vs:=O1) (by rfl) scOdd.nd rfl (Or.inl rfl) (Or.inl rfl))
      (pssw_cons (psw_cstrs (i:=0) (j:=0) (x:="_law_odd_here") (y:="_law_odd_here") (vs:=O2) (by rfl) scOdd.nd rfl (Or.inl rfl) (Or.inl rfl) rfl (Or.inl rfl) (by decide) (by decide))
      (pssw_cons (psw_cstrs (i:=0) (j:=0) (x:="_law_odd_here") (y:="_law_odd_here") (vs:=O3) (by rfl) scOdd.nd rfl (Or.inl rfl) (Or.inl rfl) rfl (Or.inl rfl) (by decide) (by decide))
      (pssw_cons (psw_cstrs (i:=0) (j:=0) (x:="_law_odd_here") (y:="_law_odd_here") (vs:=O4) (by rfl) scOdd.nd rfl (Or.inl rfl) (Or.inl rfl) rfl (Or.inl rfl) (by decide) (by decide))
      (pssw_one (psw_rstrs (j:=0) (y:="_law_odd_here") (vs:=O5) (by rfl) rfl (Or.inl rfl) (by decide) (by decide)))))),?_⟩
    have step:∀{a b:Addr} {H':Hp} {xs ys:List Str} {Q':VK},Same H H'→H' a=some (.lst (xs.map V.str))→xs.length+ys.length≤100→(∀p H2,Same H H2→H2 p=some (.lst ((xs++ys).map V.str))→Q' (.ref p) H2) →
        ItLst (ys.map V.str) H' fun y H1=>rCat (.ref a) y H1 Q':=fun{a b H' xs ys Q'} s e l q=>by
      have hs0:sizeLine=16777216:=sizeLine_eq
      refine⟨by rw[ZA];omega,fun a2 h2=>?_⟩
      have s2:=same_new (o:=.lst (ys.map V.str)) h2
      refine⟨a,a2,_,_,rfl,rfl,s2 _ _ e,upd_same,by rw[ZA,ZA];omega,fun p hp=>?_⟩
      have s3:=same_new (o:=.lst (xs.map V.str++ys.map V.str)) hp
      exact q p _ (same_trans s (same_trans s2 s3)) (by rw[ZF];exact upd_same)
    refine⟨by show 11≤sizeLine;decide,fun a1 h1=>?_⟩
    have s1:=same_new (o:=.lst (O1.map V.str)) h1
    refine⟨_,rfl,step (b:=a1) s1 upd_same (by decide) fun a2 H2 s2 e2=>?_⟩
    refine⟨_,rfl,step (b:=a1) s2 e2 (by decide) fun a3 H3 s3 e3=>?_⟩
    refine⟨_,rfl,step (b:=a1) s3 e3 (by decide) fun a4 H4 s4 e4=>?_⟩
    exact⟨_,rfl,step (b:=a1) s4 e4 (by decide) fun a5 H5 s5 e5=>k a5 H5 s5 e5⟩
theorem len_join:∀(ys:List Str),(∀y∈ys,y.length≤40)→(Str.join " " ys).length≤41*ys.length
  | [],_=>Nat.zero_le _
  | [a],h=>by rw[join_one];have:=h a (by simp);simp;omega
  | a::b::r,h=>by
    have:=len_join (b::r) (fun y hy=>h y (ZD _ hy))
    have ha:=h a (by simp)
    rw[len_list,show(" ":Str)=one 32 from rfl,join_cons2,ZE,List.length_cons,←len_list,←len_list]
    rw[show(" ":Str)=one 32 from rfl] at this
    simp only[List.length_cons] at this ⊢
    omega
theorem sum40:∀{ys:List Str},(∀y∈ys,y.length≤40)→(ys.map (·.length)).sum≤40*ys.length
  | [],_=>ZG _
  | a::r,h=>by
    have:=sum40 (ys:=r) (fun y hy=>h y (ZD _ hy))
    have ha:=h a (by simp)
    simp only[List.map_cons,List.sum_cons,List.length_cons]
    omega
theorem joins{K:PySem.W.Frag}{l:Addr}{ys:List Str}{H:Hp}{Q:VK}(e:H l=some (.lst (ys.map V.str)))(hy:∀y∈ys,y.length≤40)(hl:ys.length≤6)(q:Q (.str (Str.join " " ys)) H):rJoin K (.str " ") [.ref l] H Q:=⟨" ",l,ys,rfl,rfl,SqL.of e,by have:=sum40 hy;rw[show Str.length " "=1 from rfl,Nat.mul_one];omega,q⟩
theorem mul_ok(b:Bool):MulOk " " (if b=true then 1 else 0):=by
  cases b
  · exact⟨by decide,fun h=>absurd (by decide) h,fun h=>absurd (by decide) h⟩
  · exact⟨by decide,fun _ h=>by simp at h,fun _ h=>by simp at h⟩
theorem mul_eq(b:Bool):Txt.mul " " (if b=true then 1 else 0)=if b=true then " " else "":=by cases b<;>rfl
theorem blank_eq{v:Str}{ws:List Str}{i:Nat}(hi:i≤ws.length):Str.join " " ((v::ws).take i)++Txt.mul " " (if decide ((0:Int)<(i:Int))=true then 1 else 0)++" "++Str.join " " ((v::ws).drop i)=Str.join " " ((v::ws).take i++[("":Str)]++(v::ws).drop i):=by
  have hd:(v::ws).drop i≠[]:=fun e=>by
    have:=congrArg List.length e
    rw[List.length_drop] at this
    simp only[List.length_cons,List.length_nil] at this
    omega
  rw[mul_eq]
  cases i with
  | zero =>
    rw[if_neg (by simp),List.take_zero,List.drop_zero,List.nil_append,join_app _ (by simp) (by simp),join_one]
    rfl
  | succ j =>
    rw[if_pos (by simp),List.append_assoc,join_app _ (by simp) (by simp),join_app _ (by simp) hd,join_one]
    exact str_ext (by simp[Str.cps_append];rfl)
inductive spSpoiled(vs:List V)(H:Hp)(Q:VK)(E:XK):Prop
  | mk (a:Addr) (xs:List Int) (_:vs=[.ref a]) (_:H a=some (.lst (xs.map V.int))) (_:xs.length=9) (_:∀x∈xs,Rg x) (_:∀(z:Str)(H':Hp),Same H H'→BadR z→z.length≤1000→Q (.str z) H')
theorem scSpoiled:FnScope ["_law_xs","_law_pieces","_law_at","_law_row"] ["_law_xs"] (defScope sSpoiled):=⟨rfl,rfl,rfl,by decide +kernel,rfl,by decide +kernel,by decide +kernel⟩
theorem ok_spoiled{f fG fB fO:Addr}{fd dG dB dO:FuncData}(F:Fun K "_law_spoiled" "_law_spoiled" sSpoiled f fd)(hlen:mg "len"=none)(hint:mg "int"=none)(MG:Gdf K mg "_law_good" sGood ["_law_xs"] fG dG)(GG:FnOk P w K mg base CX0 2 fG dG ["_law_xs"] spGood)(MB:Gdf K mg "_law_bad" sBad ["_law_piece","_law_x"] fB dB)(GB:FnOk P w K mg base CX0 1 fB dB ["_law_piece","_law_x"] spBad)(MO:Gdf K mg "_law_other_word" sOther ["_law_word","_law_x"] fO dO)(GO:FnOk P w K mg base CX0 1 fO dO ["_law_word","_law_x"] spOther):FnOk P w K mg base CX0 3 f fd ["_law_xs"] spSpoiled:=by
  refine okw F scSpoiled (fun vs H Q E h=>?_) (fun cdv A outer s H vs Q E hr h=>?_)
  · obtain⟨a,xs,rfl,_⟩:=h
    rfl
  · obtain⟨a,xs,rfl,ha,hx,hR,k⟩:=h
    have hr1:Room 1 _:=hr.mono (by decide)
    refine⟨_,pssw_cons (⟨ps_set (i:=1) scSpoiled.nd rfl (Or.inl rfl) (pe_call GG hr (by rfl) MG.mg MG.fn.kp MG.bd .nil pass0 (pa_cons (pv 0) pa_nil))⟩)
      (pssw_cons (⟨ps_set (i:=2) scSpoiled.nd rfl (Or.inl rfl) (pe_op op_mod (pe_ix ix_list (pv 0) pe_int (fun _ _=>rfl)) (pe_callB call_len_seq (by rfl) hlen PySem.boot_len (pa_cons (pv 1) pa_nil)))⟩)
      (pssw_cons (⟨ps_if (pt_cmpR op_eq (pe_op op_mod (pe_ix ix_list (pv 0) pe_int (fun _ _=>rfl)) pe_int) pe_int (nomark _)) (pss_one (ps_ret (pe_bm PySem.F.plainAttrs_str PySem.F.slot_str_join PySem.F.type_str_join mt_join pe_str (pa_cons (pe_op op_cat (pe_slice sl_list (pv 1) po_none (po_some (pv 2))) (pe_slice sl_list (pv 1) (po_some (pe_op op_add (pv 2) pe_int)) po_none)) pa_nil)))) pss_nil⟩)
      (pssw_cons (⟨ps_if (pt_cmpR op_eq (pe_op op_mod (pe_ix ix_list (pv 0) pe_int (fun _ _=>rfl)) pe_int) pe_int (nomark _)) (pss_one (ps_ret (pe_bm PySem.F.plainAttrs_str PySem.F.slot_str_join PySem.F.type_str_join mt_join pe_str (pa_cons (pe_op op_cat (pe_op op_cat (pe_slice sl_list (pv 1) po_none (po_some (pe_op op_add (pv 2) pe_int))) (pe_lst (pa_cons (pe_ix ix_list (pe_lst (pa_cons pe_str (pa_cons pe_str (pa_cons pe_str pa_nil)))) (pe_op op_mod (pe_ix ix_list (pv 0) pe_int (fun _ _=>rfl)) pe_int) (fun _ _=>rfl)) pa_nil))) (pe_slice sl_list (pv 1) (po_some (pe_op op_add (pv 2) pe_int)) po_none)) pa_nil)))) pss_nil⟩)
      (pssw_cons (⟨ps_if (pt_cmpR op_eq (pe_op op_mod (pe_ix ix_list (pv 0) pe_int (fun _ _=>rfl)) pe_int) pe_int (nomark _)) (pss_cons (ps_set (i:=3) scSpoiled.nd rfl (Or.inl rfl) (pe_op op_add_str (pe_op op_add_str (pe_op op_add_str (pe_bm PySem.F.plainAttrs_str PySem.F.slot_str_join PySem.F.type_str_join mt_join pe_str (pa_cons (pe_slice sl_list (pv 1) po_none (po_some (pv 2))) pa_nil)) (pe_op op_mul_str pe_str (pe_callTy call_int1 (by rfl) hint PyProof.Rows.boot_int (pa_cons (pe_cmpR op_gt (pv 2) pe_int (nomark _)) pa_nil)))) pe_str) (pe_bm PySem.F.plainAttrs_str PySem.F.slot_str_join PySem.F.type_str_join mt_join pe_str (pa_cons (pe_slice sl_list (pv 1) (po_some (pv 2)) po_none) pa_nil)))) (pss_one (ps_ret (pe_ix ix_list (pe_lst (pa_cons (pv 3) (pa_cons (pe_op op_add_str (pe_bm PySem.F.plainAttrs_str PySem.F.slot_str_join PySem.F.type_str_join mt_join pe_str (pa_cons (pv 1) pa_nil)) pe_str) pa_nil))) (pe_op op_mod (pe_ix ix_list (pv 0) pe_int (fun _ _=>rfl)) pe_int) (fun _ _=>rfl))))) pss_nil⟩)
      (pssw_cons (⟨ps_if (PW.pt (pw_and (pt_cmpR op_eq (pe_op op_mod (pe_ix ix_list (pv 0) pe_int (fun _ _=>rfl)) pe_int) pe_int (nomark _)) (pw_and1 (pt_cmpR op_gt (pe_callB call_len_seq (by rfl) hlen PySem.boot_len (pa_cons (pv 1) pa_nil)) pe_int (nomark _))))) (pss_cons (ps_set (i:=2) scSpoiled.nd rfl (Or.inl rfl) (pe_op op_add pe_int (pe_op op_mod (pe_ix ix_list (pv 0) pe_int (fun _ _=>rfl)) (pe_op op_sub (pe_callB call_len_seq (by rfl) hlen PySem.boot_len (pa_cons (pv 1) pa_nil)) pe_int)))) (pss_one (ps_ret (pe_bm PySem.F.plainAttrs_str PySem.F.slot_str_join PySem.F.type_str_join mt_join pe_str (pa_cons (pe_op op_cat (pe_op op_cat (pe_slice sl_list (pv 1) po_none (po_some (pv 2))) (pe_lst (pa_cons (pe_call GB hr1 (by rfl) MB.mg MB.fn.kp MB.bd .nil pass0 (pa_cons (pe_ix ix_list (pv 1) (pv 2) (fun _ _=>rfl)) (pa_cons (pe_ix ix_list (pv 0) pe_int (fun _ _=>rfl)) pa_nil))) pa_nil))) (pe_slice sl_list (pv 1) (po_some (pe_op op_add (pv 2) pe_int)) po_none)) pa_nil))))) pss_nil⟩)
      (pssw_one (⟨ps_ret (pe_bm PySem.F.plainAttrs_str PySem.F.slot_str_join PySem.F.type_str_join mt_join pe_str (pa_cons (pe_op op_cat (pe_lst (pa_cons (pe_call GO hr1 (by rfl) MO.mg MO.fn.kp MO.bd .nil pass0 (pa_cons (pe_ix ix_list (pv 1) pe_int (fun _ _=>rfl)) (pa_cons (pe_ix ix_list (pv 0) pe_int (fun _ _=>rfl)) pa_nil))) pa_nil)) (pe_slice sl_list (pv 1) (po_some pe_int) po_none)) pa_nil))⟩))))))),?_⟩
    have hs0:sizeLine=16777216:=sizeLine_eq
    obtain⟨x5,hx5⟩:=get_of_lt (xs:=xs) (j:=5) (by omega)
    obtain⟨x6,hx6⟩:=get_of_lt (xs:=xs) (j:=6) (by omega)
    obtain⟨x7,hx7⟩:=get_of_lt (xs:=xs) (j:=7) (by omega)
    have ix5:∀{H':Hp} {Q':VK},Same H H'→Q' (.int x5) H'→rIxL K (.ref a) (.int 5) H' Q':=fun s' h=>⟨a,_,_,_,rfl,rfl,SqL.of (s' _ _ ha),atI_at (by decide) (by rw[ZH,show(5:Int).toNat=5 from rfl,hx5];rfl),h⟩
    have ix6:∀{H':Hp} {Q':VK},Same H H'→Q' (.int x6) H'→rIxL K (.ref a) (.int 6) H' Q':=fun s' h=>⟨a,_,_,_,rfl,rfl,SqL.of (s' _ _ ha),atI_at (by decide) (by rw[ZH,show(6:Int).toNat=6 from rfl,hx6];rfl),h⟩
    have ix7:∀{H':Hp} {Q':VK},Same H H'→Q' (.int x7) H'→rIxL K (.ref a) (.int 7) H' Q':=fun s' h=>⟨a,_,_,_,rfl,rfl,SqL.of (s' _ _ ha),atI_at (by decide) (by rw[ZH,show(7:Int).toNat=7 from rfl,hx7];rfl),h⟩
    refine⟨_,rfl,a,xs,rfl,ha,hx,hR,fun l v fs ws H1 s1 pc e1=>?_⟩
    have few:=pc.few
    have ll:((v::ws).map V.str).length=ws.length+1:=by rw[ZA,List.length_cons]
    have p40:∀y∈v::ws,y.length≤40:=fun y hy=>Nat.le_trans (pc.lens y hy) (by decide)
    refine⟨_,rfl,ix6 s1 ⟨_,rfl,l,_,rfl,.inl (SqL.of e1),_,_,rfl,rfl,by rw[ll];omega,?_⟩⟩
    have z0:=Int.emod_nonneg x6 (show((((v::ws).map V.str).length:Nat):Int)≠0 by rw[ll];omega)
    have z1:=Int.emod_lt_of_pos x6 (show(0:Int)<((((v::ws).map V.str).length:Nat):Int) by rw[ll];omega)
    obtain⟨i,ei⟩:=Int.eq_ofNat_of_zero_le z0
    rw[ei] at z1
    rw[ei]
    have hi:i≤ws.length:=by rw[ll] at z1;omega
    have slTo:∀{j:Nat} {H':Hp} {Q':VK},Same H1 H'→(∀p,H' p=none→Q' (.ref p) (upd H' p (.lst (((v::ws).take j).map V.str))))→rSlL K (.ref l) none (some (j:Int)) H' Q':=fun{j H' Q'} s' q=>⟨l,_,rfl,SqL.of (s' _ _ e1),fun p h=>by rw[cut_to,←List.map_take];exact q p h⟩
    have slFr:∀{j:Nat} {H':Hp} {Q':VK},Same H1 H'→(∀p,H' p=none→Q' (.ref p) (upd H' p (.lst (((v::ws).drop j).map V.str))))→rSlL K (.ref l) (some (j:Int)) none H' Q':=fun{j H' Q'} s' q=>⟨l,_,rfl,SqL.of (s' _ _ e1),fun p h=>by rw[cut_from,←List.map_drop];exact q p h⟩
    have catS:∀{p q:Addr} {H':Hp} {Q':VK} {ys zs:List Str},H' p=some (.lst (ys.map V.str))→H' q=some (.lst (zs.map V.str))→ys.length+zs.length≤100→(∀r,H' r=none→Q' (.ref r) (upd H' r (.lst ((ys++zs).map V.str))))→rCat (.ref p) (.ref q) H' Q':=fun{p q H' Q' ys zs} h1 h2 hl k'=>⟨p,q,_,_,rfl,rfl,h1,h2,by rw[ZA,ZA];omega,fun r hr=>by rw[←ZF];exact k' r hr⟩
    have i1:V.int ((i:Int)+1)=V.int ((i+1:Nat):Int):=by push_cast;rfl
    have l40:∀{ys zs:List Str},(∀y∈ys,y.length≤40)→(∀y∈zs,y.length≤40)→∀y∈ys++zs,y.length≤40:=fun h1 h2 y hy=>(ZI hy).elim (h1 y) (h2 y)
    have t40:∀j,∀y∈(v::ws).take j,y.length≤40:=fun j y hy=>p40 y (List.mem_of_mem_take hy)
    have d40:∀j,∀y∈(v::ws).drop j,y.length≤40:=fun j y hy=>p40 y (List.mem_of_mem_drop hy)
    have tl:∀j,((v::ws).take j).length≤4:=fun j=>by rw[List.length_take];simp only[List.length_cons];omega
    have dl:∀j,((v::ws).drop j).length≤4:=fun j=>by rw[List.length_drop];simp only[List.length_cons];omega
    refine⟨_,rfl,ix7 s1 ⟨_,_,rfl,rfl,(show(0:Int)<5 by decide),rfl,_,rfl,?_⟩⟩
    split
    · refine⟨rfl,_,rfl,_,rfl,i,rfl,slTo (Same.refl _) fun p1 h1=>?_⟩
      have sa:=same_new (o:=.lst (((v::ws).take i).map V.str)) h1
      refine⟨_,rfl,_,rfl,_,_,rfl,rfl,((i+1:Nat):Int),i1,slFr sa fun p2 h2=>?_⟩
      have sb:=same_new (o:=.lst (((v::ws).drop (i+1)).map V.str)) h2
      refine catS (sb _ _ upd_same) upd_same (by have:=tl i;have:=dl (i+1);omega) fun p3 h3=>?_
      have sc:=same_new (o:=.lst (((v::ws).take i++(v::ws).drop (i+1)).map V.str)) h3
      have hy:=l40 (t40 i) (d40 (i+1))
      have hn:((v::ws).take i++(v::ws).drop (i+1)).length≤6:=by rw[ZE,List.length_take,List.length_drop];simp only[List.length_cons];omega
      exact joins upd_same hy hn (k _ _ (same_trans s1 (same_trans sa (same_trans sb sc))) (bad_drop pc i hi) (by have:=len_join _ hy;omega))
    refine⟨_,rfl,ix7 s1 ⟨_,_,rfl,rfl,(show(0:Int)<5 by decide),rfl,_,rfl,?_⟩⟩
    split
    · refine⟨rfl,_,rfl,_,rfl,_,_,rfl,rfl,((i+1:Nat):Int),i1,slTo (Same.refl _) fun p1 h1=>?_⟩
      have sa:=same_new (o:=.lst (((v::ws).take (i+1)).map V.str)) h1
      refine⟨by show 3≤sizeLine;decide,fun q1 g1=>?_⟩
      have sa1:=same_new (o:=.lst ([("0":Str),"0.0","none"].map V.str)) g1
      have n0:=Int.emod_nonneg x5 (show(3:Int)≠0 by decide)
      have n1:=Int.emod_lt_of_pos x5 (show(0:Int)<3 by decide)
      obtain⟨y,hy⟩:=get_of_lt (xs:=[("0":Str),"0.0","none"]) (j:=(x5 % 3).toNat) (by show _<3;omega)
      have my:32∉y.cps.toList∧y.length≤40:=by
        have q:([("0":Str),"0.0","none"].all fun w=>!(w.cps.toList.contains 32)&&decide (w.length≤40))=true:=by decide +kernel
        have:=List.all_eq_true.mp q _ (ZP hy)
        simp only[Bool.and_eq_true,Bool.not_eq_true',decide_eq_true_eq] at this
        exact⟨nocon this.1,this.2⟩
      refine⟨_,rfl,ix5 (same_trans s1 (same_trans sa sa1)) ⟨_,_,rfl,rfl,(show(0:Int)<3 by decide),q1,_,_,_,rfl,rfl,SqL.of upd_same,atI_at n0 (v:=V.str y) (by
        show([("0":Str),"0.0","none"].map V.str)[(x5 % 3).toNat]?=_
        rw[ZH,hy];rfl),by show 1≤sizeLine;decide,fun q2 g2=>?_⟩⟩
      have sa2:=same_new (o:=.lst ([y].map V.str)) g2
      refine catS (zs:=[y]) (sa2 _ _ (sa1 _ _ upd_same)) upd_same (by have:=tl (i+1);rw[List.length_singleton];omega) fun p2 h2=>?_
      have sb:=same_new (o:=.lst (((v::ws).take (i+1)++[y]).map V.str)) h2
      refine⟨_,rfl,_,rfl,_,_,rfl,rfl,((i+1:Nat):Int),i1,slFr (same_trans sa (same_trans sa1 (same_trans sa2 sb))) fun p3 h3=>?_⟩
      have sc:=same_new (o:=.lst (((v::ws).drop (i+1)).map V.str)) h3
      refine catS (sc _ _ upd_same) upd_same (by have:=tl (i+1);have:=dl (i+1);rw[ZE,List.length_singleton];omega) fun p4 h4=>?_
      have sd:=same_new (o:=.lst (((v::ws).take (i+1)++[y]++(v::ws).drop (i+1)).map V.str)) h4
      have hy2:=l40 (l40 (t40 (i+1)) (fun z hz=>by rw[ZK hz];exact my.2)) (d40 (i+1))
      have hn:((v::ws).take (i+1)++[y]++(v::ws).drop (i+1)).length≤6:=by rw[ZE,ZE,List.length_take,List.length_drop];simp only[List.length_cons,List.length_nil];omega
      exact joins upd_same hy2 hn (k _ _ (same_trans s1 (same_trans sa (same_trans sa1 (same_trans sa2 (same_trans sb (same_trans sc sd)))))) (bad_ins pc i hi my.1) (by have:=len_join _ hy2;omega))
    refine⟨_,rfl,ix7 s1 ⟨_,_,rfl,rfl,(show(0:Int)<5 by decide),rfl,_,rfl,?_⟩⟩
    split
    · refine⟨rfl,_,rfl,_,rfl,i,rfl,slTo (Same.refl _) fun p1 h1=>?_⟩
      have sa:=same_new (o:=.lst (((v::ws).take i).map V.str)) h1
      have hj1:=len_join _ (t40 i)
      have hj2:=len_join _ (d40 i)
      have ht1:=tl i
      have ht2:=dl i
      have lb:Str.length " "=1:=rfl
      have mb:=mul_eq (decide ((0:Int)<(i:Int)))
      have lm:(Txt.mul " " (if decide ((0:Int)<(i:Int))=true then 1 else 0)).length≤1:=by
        rw[mb];split<;>decide
      refine joins upd_same (t40 i) (by omega) ⟨_,rfl,(i:Int),0,rfl,rfl,.inr ⟨_,rfl," ",_,rfl,rfl,mul_ok _,?_⟩⟩
      refine⟨_,_,rfl,rfl,by omega,_,_,rfl,rfl,by rw[Str.length_append];omega,?_⟩
      refine⟨rfl,_,rfl,_,rfl,i,rfl,slFr sa fun p2 h2=>?_⟩
      have sb:=same_new (o:=.lst (((v::ws).drop i).map V.str)) h2
      refine joins upd_same (d40 i) (by omega) ⟨_,_,rfl,rfl,by rw[Str.length_append,Str.length_append];omega,?_⟩
      rw[blank_eq hi]
      have lr:(Str.join " " ((v::ws).take i++[("":Str)]++(v::ws).drop i)).length≤600:=by rw[←blank_eq hi,Str.length_append,Str.length_append,Str.length_append];omega
      have ja:=len_join _ p40
      have jl:(v::ws).length≤4:=by simp only[List.length_cons];omega
      refine⟨_,rfl,rfl,_,rfl,joins (sb _ _ (sa _ _ e1)) p40 (by omega) ⟨_,_,rfl,rfl,by omega,by show 2≤sizeLine;decide,fun p3 h3=>?_⟩⟩
      have sc:=same_new (o:=.lst ([Str.join " " ((v::ws).take i++[("":Str)]++(v::ws).drop i),Str.join " " (v::ws)++" "].map V.str)) h3
      have n0:=Int.emod_nonneg x5 (show(2:Int)≠0 by decide)
      have n1:=Int.emod_lt_of_pos x5 (show(0:Int)<2 by decide)
      obtain⟨y,hy⟩:=get_of_lt (xs:=[Str.join " " ((v::ws).take i++[("":Str)]++(v::ws).drop i),Str.join " " (v::ws)++" "]) (j:=(x5 % 2).toNat) (by show _<2;omega)
      refine⟨_,rfl,ix5 (same_trans s1 (same_trans sa (same_trans sb sc))) ⟨_,_,rfl,rfl,(show(0:Int)<2 by decide),p3,_,_,_,rfl,rfl,SqL.of upd_same,atI_at n0 (v:=V.str y) (by
        show([Str.join " " ((v::ws).take i++[("":Str)]++(v::ws).drop i),Str.join " " (v::ws)++" "].map V.str)[(x5 % 2).toNat]?=_
        rw[ZH,hy];rfl),?_⟩⟩
      have ss:=same_trans s1 (same_trans sa (same_trans sb sc))
      have my:=ZP hy
      simp only[List.mem_cons,List.not_mem_nil,or_false] at my
      rcases my with rfl|rfl
      · exact k _ _ ss (bad_blank pc i hi) (by omega)
      · have:Str.join " " (v::ws)++" "=Str.join " " ((v::ws)++[("":Str)]):=by
          rw[join_app _ (by simp) (by simp),join_one]
          exact str_ext (by simp[Str.cps_append];rfl)
        exact k _ _ ss (by rw[this];exact bad_end pc) (by rw[Str.length_append];omega)
    refine⟨_,rfl,ix7 s1 ⟨_,_,rfl,rfl,(show(0:Int)<5 by decide),rfl,_,rfl,?_⟩⟩
    have fin:∀{T:Prop},T→T:=fun h=>h
    cases c5:decide (V.int (x7 % 5)=V.int 3) with
    | false =>
      refine iteF (iteF ?_)
      refine⟨rfl,_,rfl,⟨l,_,0,V.str v,rfl,rfl,SqL.of e1,atI_at (Int.le_refl 0) rfl,_,rfl,ix5 s1 ⟨v,fs,x5,rfl,pc.l,fun z H2 s2 mz=>?_⟩⟩⟩
      obtain⟨z1,z2,z3⟩:=oth_at pc.l mz
      refine⟨by show 1≤sizeLine;decide,fun p1 h1=>?_⟩
      have sa:=same_new (o:=.lst ([z].map V.str)) h1
      refine⟨_,rfl,((1:Nat):Int),rfl,slFr (same_trans s2 sa) fun p2 h2=>?_⟩
      have sb:=same_new (o:=.lst (((v::ws).drop 1).map V.str)) h2
      refine catS (ys:=[z]) (sb _ _ upd_same) upd_same (by have:=dl 1;rw[List.length_singleton];omega) fun p3 h3=>?_
      have sc:=same_new (o:=.lst (([z]++(v::ws).drop 1).map V.str)) h3
      have hy:=l40 (fun y hy=>by rw[ZK hy];omega:∀y∈[z],y.length≤40) (d40 1)
      have hn:([z]++(v::ws).drop 1).length≤6:=by rw[ZE,List.length_singleton];have:=dl 1;omega
      exact joins upd_same hy hn (k _ _ (same_trans s1 (same_trans s2 (same_trans sa (same_trans sb sc)))) (bad_word pc z1 z3) (by have:=len_join _ hy;omega))
    | true =>
      refine iteT ⟨_,rfl,l,_,rfl,.inl (SqL.of e1),_,_,rfl,rfl,_,rfl,?_⟩
      rw[ll]
      by_cases hw:ws.length=0
      · rw[decide_eq_false (by omega)]
        refine iteF ?_
        refine⟨rfl,_,rfl,⟨l,_,0,V.str v,rfl,rfl,SqL.of e1,atI_at (Int.le_refl 0) rfl,_,rfl,ix5 s1 ⟨v,fs,x5,rfl,pc.l,fun z H2 s2 mz=>?_⟩⟩⟩
        obtain⟨z1,z2,z3⟩:=oth_at pc.l mz
        refine⟨by show 1≤sizeLine;decide,fun p1 h1=>?_⟩
        have sa:=same_new (o:=.lst ([z].map V.str)) h1
        refine⟨_,rfl,((1:Nat):Int),rfl,slFr (same_trans s2 sa) fun p2 h2=>?_⟩
        have sb:=same_new (o:=.lst (((v::ws).drop 1).map V.str)) h2
        refine catS (ys:=[z]) (sb _ _ upd_same) upd_same (by have:=dl 1;rw[List.length_singleton];omega) fun p3 h3=>?_
        have sc:=same_new (o:=.lst (([z]++(v::ws).drop 1).map V.str)) h3
        have hy:=l40 (fun y hy=>by rw[ZK hy];omega:∀y∈[z],y.length≤40) (d40 1)
        have hn:([z]++(v::ws).drop 1).length≤6:=by rw[ZE,List.length_singleton];have:=dl 1;omega
        exact joins upd_same hy hn (k _ _ (same_trans s1 (same_trans s2 (same_trans sa (same_trans sb sc)))) (bad_word pc z1 z3) (by have:=len_join _ hy;omega))
      · rw[decide_eq_true (by omega)]
        refine iteT ⟨_,rfl,ix6 s1 ⟨_,rfl,l,_,rfl,.inl (SqL.of e1),_,_,rfl,rfl,_,_,rfl,rfl,by rw[ll];omega,_,_,rfl,rfl,?_⟩⟩
        rw[ll]
        have y0:=Int.emod_nonneg x6 (show(((ws.length+1:Nat):Int)-1)≠0 by omega)
        have y1:=Int.emod_lt_of_pos x6 (show(0:Int)<(((ws.length+1:Nat):Int)-1) by omega)
        obtain⟨j,ej⟩:=Int.eq_ofNat_of_zero_le y0
        rw[ej] at y1
        rw[ej]
        have hj:j<ws.length:=by omega
        obtain⟨g,hg⟩:=get_of_lt (xs:=fs) (j:=j) (by rw[pc.len];exact hj)
        obtain⟨u,hu⟩:=get_of_lt (xs:=ws) (j:=j) hj
        have po:PieceOk g u:=paired_get pc.p j g u hg hu
        have i1':V.int (1+(j:Int))=V.int ((j+1:Nat):Int):=by rw[show(1:Int)+j=((j+1:Nat):Int) by push_cast;omega]
        have i2':V.int (1+(j:Int)+1)=V.int ((j+2:Nat):Int):=by rw[show(1:Int)+j+1=((j+2:Nat):Int) by push_cast;omega]
        refine⟨rfl,_,rfl,_,rfl,((j+1:Nat):Int),i1',slTo (Same.refl _) fun p1 h1=>?_⟩
        have sa:=same_new (o:=.lst (((v::ws).take (j+1)).map V.str)) h1
        refine⟨_,rfl,_,rfl,⟨l,_,_,V.str u,rfl,rfl,SqL.of (sa _ _ e1),atI_at (by omega) (by rw[show((1:Int)+(j:Int)).toNat=j+1 by omega,ZH,List.getElem?_cons_succ,hu];rfl),_,rfl,ix5 (same_trans s1 sa) ⟨u,g,x5,rfl,po,rg_at hR hx5,fun y H2 s2 b1 b2 b3=>?_⟩⟩⟩
        refine⟨by show 1≤sizeLine;decide,fun p2 h2=>?_⟩
        have sb:=same_new (o:=.lst ([y].map V.str)) h2
        refine catS (zs:=[y]) (sb _ _ (s2 _ _ upd_same)) upd_same (by have:=tl (j+1);rw[List.length_singleton];omega) fun p3 h3=>?_
        have sc:=same_new (o:=.lst (((v::ws).take (j+1)++[y]).map V.str)) h3
        refine⟨_,rfl,_,rfl,_,_,rfl,rfl,((j+2:Nat):Int),i2',slFr (same_trans sa (same_trans s2 (same_trans sb sc))) fun p4 h4=>?_⟩
        have sd:=same_new (o:=.lst (((v::ws).drop (j+2)).map V.str)) h4
        refine catS (sd _ _ upd_same) upd_same (by have:=tl (j+1);have:=dl (j+2);rw[ZE,List.length_singleton];omega) fun p5 h5=>?_
        have se:=same_new (o:=.lst (((v::ws).take (j+1)++[y]++(v::ws).drop (j+2)).map V.str)) h5
        have hy2:=l40 (l40 (t40 (j+1)) (fun z hz=>by rw[ZK hz];exact b3)) (d40 (j+2))
        have hn:((v::ws).take (j+1)++[y]++(v::ws).drop (j+2)).length≤6:=by rw[ZE,ZE,List.length_take,List.length_drop];simp only[List.length_cons,List.length_nil];omega
        exact joins upd_same hy2 hn (k _ _ (same_trans s1 (same_trans sa (same_trans s2 (same_trans sb (same_trans sc (same_trans sd se)))))) (bad_piece pc j hg b2 b1) (by have:=len_join _ hy2;omega))
end
end K53
namespace K53
open PySem L2 FX
set_option linter.all false
section
variable {P:Program}{w:World}{K:PySem.W.Frag}{mg:Str→Option Value}{base:Heap}{HE NR FA CD CW C CP CI NH NI NL NHd NNr MI NW:Addr}{H:Hp}{p pw:Addr}{W:WGh}{Q:VK}{E:XK}
theorem desk_at(S:DeskAt CD CW C CP H p pw W):∃dx fs,H p=some (.ins CD dx fs)∧fs.lookup ("move":Str)=none∧fs.lookup ("act":Str)=none∧fs.lookup ("look":Str)=none:=by
  obtain⟨dx,e⟩:=S.ob
  exact⟨dx,_,e,by rfl,by rfl,by rfl⟩
theorem say_look{z v:Str}{ws:List Str}{as:List FX.Arg}(S:DeskAt CD CW C CP H p pw W)(hz:z.length≤1000)(hs:Txt.split z " "=v::ws)(hr:rdWords v ws=some as)(n1:inV (.str v) mvL=false)(n2:inV (.str v) acL=false)(k:∀r xs H1,Same H H1→H1 r=some (.lst xs)→Paired (ArgAt H1) xs as→spLook CD CW C CP NH NI MI K [.ref p,.str v,.ref r] H1 Q E):spSay CD CW C CP NH NHd NNr NL NI MI NR K [.ref p,.str z] H Q E :=
  .good p z v ws as rfl hz (desk_at S) hs hr fun r xs H1 s1 e1 pa=>⟨(fun h=>by rw[n1] at h;cases h),(fun _ h=>by rw[n2] at h;cases h),fun _ _=>k r xs H1 s1 e1 pa⟩
theorem say_act{z v:Str}{ws:List Str}{as:List FX.Arg}(S:DeskAt CD CW C CP H p pw W)(hz:z.length≤1000)(hs:Txt.split z " "=v::ws)(hr:rdWords v ws=some as)(n1:inV (.str v) mvL=false)(n2:inV (.str v) acL=true)(k:∀r xs H1,Same H H1→H1 r=some (.lst xs)→Paired (ArgAt H1) xs as→spAct CD CW C CP NH NHd NL K [.ref p,.str v,.ref r] H1 Q E):spSay CD CW C CP NH NHd NNr NL NI MI NR K [.ref p,.str z] H Q E :=
  .good p z v ws as rfl hz (desk_at S) hs hr fun r xs H1 s1 e1 pa=>⟨(fun h=>by rw[n1] at h;cases h),(fun _ _=>k r xs H1 s1 e1 pa),(fun _ h=>by rw[n2] at h;cases h)⟩
theorem say_move{z v:Str}{ws:List Str}{as:List FX.Arg}(S:DeskAt CD CW C CP H p pw W)(hz:z.length≤1000)(hs:Txt.split z " "=v::ws)(hr:rdWords v ws=some as)(n1:inV (.str v) mvL=true)(k:∀r xs H1,Same H H1→H1 r=some (.lst xs)→Paired (ArgAt H1) xs as→spMove CD CW C CP NH NHd NNr [.ref p,.str v,.ref r] H1 (fun _ H'=>Q (.str "ok") H') E):spSay CD CW C CP NH NHd NNr NL NI MI NR K [.ref p,.str z] H Q E :=
  .good p z v ws as rfl hz (desk_at S) hs hr fun r xs H1 s1 e1 pa=>⟨(fun _=>k r xs H1 s1 e1 pa),(fun h=>by rw[n1] at h;cases h),(fun h=>by rw[n1] at h;cases h)⟩
abbrev Tl:=List T2×List (T2×Int×List T2)×List (T2×Int)
structure Tell(G:HGh)(t:Tl):Prop where
  h:G.hand.length<64
  o:G.outs.length<64
  r:G.recs.length<64
  pm:t.1.Perm G.hand
  pw:t.1.Pairwise lt2
  ro:Rows G t.2.1
  pr:t.2.2.Perm G.recs
  wr:(t.2.2.map (·.1)).Pairwise lt2
  s1:Small t.1
  s2:Small (t.2.1.map (·.1))
structure Seen(CD CW C CP:Addr)(K:PySem.W.Frag)(H:Hp)(p pw:Addr)(W:WGh)(t0 t1 t2:Tl)(ts:List T2)(ls:List (Int×Str×Int×Int)):Prop where
  S:DeskAt CD CW C CP H p pw W
  qs:∃q0 G0 q1 G1 q2 G2,W.qs=[(q0,G0),(q1,G1),(q2,G2)]∧Tell G0 t0∧Tell G1 t1∧Tell G2 t2
  le:Paired (LetK K H) W.ls ls
  sl:SmallL ls
  h1:∃r∈t0.2.1,r.1=((0:Int),(0:Int))
  h2:∀r∈t0.2.1,r.1=((0:Int),(0:Int))→r.2.2=ts
  h3:Small ts
theorem Seen.same{H':Hp}{t0 t1 t2:Tl}{ts:List T2}{ls:List (Int×Str×Int×Int)}(x:Seen CD CW C CP K H p pw W t0 t1 t2 ts ls)(s:Same H H'):Seen CD CW C CP K H' p pw W t0 t1 t2 ts ls :=
  ⟨x.S.same s,x.qs,paired_mono (fun _ _ ⟨y,h⟩=>⟨y,sqt_same s h⟩) x.le,x.sl,x.h1,x.h2,x.h3⟩
def T8(t0 t1 t2:Tl)(ts:List T2)(ls:List (Int×Str×Int×Int)):List Str:=[wrList (ls.map wrL),wrList (t0.1.map wrThing),wrList (t1.1.map wrThing),wrList (t2.1.map wrThing),
  wrList ((t0.2.1.map (·.1)).map wrThing),wrList ((t1.2.1.map (·.1)).map wrThing),wrList ((t2.2.1.map (·.1)).map wrThing),wrList (ts.map wrThing)]
def R8:List Str:=["post","hand 0","hand 1","hand 2","things 0","things 1","things 2","holds 0.0"]
theorem at3{q0 q1 q2:Addr}{G0 G1 G2:HGh}(e:W.qs=[(q0,G0),(q1,G1),(q2,G2)]):InW W 0 q0 G0∧InW W 1 q1 G1∧InW W 2 q2 G2:=⟨⟨by decide,by rw[e];rfl⟩,⟨by decide,by rw[e];rfl⟩,⟨by decide,by rw[e];rfl⟩⟩
theorem Tell.state{t:Tl}{G:HGh}{q:Addr}{h:Int}{Q':VK}{E':XK}(x:Tell G t)(S:WorldAt CW C CP H pw W)(i:InW W h q G)(k:∀v H',Same H H'→RepT K H' v (stD t.1 t.2.1 t.2.2)→Q' v H'):spWState CW C CP NH K [.ref pw,.int h] H Q' E' :=
  ⟨pw,h,W,rfl,S,.inr ⟨q,G,i,q,G,t.1,t.2.1,t.2.2,rfl,i.at S,x.h,x.o,x.r,x.pm,x.pw,x.ro,x.pr,x.wr,fun v H' s _ rep=>k _ H' s rep⟩⟩
theorem arg1{H1:Hp}{xs:List V}{i:Int}(h:Paired (ArgAt H1) xs [.n i]):xs=[.int i]:=by
  cases h with
  | cons a b =>
    cases b
    cases a
    rfl
theorem argT{H1:Hp}{xs:List V}{i j:Int}(h:Paired (ArgAt H1) xs [.t i j]):∃a,xs=[.ref a]∧H1 a=some (.tup (tv (i,j))):=by
  cases h with
  | cons a b =>
    cases b
    obtain⟨t,rfl,e⟩:=a
    exact⟨t,rfl,e⟩
theorem Seen.say{t0 t1 t2:Tl}{ts:List T2}{ls:List (Int×Str×Int×Int)}(x:Seen CD CW C CP K H p pw W t0 t1 t2 ts ls){i:Nat}{z y:Str}(hz:R8[i]?=some z)(hy:(T8 t0 t1 t2 ts ls)[i]?=some y)(k:∀H',Same H H'→Q (.str y) H'):spSay CD CW C CP NH NHd NNr NL NI MI NR K [.ref p,.str z] H Q E:=by
  obtain⟨q0,G0,q1,G1,q2,G2,eq,g0,g1,g2⟩:=x.qs
  obtain⟨i0,i1,i2⟩:=at3 eq
  have hand:∀{h:Int} {q:Addr} {G:HGh} {t:Tl} {r:Addr} {xs:List V} {H1:Hp},InW W h q G→Tell G t→Same H H1→H1 r=some (.lst xs)→xs=[.int h]→(∀H',Same H H'→Q (.str (wrList (t.1.map wrThing))) H')→spLook CD CW C CP NH NI MI K [.ref p,.str "hand",.ref r] H1 Q E:=fun{h q G t r xs H1} ih te s1 e1 ex kk=>by
    subst ex
    exact .hand p pw r W h rfl (x.S.same s1) e1 (te.state (x.S.same s1).wo ih fun v H' s2 rep=>⟨_,_,_,s2,rep,te.s1,fun H2 s3=>kk H2 (same_trans s1 s3)⟩)
  have things:∀{h:Int} {q:Addr} {G:HGh} {t:Tl} {r:Addr} {xs:List V} {H1:Hp},InW W h q G→Tell G t→Same H H1→H1 r=some (.lst xs)→xs=[.int h]→(∀H',Same H H'→Q (.str (wrList ((t.2.1.map (·.1)).map wrThing))) H')→spLook CD CW C CP NH NI MI K [.ref p,.str "things",.ref r] H1 Q E:=fun{h q G t r xs H1} ih te s1 e1 ex kk=>by
    subst ex
    exact .things p pw r W h rfl (x.S.same s1) e1 (te.state (x.S.same s1).wo ih fun v H' s2 rep=>⟨_,_,_,s2,rep,te.s2,fun H2 s3=>kk H2 (same_trans s1 s3)⟩)
  match i,hz,hy with
  | 0,hz,hy =>
    cases hz;cases hy
    refine say_look (v:="post") (ws:=[]) (as:=[]) x.S (by decide) (by decide +kernel) rfl (by decide +kernel) (by decide +kernel) fun r xs H1 s1 e1 pa=>?_
    exact .post p pw r W ls rfl (x.S.same s1) (x.same s1).le x.sl fun H2 s2=>k H2 (same_trans s1 s2)
  | 1,hz,hy=>cases hz;cases hy;exact say_look (v:="hand") (ws:=["0"]) (as:=[.n 0]) x.S (by decide) (by decide +kernel) rfl (by decide +kernel) (by decide +kernel) fun r xs H1 s1 e1 pa=>hand i0 g0 s1 e1 (arg1 pa) k
  | 2,hz,hy=>cases hz;cases hy;exact say_look (v:="hand") (ws:=["1"]) (as:=[.n 1]) x.S (by decide) (by decide +kernel) rfl (by decide +kernel) (by decide +kernel) fun r xs H1 s1 e1 pa=>hand i1 g1 s1 e1 (arg1 pa) k
  | 3,hz,hy=>cases hz;cases hy;exact say_look (v:="hand") (ws:=["2"]) (as:=[.n 2]) x.S (by decide) (by decide +kernel) rfl (by decide +kernel) (by decide +kernel) fun r xs H1 s1 e1 pa=>hand i2 g2 s1 e1 (arg1 pa) k
  | 4,hz,hy=>cases hz;cases hy;exact say_look (v:="things") (ws:=["0"]) (as:=[.n 0]) x.S (by decide) (by decide +kernel) rfl (by decide +kernel) (by decide +kernel) fun r xs H1 s1 e1 pa=>things i0 g0 s1 e1 (arg1 pa) k
  | 5,hz,hy=>cases hz;cases hy;exact say_look (v:="things") (ws:=["1"]) (as:=[.n 1]) x.S (by decide) (by decide +kernel) rfl (by decide +kernel) (by decide +kernel) fun r xs H1 s1 e1 pa=>things i1 g1 s1 e1 (arg1 pa) k
  | 6,hz,hy=>cases hz;cases hy;exact say_look (v:="things") (ws:=["2"]) (as:=[.n 2]) x.S (by decide) (by decide +kernel) rfl (by decide +kernel) (by decide +kernel) fun r xs H1 s1 e1 pa=>things i2 g2 s1 e1 (arg1 pa) k
  | 7,hz,hy =>
    cases hz;cases hy
    refine say_look (v:="holds") (ws:=["0.0"]) (as:=[.t 0 0]) x.S (by decide) (by decide +kernel) (by kernel_rfl) (by decide +kernel) (by decide +kernel) fun r xs H1 s1 e1 pa=>?_
    obtain⟨a,ex,ha⟩:=argT pa
    subst ex
    obtain⟨dx,ep⟩:=(x.S.same s1).ob
    refine .holds p r a rfl ⟨dx,_,ep,by rfl⟩ e1 (.mk p pw a W (0,0) rfl (x.S.same s1) ha (g0.state (x.S.same s1).wo i0 fun v H' s2 rep=>⟨_,_,_,s2,rep,fun r0 m0 e0 x0 xs0 q0' pr0=>?_,fun no=>?_⟩))
    · rw[x.h2 r0 m0 e0] at pr0
      exact⟨x0,xs0,ts,rfl,q0',pr0,x.h3,fun H2 s3=>k H2 (same_trans s1 (same_trans s2 s3))⟩
    · obtain⟨r0,m0,e0⟩:=x.h1
      exact absurd e0 (no r0 m0)
  | n+8,hz,_=>cases hz
inductive spLLook(CD CW C CP:Addr)(K:PySem.W.Frag)(vs:List V)(H:Hp)(Q:VK)(E:XK):Prop
  | mk (p pw:Addr) (W:WGh) (t0 t1 t2:Tl) (ts:List T2) (ls:List (Int×Str×Int×Int)) (_:vs=[.ref p]) (_:Seen CD CW C CP K H p pw W t0 t1 t2 ts ls) (_:∀(l:Addr)(H':Hp),Same H H'→H' l=some (.lst ((T8 t0 t1 t2 ts ls).map V.str))→Q (.ref l) H')
theorem scLLook:FnScope ["_law_desk","_law_rows"] ["_law_desk"] (defScope sLook):=⟨rfl,rfl,rfl,by decide +kernel,rfl,by decide +kernel,by decide +kernel⟩
theorem ok_llook{f f1:Addr}{fd d1:FuncData}(F:Fun K "_law_look" "_law_look" sLook f fd)(TK:TxtK K mg CD)(M1:Mth K CD "say" "Desk.say" sSay ["self","row"] f1 d1)(G1:FnOk P w K mg base (CX1 P w) 6 f1 d1 ["self","row"] (spSay CD CW C CP NH NHd NNr NL NI MI NR K)):FnOk P w K mg base CX0 7 f fd ["_law_desk"] (spLLook CD CW C CP K):=by
  have G1':FnOk P w K mg base CX0 6 f1 d1 ["self","row"] (fun vs H Q _=>spSay CD CW C CP NH NHd NNr NL NI MI NR K vs H Q E0):=FX.FnOk.no G1
  refine okw F scLLook (fun vs H Q E h=>?_) (fun cdv A outer s H vs Q E hr h=>?_)
  · obtain⟨p,pw,W,t0,t1,t2,ts,ls,rfl,_⟩:=h
    rfl
  · obtain⟨p,pw,W,t0,t1,t2,ts,ls,rfl,x,k⟩:=h
    refine⟨_,pssw_cons (psw_strs (i:=1) (x:="_law_rows") (vs:=R8) (by rfl) scLLook.nd rfl (Or.inl rfl) (Or.inl rfl))
      (pssw_one (⟨ps_ret (pe_comp (te:=tMeth CD "say" (fun vs H Q _=>spSay CD CW C CP NH NHd NNr NL NI MI NR K vs H Q E0) [] E0 (tVar 1) (tCons (tVar 0) tNil)) (caps:=[("_law_desk",0)]) rfl (pi_list (pv 1))
          rfl (by decide +kernel) rfl (by decide +kernel) rfl ⟨rfl,trivial⟩ (fun y h=>has3 ⟨_,rfl⟩ h) ⟨⟨rfl,rfl,rfl,rfl⟩,trivial⟩ (by decide +kernel) (fun _ _ _ _ _=>pts_nil)
          (fun _ _ _ _ _=>pe_meth (pl:=_) (pv 1) TK.cl M1.mt G1' hr M1.bd .nil pass0 (pa_cons (pv 0) pa_nil)))⟩)),?_⟩
    refine⟨by show 8≤sizeLine;decide,fun a1 h1=>?_⟩
    have s1:=same_new (o:=.lst (R8.map V.str)) h1
    have e1:(upd H a1 (.lst (R8.map V.str))) a1=some (.lst (R8.map V.str)):=upd_same
    generalize upd H a1 (.lst (R8.map V.str))=H1 at s1 e1 ⊢
    refine⟨_,rfl,a1,rfl,⟨_,SqL.of e1⟩,fun r hr'=>?_⟩
    have hl8:(T8 t0 t1 t2 ts ls).length=8:=rfl
    refine comp_list (K:=K) (a:=a1) (xs:=R8.map V.str) (tt:=fun _ H Q=>Q true H) (te:=tMeth CD "say" (fun vs H Q _=>spSay CD CW C CP NH NHd NNr NL NI MI NR K vs H Q E0) [] E0 (tVar 1) (tCons (tVar 0) tNil)) (caps:=[("_law_desk",0)]) (σ:=[some (.ref p),some (.ref a1)])
      (fun i ys H3=>H3 r=some (.lst ys)∧Same H1 H3∧ys=((T8 t0 t1 t2 ts ls).take i).map V.str) ⟨upd_same,same_new hr',rfl⟩ (fun i ys H3 _ h=>⟨SqL.of (h.2.1 _ _ e1),h.1⟩) ?_ ?_
    · rintro i y ys H3 N hi ⟨e3,s3,rfl⟩ hN
      refine iteT ?_
      rw[ZH] at hi
      obtain⟨z,hz,rfl⟩:=Option.map_eq_some_iff.mp hi
      have li:i<8:=(ZJ hz).1
      obtain⟨u,hu⟩:=get_of_lt (xs:=T8 t0 t1 t2 ts ls) (j:=i) (by rw[hl8];exact li)
      have x3:=x.same (same_trans s1 s3)
      obtain⟨dx,ep⟩:=x3.S.ob
      refine⟨_,rfl,p,dx,_,rfl,ep,by rfl,_,rfl,x3.say hz hu fun H5 s5=>⟨s5 _ _ e3,?_,hN _ _ ⟨upd_same,fun b o e=>?_,?_⟩⟩⟩
      · rw[ZA]
        exact small1000 (Nat.le_trans (List.length_take_le _ _) (by omega))
      · rw[upd_ne (ne_of_none e hr')];exact s5 _ _ (s3 _ _ e)
      · rw[List.take_add_one,hu,ZF];rfl
    · rintro ys H3 ⟨e3,s3,rfl⟩
      exact k r H3 (same_trans s1 s3) e3
end
end K53
namespace K53
open PySem L2 FX
set_option linter.all false
section
variable {P:Program}{w:World}{K:PySem.W.Frag}{mg:Str→Option Value}{base:Heap}{HE NR FA CD CW C CP CI NH NI NL NHd NNr MI NW:Addr}{H:Hp}{p pw:Addr}{W:WGh}{Q:VK}{E:XK}{t0 t1 t2:Tl}{ts:List T2}{ls:List (Int×Str×Int×Int)}
def Refuses(CD CW C CP NH NHd NNr NL NI MI NR:Addr)(K:PySem.W.Frag)(H:Hp)(p:Addr)(z:Str)(cls:Addr):Prop:=∀(H':Hp)(Q':VK)(E':XK),Same H H'→(∀H2,Same H' H2→E' (.ref cls) none H2)→spSay CD CW C CP NH NHd NNr NL NI MI NR K [.ref p,.str z] H' Q' E'
theorem ref_bad{z:Str}(hb:BadR z)(hl:z.length≤1000):Refuses CD CW C CP NH NHd NNr NL NI MI NR K H p z NR:=fun H' Q' E' s k=>.bad p z rfl hl hb k
structure NoneBig(W:WGh)(t0:Tl):Prop where
  l:∀l∈W.ls,l.1≠999999999
  i:∀l∈W.iqs,l.1≠100000000
  h:∀q G,W.qs[0]?=some (q,G)→((123456789:Int),(0:Int))∉G.hand
  o:∀r∈t0.2.1,r.1≠((0:Int),(123456789:Int))
theorem out3{q0 q1 q2:Addr}{G0 G1 G2:HGh}(e:W.qs=[(q0,G0),(q1,G1),(q2,G2)]):OutW W 123456789:=by
  refine .inr ?_
  rw[e];show(3:Int)≤123456789;decide
theorem ref_make(x:Seen CD CW C CP K H p pw W t0 t1 t2 ts ls):Refuses CD CW C CP NH NHd NNr NL NI MI NR K H p "make 123456789" NH:=fun H' Q' E' s k=>by
  have y:=x.same s
  obtain⟨q0,G0,q1,G1,q2,G2,eq,g0,g1,g2⟩:=y.qs
  refine say_act (v:="make") (ws:=["123456789"]) (as:=[.n 123456789]) y.S (by decide) (by decide +kernel) (by kernel_rfl) (by decide +kernel) (by decide +kernel) fun r xs H1 s1 e1 pa=>?_
  rw[arg1 pa] at e1
  exact .make p pw r W _ rfl (y.S.same s1) e1 ⟨pw,_,W,rfl,(y.S.same s1).wo,.inl ⟨out3 eq,k _ s1⟩⟩
theorem ref_come(x:Seen CD CW C CP K H p pw W t0 t1 t2 ts ls)(b:NoneBig W t0):Refuses CD CW C CP NH NHd NNr NL NI MI NR K H p "come 999999999" NL:=fun H' Q' E' s k=>by
  have y:=x.same s
  refine say_act (v:="come") (ws:=["999999999"]) (as:=[.n 999999999]) y.S (by decide) (by decide +kernel) (by kernel_rfl) (by decide +kernel) (by decide +kernel) fun r xs H1 s1 e1 pa=>?_
  rw[arg1 pa] at e1
  exact .come p pw r W _ rfl (y.S.same s1) e1 ⟨pw,_,W,rfl,(y.S.same s1).wo,.inl ⟨b.l,k _ s1⟩⟩
theorem ref_found(x:Seen CD CW C CP K H p pw W t0 t1 t2 ts ls)(b:NoneBig W t0):Refuses CD CW C CP NH NHd NNr NL NI MI NR K H p "found 100000000" NI:=fun H' Q' E' s k=>by
  have y:=x.same s
  refine say_look (v:="found") (ws:=["100000000"]) (as:=[.n 100000000]) y.S (by decide) (by decide +kernel) (by kernel_rfl) (by decide +kernel) (by decide +kernel) fun r xs H1 s1 e1 pa=>?_
  rw[arg1 pa] at e1
  exact .found p pw r W _ rfl (y.S.same s1) e1 b.i (k _ s1)
theorem argNT{H1:Hp}{xs:List V}{i j l:Int}(h:Paired (ArgAt H1) xs [.n i,.t j l]):∃a,xs=[.int i,.ref a]∧H1 a=some (.tup (tv (j,l))):=by
  cases h with
  | cons a b =>
    cases a
    obtain⟨t,rfl,e⟩:=argT b
    exact⟨t,rfl,e⟩
theorem ref_free(x:Seen CD CW C CP K H p pw W t0 t1 t2 ts ls)(b:NoneBig W t0):Refuses CD CW C CP NH NHd NNr NL NI MI NR K H p "free 0 123456789.0" NHd:=fun H' Q' E' s k=>by
  have y:=x.same s
  obtain⟨q0,G0,q1,G1,q2,G2,eq,g0,g1,g2⟩:=y.qs
  refine say_move (v:="free") (ws:=["0","123456789.0"]) (as:=[.n 0,.t 123456789 0]) y.S (by decide) (by decide +kernel) (by kernel_rfl) (by decide +kernel) fun r xs H1 s1 e1 pa=>?_
  obtain⟨a,ex,ha⟩:=argNT pa
  subst ex
  have S1:=(y.S.same s1).wo
  exact .free p pw r a W 0 rfl (y.S.same s1) e1 ⟨pw,0,.ref a,W,rfl,S1,.inr ⟨q0,G0,(at3 eq).1,q0,a,G0,(123456789,0),rfl,(at3 eq).1.at S1,ha,.inl ⟨b.h q0 G0 (by rw[eq];rfl),k _ s1⟩⟩⟩
theorem ref_holds(x:Seen CD CW C CP K H p pw W t0 t1 t2 ts ls)(b:NoneBig W t0):Refuses CD CW C CP NH NHd NNr NL NI MI NR K H p "holds 0.123456789" MI:=fun H' Q' E' s k=>by
  have y:=x.same s
  obtain⟨q0,G0,q1,G1,q2,G2,eq,g0,g1,g2⟩:=y.qs
  refine say_look (v:="holds") (ws:=["0.123456789"]) (as:=[.t 0 123456789]) y.S (by decide) (by decide +kernel) (by kernel_rfl) (by decide +kernel) (by decide +kernel) fun r xs H1 s1 e1 pa=>?_
  obtain⟨a,ex,ha⟩:=argT pa
  subst ex
  obtain⟨dx,ep⟩:=(y.S.same s1).ob
  exact .holds p r a rfl ⟨dx,_,ep,by rfl⟩ e1 (.mk p pw a W (0,123456789) rfl (y.S.same s1) ha (g0.state (y.S.same s1).wo (at3 eq).1 fun v H' s2 rep=>⟨_,_,_,s2,rep,fun r0 m0 e0=>absurd e0 (b.o r0 m0),fun _=>k _ (same_trans s1 s2)⟩))
theorem Refuses.lsay{z:Str}{cls:Addr}{n:Nat}(h:Refuses CD CW C CP NH NHd NNr NL NI MI NR K H p z cls)(S:DeskAt CD CW C CP H p pw W)(xf:XF8 K HE NH NHd NNr MI NW NL NI NR cls n)(k:∀t H',Same H H'→H' t=some (.tup [.str "refused",.int n])→Q (.ref t) H'):spLSay CD CW C CP NH NHd NNr NL NI MI NW NR HE K [.ref p,.str z] H Q E:=by
  obtain⟨dx,ep⟩:=S.ob
  exact⟨p,z,cls,n,dx,_,rfl,ep,by rfl,h,xf,k⟩
end
end K53
namespace K53
open PySem L2 FX
set_option linter.all false
section
variable {P:Program}{w:World}{K:PySem.W.Frag}{mg:Str→Option Value}{base:Heap}{HE NR FA CD CW C CP CI NH NI NL NHd NNr MI NW:Addr}{H H1 H2 H3:Hp}{p pw:Addr}{W:WGh}{Q:VK}{E:XK}
theorem wfr3(s1:Same H H1)(f:WFr pw W H1 H2)(s3:Same H2 H3):WFr pw W H H3:=fun b o e n=>s3 _ _ (f b o (s1 _ _ e) n)
theorem row_make{z:Str}{i:Int}{ws:List Str}{q:Addr}{G:HGh}(S:DeskAt CD CW C CP H p pw W)(hz:z.length≤1000)(hs:Txt.split z " "=("make":Str)::ws)(hr:rdWords "make" ws=some [.n i])(hi:InW W i q G)(l1:G.hand.length≤500)(l2:G.outs.length≤500)(l3:G.holds.length≤500)(f1:∀t∈G.hand,t≠(G.num,G.made))(f2:∀q∈G.outs,q.1≠(G.num,G.made))(f3:∀q∈G.holds,q.1≠(G.num,G.made))(n1:G.num.natAbs≤1000)(n2:G.made.natAbs≤1000)(k:∀(a:Addr) (v:V) (H':Hp),DeskAt CD CW C CP H' p pw { W with qs:=W.qs.set i.toNat (q,{ G with made:=G.made+1,ticks:=G.ticks+1,hand:=G.hand++[(G.num,G.made)],outs:=G.outs++[((G.num,G.made),0)],holds:=G.holds++[((G.num,G.made),a,[])] }) }→WFr pw W H H'→Q v H') :
    spSay CD CW C CP NH NHd NNr NL NI MI NR K [.ref p,.str z] H Q E:=by
  refine say_act S hz hs hr (by decide +kernel) (by decide +kernel) fun r xs H1 s1 e1 pa=>?_
  rw[arg1 pa] at e1
  have S1:=S.same s1
  refine .make p pw r W i rfl S1 e1 ⟨pw,i,W,rfl,S1.wo,.inr ⟨q,G,hi,q,G,rfl,hi.at S1.wo,l1,l2,l3,f1,f2,f3,fun t a H2 ht ha et S2 fr=>?_⟩⟩
  obtain⟨y,f⟩:=S1.wo.step hi.2 S2 fr (fun b hb=>by
    simp only[foot,ZF,List.mem_cons,List.mem_append,List.map_cons,List.map_nil,List.not_mem_nil,or_false] at hb ⊢
    rcases hb with h|h|h|h|h|h
    · exact .inl (.inl h)
    · exact .inl (.inr (.inl h))
    · exact .inl (.inr (.inr (.inl h)))
    · exact .inl (.inr (.inr (.inr (.inl h))))
    · exact .inl (.inr (.inr (.inr (.inr h))))
    · rw[h];exact .inr ha)
  exact⟨t,(G.num,G.made),rfl,SqT.of et,n1,n2,fun H3 s3=>k a _ H3 ((S1.then f y).same s3) (wfr3 s1 f s3)⟩
theorem argNTT{H1:Hp}{xs:List V}{i a b c d:Int}(h:Paired (ArgAt H1) xs [.n i,.t a b,.t c d]):∃x y,xs=[.int i,.ref x,.ref y]∧H1 x=some (.tup (tv (a,b)))∧H1 y=some (.tup (tv (c,d))):=by
  cases h with
  | cons h b =>
    cases h
    cases b with
    | cons h b =>
      obtain⟨t,rfl,e⟩:=h
      obtain⟨u,rfl,e2⟩:=argT b
      exact⟨t,u,rfl,e,e2⟩
theorem argNNT{H1:Hp}{xs:List V}{i j c d:Int}(h:Paired (ArgAt H1) xs [.n i,.n j,.t c d]):∃y,xs=[.int i,.int j,.ref y]∧H1 y=some (.tup (tv (c,d))):=by
  cases h with
  | cons h b =>
    cases h
    obtain⟨u,rfl,e2⟩:=argNT b
    exact⟨u,rfl,e2⟩
theorem row_hold{z:Str}{i a1 a2 b1 b2:Int}{ws:List Str}{q ad:Addr}{G:HGh}{hl:List T2}(S:DeskAt CD CW C CP H p pw W)(hz:z.length≤1000)(hs:Txt.split z " "=("hold":Str)::ws)(hr:rdWords "hold" ws=some [.n i,.t a1 a2,.t b1 b2])(hi:InW W i q G)(m1:(a1,a2)∈G.hand)(m2:(b1,b2)∈G.hand)(e0:a1=G.num)(fn:G.holds.find? (fun q=>decide (q.1=(a1,a2)))=some ((a1,a2),ad,hl))(l:hl.length≤500)(hf:foot { G with ticks:=G.ticks+1,holds:=setL G.holds ad (addT hl (b1,b2)) }=foot G)(k:∀(v:V) (H':Hp),DeskAt CD CW C CP H' p pw { W with qs:=W.qs.set i.toNat (q,{ G with ticks:=G.ticks+1,holds:=setL G.holds ad (addT hl (b1,b2)) }) }→WFr pw W H H'→Q v H') :
    spSay CD CW C CP NH NHd NNr NL NI MI NR K [.ref p,.str z] H Q E:=by
  refine say_move S hz hs hr (by decide +kernel) fun r xs H1 s1 e1 pa=>?_
  obtain⟨x,y,ex,hx,hy⟩:=argNTT pa
  subst ex
  have S1:=S.same s1
  refine .hold p pw r x y W i rfl S1 e1 ⟨pw,i,.ref x,.ref y,W,rfl,S1.wo,.inr ⟨q,G,hi,q,x,y,G,(a1,a2),(b1,b2),rfl,hi.at S1.wo,hx,hy,.inr (.inr ⟨m1,m2,e0,ad,hl,fn,l,fun H2 S2 fr=>?_⟩)⟩⟩
  obtain⟨y,f⟩:=S1.wo.step hi.2 S2 fr (fun b hb=>by rw[hf] at hb;exact .inl hb)
  exact k _ H2 (S1.then f y) (wfr3 s1 f (Same.refl _))
theorem row_send{z:Str}{i j b1 b2 o:Int}{ws:List Str}{q q2:Addr}{G G2:HGh}(S:DeskAt CD CW C CP H p pw W)(hz:z.length≤1000)(hs:Txt.split z " "=("send":Str)::ws)(hr:rdWords "send" ws=some [.n i,.n j,.t b1 b2])(hi:InW W i q G)(hj:InW W j q2 G2)(l1:G.outs.length≤500)(l2:G.recs.length≤500)(m:(b1,b2)∈G.hand)(e0:b1=G.num)(fo:G.outs.find? (fun q=>decide (q.1=(b1,b2)))=some ((b1,b2),o))(fr:G.recs.find? (fun q=>decide (q.1=(b1,b2)))=none)(ll:W.ls.length≤500)(hc:(W.c+1).natAbs≤1000)(k:∀(t:Addr) (v:V) (H':Hp),DeskAt CD CW C CP H' p pw { W with qs:=W.qs.set i.toNat (q,{ G with ticks:=G.ticks+1,outs:=putI G.outs (b1,b2) (o+W.share) }),c:=W.c+1,ls:=W.ls++[(W.c+1,t)] }→HoldLet H' t (W.c+1) i j (b1,b2) W.share→WFr pw W H H'→Q v H') :
    spSay CD CW C CP NH NHd NNr NL NI MI NR K [.ref p,.str z] H Q E:=by
  refine say_act S hz hs hr (by decide +kernel) (by decide +kernel) fun r xs H1 s1 e1 pa=>?_
  obtain⟨y,ex,hy⟩:=argNNT pa
  subst ex
  have S1:=S.same s1
  refine .send p pw r y W i j rfl S1 e1 ⟨pw,y,i,j,W,(b1,b2),rfl,S1.wo,hy,.inr ⟨q,G,hi,⟨q2,G2,hj⟩,l1,l2,.inr ⟨m,e0,o,fo,fr,ll,fun t H2 S2 hl f=>?_⟩⟩⟩
  exact⟨_,rfl,log_small hc,k t _ H2 (S1.then f S2) hl (wfr3 s1 f (Same.refl _))⟩
theorem row_ask{z:Str}{i:Int}{ws:List Str}{q:Addr}{G:HGh}(S:DeskAt CD CW C CP H p pw W)(hz:z.length≤1000)(hs:Txt.split z " "=("ask":Str)::ws)(hr:rdWords "ask" ws=some [.n i])(hi:InW W i q G)(l1:W.qs.length≤12)(l2:W.ls.length≤400)(l3:W.iqs=[])(k:∀(io:Addr) (L:List (Int×Addr)) (v:V) (H':Hp),DeskAt CD CW C CP H' p pw { W with iqs:=W.iqs++[(1,io)],c:=W.c+(W.qs.length:Nat),ls:=W.ls++L }→Lets K H' W.c i 1 1 L W.qs.length→WFr pw W H H'→Q v H') :
    spSay CD CW C CP NH NHd NNr NL NI MI NR K [.ref p,.str z] H Q E:=by
  refine say_act S hz hs hr (by decide +kernel) (by decide +kernel) fun r xs H1 s1 e1 pa=>?_
  rw[arg1 pa] at e1
  have S1:=S.same s1
  refine .ask p pw r W i rfl S1 e1 ⟨pw,i,W,rfl,S1.wo,.inr ⟨⟨q,G,hi⟩,l1,l2,by rw[l3];decide,(by rw[l3];intro l hl;cases hl),fun n io L H2 en S2 hl f=>?_⟩⟩
  have e1:n=1:=by rw[en,l3];rfl
  subst e1
  exact⟨_,rfl,log_small (by decide),k io L _ H2 (S1.then f S2) hl (wfr3 s1 f (Same.refl _))⟩
theorem row_come{z:Str}{i m h g wt:Int}{ws:List Str}{q t:Addr}{G G':HGh}{tb:T2}{l2:List (Int×Addr)}(S:DeskAt CD CW C CP H p pw W)(hz:z.length≤1000)(hs:Txt.split z " "=("come":Str)::ws)(hr:rdWords "come" ws=some [.n i])(el:W.ls=(i,t)::l2)(ht:HoldLet H t m h g tb wt)(hi:InW W g q G)(cm:Came G tb wt G')(l1:G.hand.length≤500)(lo:G.outs.length≤500)(lr:G.recs.length≤500)(k:∀(v:V) (H':Hp),DeskAt CD CW C CP H' p pw { W with ls:=l2,qs:=W.qs.set g.toNat (q,G') }→WFr pw W H H'→Q v H') :
    spSay CD CW C CP NH NHd NNr NL NI MI NR K [.ref p,.str z] H Q E:=by
  refine say_act S hz hs hr (by decide +kernel) (by decide +kernel) fun r xs H1 s1 e1 pa=>?_
  rw[arg1 pa] at e1
  have S1:=S.same s1
  refine .come p pw r W i rfl S1 e1 ⟨pw,i,W,rfl,S1.wo,.inr ⟨[],l2,t,m,h,g,tb,wt,q,G,G',el,ht.keep (KeepT.of_same s1),hi,cm,l1,lo,lr,fun x H2 S2 f ex=>?_⟩⟩
  exact⟨x,rfl,ex,fun H3 s3=>k _ H3 ((S1.then f S2).same s3) (wfr3 s1 f s3)⟩
end
end K53
namespace K53
open PySem L2 FX
set_option linter.all false
abbrev hg(n m t:Int)(d:Addr×Addr×Addr×Addr)(hand:List T2)(outs:List (T2×Int))(holds:List (T2×Addr×List T2))(recs:List (T2×Int)):HGh:=⟨n,m,t,d.1,d.2.1,d.2.2.1,d.2.2.2,hand,outs,holds,recs⟩
structure StF(CD CW C CP:Addr)(sh c:Int)(iqs:List (Int×Addr))(ls:List (Int×Addr))(G0 G1 G2:HGh)(H:Hp)(p pw:Addr)(W:WGh):Prop where
  S:DeskAt CD CW C CP H p pw W
  sh:W.share=sh
  c:W.c=c
  q:∃q0 q1 q2,W.qs=[(q0,G0),(q1,G1),(q2,G2)]
  ls:W.ls=ls
  iq:W.iqs=iqs
abbrev e2(t:Int)(d:Addr×Addr×Addr×Addr):HGh:=hg 2 0 t d [] [] [] []
abbrev f0(t:Int)(d:Addr×Addr×Addr×Addr)(a0 a1:Addr)(hl:List T2)(o:Int):HGh:=hg 0 2 t d [(0,0),(0,1)] [((0,0),0),((0,1),o)] [((0,0),a0,hl),((0,1),a1,[])] []
abbrev f1(t:Int)(d:Addr×Addr×Addr×Addr)(b0:Addr)(o:Int):HGh:=hg 1 1 t d [(1,0)] [((1,0),o)] [((1,0),b0,[])] []
def St(CD CW C CP:Addr)(K:PySem.W.Frag)(sh:Int)(H:Hp)(p pw:Addr)(W:WGh):Nat→Prop
  | 0=>∃t0 t1 t2 d0 d1 d2,StF CD CW C CP sh 0 [] [] (hg 0 0 t0 d0 [] [] [] []) (hg 1 0 t1 d1 [] [] [] []) (e2 t2 d2) H p pw W
  | 1=>∃t0 t1 t2 d0 d1 d2 a0,StF CD CW C CP sh 0 [] [] (hg 0 1 t0 d0 [(0,0)] [((0,0),0)] [((0,0),a0,[])] []) (hg 1 0 t1 d1 [] [] [] []) (e2 t2 d2) H p pw W
  | 2=>∃t0 t1 t2 d0 d1 d2 a0 a1,StF CD CW C CP sh 0 [] [] (f0 t0 d0 a0 a1 [] 0) (hg 1 0 t1 d1 [] [] [] []) (e2 t2 d2) H p pw W
  | 3=>∃t0 t1 t2 d0 d1 d2 a0 a1 b0,StF CD CW C CP sh 0 [] [] (f0 t0 d0 a0 a1 [] 0) (f1 t1 d1 b0 0) (e2 t2 d2) H p pw W
  | 4=>∃t0 t1 t2 d0 d1 d2 a0 a1 b0,StF CD CW C CP sh 0 [] [] (f0 t0 d0 a0 a1 [(0,1)] 0) (f1 t1 d1 b0 0) (e2 t2 d2) H p pw W
  | 5=>∃t0 t1 t2 d0 d1 d2 a0 a1 b0 x1,StF CD CW C CP sh 1 [] [(1,x1)] (f0 t0 d0 a0 a1 [(0,1)] sh) (f1 t1 d1 b0 0) (e2 t2 d2) H p pw W∧HoldLet H x1 1 0 1 (0,1) sh
  | 6=>∃t0 t1 t2 d0 d1 d2 a0 a1 b0 x1 x2,StF CD CW C CP sh 2 [] [(1,x1),(2,x2)] (f0 t0 d0 a0 a1 [(0,1)] sh) (f1 t1 d1 b0 sh) (e2 t2 d2) H p pw W∧HoldLet H x1 1 0 1 (0,1) sh∧HoldLet H x2 2 1 0 (1,0) sh
  | 7=>∃t0 t1 t2 d0 d1 d2 a0 a1 b0 x1 x2 io L,StF CD CW C CP sh 5 [(1,io)] ((1,x1)::(2,x2)::L) (f0 t0 d0 a0 a1 [(0,1)] sh) (f1 t1 d1 b0 sh) (e2 t2 d2) H p pw W∧HoldLet H x1 1 0 1 (0,1) sh∧HoldLet H x2 2 1 0 (1,0) sh∧Lets K H 2 2 1 1 L 3
  | _=>∃t0 t1 t2 d0 d1 d2 a0 a1 b0 x2 io L,StF CD CW C CP sh 5 [(1,io)] ((2,x2)::L) (f0 t0 d0 a0 a1 [(0,1)] sh) (hg 1 1 t1 d1 [(1,0),(0,1)] [((1,0),sh)] [((1,0),b0,[])] [((0,1),sh)]) (e2 t2 d2) H p pw W∧HoldLet H x2 2 1 0 (1,0) sh∧Lets K H 2 2 1 1 L 3
def W8:List Str:=["make 0","make 0","make 1","hold 0 0.0 0.1","send 0 1 0.1","send 1 0 1.0","ask 2","come 1"]
section
variable {P:Program}{w:World}{K:PySem.W.Frag}{mg:Str→Option Value}{base:Heap}{HE NR FA CD CW C CP CI NH NI NL NHd NNr MI NW:Addr}{H H1 H2 H3:Hp}{p pw:Addr}{W:WGh}{Q:VK}{E:XK}{sh:Int}
theorem St.step{i:Nat}{z:Str}(h:St CD CW C CP K sh H p pw W i)(hz:W8[i]?=some z)(k:∀v H' W',St CD CW C CP K sh H' p pw W' (i+1)→WFr pw W H H'→Q v H'):spSay CD CW C CP NH NHd NNr NL NI MI NR K [.ref p,.str z] H Q E:=by
  have k':∀(v:V)(H':Hp)(W':WGh),WFr pw W H H'→DeskAt CD CW C CP H' p pw W'→(DeskAt CD CW C CP H' p pw W'→St CD CW C CP K sh H' p pw W' (i+1))→Q v H':=fun _ _ _ f S' g=>k _ _ _ (g S') f
  clear k
  match i,h,hz,k' with
  | 0,h,hz,k =>
    cases hz
    obtain⟨t0,t1,t2,d0,d1,d2,x⟩:=h
    obtain⟨q0,q1,q2,eq⟩:=x.q
    refine row_make (i:=0) (ws:=["0"]) x.S (by decide) (by decide +kernel) (by kernel_rfl) (at3 eq).1 (Nat.zero_le _) (Nat.zero_le _) (Nat.zero_le _) (fun t h=>by cases h) (fun t h=>by cases h) (fun t h=>by cases h) (by show(0:Int).natAbs≤1000;decide) (by show(0:Int).natAbs≤1000;decide) fun a v H' S' f=>k _ _ _ f S' fun S'=>?_
    exact Exists.intro (t0+1) (Exists.intro t1 (Exists.intro t2 (Exists.intro d0 (Exists.intro d1 (Exists.intro d2 (Exists.intro a (⟨S',x.sh,x.c,⟨q0,q1,q2,by show W.qs.set 0 _=_;rw[eq];rfl⟩,x.ls,x.iq⟩)))))))
  | 1,h,hz,k =>
    cases hz
    obtain⟨t0,t1,t2,d0,d1,d2,a0,x⟩:=h
    obtain⟨q0,q1,q2,eq⟩:=x.q
    refine row_make (i:=0) (ws:=["0"]) x.S (by decide) (by decide +kernel) (by kernel_rfl) (at3 eq).1 (by show 1≤500;decide) (by show 1≤500;decide) (by show 1≤500;decide) (fun t h=>by rw[ZK h];show((0:Int),(0:Int))≠(0,1);decide) (fun t h=>by rw[ZK h];show((0:Int),(0:Int))≠(0,1);decide) (fun t h=>by rw[ZK h];show((0:Int),(0:Int))≠(0,1);decide) (by show(0:Int).natAbs≤1000;decide) (by show(1:Int).natAbs≤1000;decide) fun a v H' S' f=>k _ _ _ f S' fun S'=>?_
    exact Exists.intro (t0+1) (Exists.intro t1 (Exists.intro t2 (Exists.intro d0 (Exists.intro d1 (Exists.intro d2 (Exists.intro a0 (Exists.intro a (⟨S',x.sh,x.c,⟨q0,q1,q2,by show W.qs.set 0 _=_;rw[eq];rfl⟩,x.ls,x.iq⟩))))))))
  | 2,h,hz,k =>
    cases hz
    obtain⟨t0,t1,t2,d0,d1,d2,a0,a1,x⟩:=h
    obtain⟨q0,q1,q2,eq⟩:=x.q
    refine row_make (i:=1) (ws:=["1"]) x.S (by decide) (by decide +kernel) (by kernel_rfl) (at3 eq).2.1 (Nat.zero_le _) (Nat.zero_le _) (Nat.zero_le _) (fun t h=>by cases h) (fun t h=>by cases h) (fun t h=>by cases h) (by show(1:Int).natAbs≤1000;decide) (by show(0:Int).natAbs≤1000;decide) fun a v H' S' f=>k _ _ _ f S' fun S'=>?_
    exact Exists.intro t0 (Exists.intro (t1+1) (Exists.intro t2 (Exists.intro d0 (Exists.intro d1 (Exists.intro d2 (Exists.intro a0 (Exists.intro a1 (Exists.intro a (⟨S',x.sh,x.c,⟨q0,q1,q2,by show W.qs.set 1 _=_;rw[eq];rfl⟩,x.ls,x.iq⟩)))))))))
  | 3,h,hz,k =>
    cases hz
    obtain⟨t0,t1,t2,d0,d1,d2,a0,a1,b0,x⟩:=h
    obtain⟨q0,q1,q2,eq⟩:=x.q
    have hn:a0≠a1:=by
      have:=((at3 eq).1.at x.S.wo).nd
      simp only[foot,List.map_cons,List.map_nil,List.nodup_cons,List.mem_cons,List.not_mem_nil,or_false,not_or] at this
      exact this.2.2.2.2.1
    refine row_hold (i:=0) (a1:=0) (a2:=0) (b1:=0) (b2:=1) (ad:=a0) (hl:=[]) (ws:=["0","0.0","0.1"]) x.S (by decide) (by decide +kernel) (by kernel_rfl) (at3 eq).1 (by simp) (by simp) rfl rfl (by decide) (by unfold foot;rw[setL_adr]) fun v H' S' f=>k _ _ _ f S' fun S'=>?_
    exact Exists.intro (t0+1) (Exists.intro t1 (Exists.intro t2 (Exists.intro d0 (Exists.intro d1 (Exists.intro d2 (Exists.intro a0 (Exists.intro a1 (Exists.intro b0 (⟨S',x.sh,x.c,⟨q0,q1,q2,by show W.qs.set 0 _=_;rw[eq];simp[setL,addT,hn,Ne.symm hn]⟩,x.ls,x.iq⟩)))))))))
  | 4,h,hz,k =>
    cases hz
    obtain⟨t0,t1,t2,d0,d1,d2,a0,a1,b0,x⟩:=h
    obtain⟨q0,q1,q2,eq⟩:=x.q
    refine row_send (i:=0) (j:=1) (b1:=0) (b2:=1) (o:=0) (ws:=["0","1","0.1"]) x.S (by decide) (by decide +kernel) (by kernel_rfl) (at3 eq).1 (at3 eq).2.1 (by show 2≤500;decide) (Nat.zero_le _) (by simp) rfl rfl rfl (by rw[x.ls];decide) (by rw[x.c];decide) fun t v H' S' hl f=>k _ _ _ f S' fun S'=>?_
    rw[x.c,x.sh] at hl
    exact Exists.intro (t0+1) (Exists.intro t1 (Exists.intro t2 (Exists.intro d0 (Exists.intro d1 (Exists.intro d2 (Exists.intro a0 (Exists.intro a1 (Exists.intro b0 (Exists.intro t (⟨⟨S',x.sh,by show W.c+1=1;rw[x.c];rfl,⟨q0,q1,q2,by show W.qs.set 0 _=_;rw[eq,x.sh];simp[putI]⟩,by show W.ls++[(W.c+1,t)]=_;rw[x.ls,x.c];rfl,x.iq⟩,hl⟩))))))))))
  | 5,h,hz,k =>
    cases hz
    obtain⟨t0,t1,t2,d0,d1,d2,a0,a1,b0,x1,x,y1⟩:=h
    obtain⟨q0,q1,q2,eq⟩:=x.q
    refine row_send (i:=1) (j:=0) (b1:=1) (b2:=0) (o:=0) (ws:=["1","0","1.0"]) x.S (by decide) (by decide +kernel) (by kernel_rfl) (at3 eq).2.1 (at3 eq).1 (by show 1≤500;decide) (Nat.zero_le _) (by simp) rfl rfl rfl (by rw[x.ls];show 1≤500;decide) (by rw[x.c];decide) fun t v H' S' hl f=>k _ _ _ f S' fun S'=>?_
    rw[x.c,x.sh] at hl
    exact Exists.intro t0 (Exists.intro (t1+1) (Exists.intro t2 (Exists.intro d0 (Exists.intro d1 (Exists.intro d2 (Exists.intro a0 (Exists.intro a1 (Exists.intro b0 (Exists.intro x1 (Exists.intro t (⟨⟨S',x.sh,by show W.c+1=2;rw[x.c];rfl,⟨q0,q1,q2,by show W.qs.set 1 _=_;rw[eq,x.sh];simp[putI]⟩,by show W.ls++[(W.c+1,t)]=_;rw[x.ls,x.c];rfl,x.iq⟩,y1.keep (WFr.keepT x.S.wo f),hl⟩)))))))))))
  | 6,h,hz,k =>
    cases hz
    obtain⟨t0,t1,t2,d0,d1,d2,a0,a1,b0,x1,x2,x,y1,y2⟩:=h
    obtain⟨q0,q1,q2,eq⟩:=x.q
    refine row_ask (i:=2) (ws:=["2"]) x.S (by decide) (by decide +kernel) (by kernel_rfl) (at3 eq).2.2 (by rw[eq];show 3≤12;decide) (by rw[x.ls];show 2≤400;decide) x.iq fun io L v H' S' hl f=>k _ _ _ f S' fun S'=>?_
    rw[x.c,eq] at hl
    exact Exists.intro t0 (Exists.intro t1 (Exists.intro t2 (Exists.intro d0 (Exists.intro d1 (Exists.intro d2 (Exists.intro a0 (Exists.intro a1 (Exists.intro b0 (Exists.intro x1 (Exists.intro x2 (Exists.intro io (Exists.intro L (⟨⟨S',x.sh,by show W.c+(W.qs.length:Nat)=5;rw[x.c,eq];rfl,⟨q0,q1,q2,eq⟩,by show W.ls++L=_;rw[x.ls];rfl,by show W.iqs++[(1,io)]=_;rw[x.iq];rfl⟩,y1.keep (WFr.keepT x.S.wo f),y2.keep (WFr.keepT x.S.wo f),hl⟩)))))))))))))
  | 7,h,hz,k =>
    cases hz
    obtain⟨t0,t1,t2,d0,d1,d2,a0,a1,b0,x1,x2,io,L,x,y1,y2,y3⟩:=h
    obtain⟨q0,q1,q2,eq⟩:=x.q
    refine row_come (i:=1) (g:=1) (ws:=["1"]) (G':=hg 1 1 (t1+1) d1 [(1,0),(0,1)] [((1,0),sh)] [((1,0),b0,[])] [((0,1),sh)]) x.S (by decide) (by decide +kernel) (by kernel_rfl) x.ls y1 (at3 eq).2.1 (.inr ⟨by show(0:Int)≠1;decide,by simp[addT,putI,getI]⟩) (by show 1≤500;decide) (by show 1≤500;decide) (Nat.zero_le _) fun v H' S' f=>k _ _ _ f S' fun S'=>?_
    exact Exists.intro t0 (Exists.intro (t1+1) (Exists.intro t2 (Exists.intro d0 (Exists.intro d1 (Exists.intro d2 (Exists.intro a0 (Exists.intro a1 (Exists.intro b0 (Exists.intro x2 (Exists.intro io (Exists.intro L (⟨⟨S',x.sh,x.c,⟨q0,q1,q2,by show W.qs.set 1 _=_;rw[eq];rfl⟩,rfl,x.iq⟩,y2.keep (WFr.keepT x.S.wo f),y3.keep (WFr.keepT x.S.wo f)⟩))))))))))))
  | n+8,_,hz,_=>cases hz
end
end K53
namespace K53
open PySem L2 FX
set_option linter.all false
section
variable {P:Program}{w:World}{K:PySem.W.Frag}{mg:Str→Option Value}{base:Heap}{HE NR FA CD CW C CP CI NH NI NL NHd NNr MI NW:Addr}{H H1 H2 H3:Hp}{p pw:Addr}{W:WGh}{Q:VK}{E:XK}{sh:Int}
def u0(sh:Int):Tl:=([(0,0),(0,1)],[((0,0),0,[(0,1)]),((0,1),sh,[])],[])
def u1(sh:Int):Tl:=([(0,1),(1,0)],[((1,0),sh,[])],[((0,1),sh)])
def u2:Tl:=([],[],[])
def uL:List (Int×Str×Int×Int):=[(2,"hold",1,0),(3,"ask",2,0),(4,"ask",2,1),(5,"ask",2,2)]
theorem tell0{t:Int}{d:Addr×Addr×Addr×Addr}{a0 a1:Addr}:Tell (f0 t d a0 a1 [(0,1)] sh) (u0 sh) where
  h:=by show 2<64;decide
  o:=by show 2<64;decide
  r:=by show 0<64;decide
  pm:=.refl _
  pw:=by simp[u0,lt2_iff]
  ro:=⟨.refl _,by simp[u0,lt2_iff],fun q hq=>by
    simp only[u0,List.mem_cons,List.not_mem_nil,or_false] at hq
    rcases hq with rfl|rfl
    · exact⟨rfl,a0,[(0,1)],rfl,by decide,.refl _,by simp⟩
    · exact⟨rfl,a1,[],rfl,by decide,.refl _,by simp⟩⟩
  pr:=.refl _
  wr:=by simp[u0]
  s1:=⟨by show 2≤1000;decide,by simp[u0]⟩
  s2:=⟨by show 2≤1000;decide,by simp[u0]⟩
theorem tell1{t:Int}{d:Addr×Addr×Addr×Addr}{b0:Addr}:Tell (hg 1 1 t d [(1,0),(0,1)] [((1,0),sh)] [((1,0),b0,[])] [((0,1),sh)]) (u1 sh) where
  h:=by show 2<64;decide
  o:=by show 1<64;decide
  r:=by show 1<64;decide
  pm:=.swap _ _ _
  pw:=by simp[u1,lt2_iff]
  ro:=⟨.refl _,by simp[u1],fun q hq=>by
    simp only[u1,List.mem_cons,List.not_mem_nil,or_false] at hq
    subst hq
    exact⟨rfl,b0,[],rfl,by decide,.refl _,by simp⟩⟩
  pr:=.refl _
  wr:=by simp[u1]
  s1:=⟨by show 2≤1000;decide,by simp[u1]⟩
  s2:=⟨by show 1≤1000;decide,by simp[u1]⟩
theorem tell2{t:Int}{d:Addr×Addr×Addr×Addr}:Tell (e2 t d) u2 where
  h:=by show 0<64;decide
  o:=by show 0<64;decide
  r:=by show 0<64;decide
  pm:=.refl _
  pw:=.nil
  ro:=⟨.refl _,.nil,fun q hq=>by cases hq⟩
  pr:=.refl _
  wr:=.nil
  s1:=⟨by show 0≤1000;decide,fun t h=>by cases h⟩
  s2:=⟨by show 0≤1000;decide,fun t h=>by cases h⟩
theorem St.seen(h:St CD CW C CP K sh H p pw W 8):Seen CD CW C CP K H p pw W (u0 sh) (u1 sh) u2 [(0,1)] uL∧NoneBig W (u0 sh):=by
  obtain⟨t0,t1,t2,d0,d1,d2,a0,a1,b0,x2,io,L,x,y2,y3⟩:=h
  obtain⟨q0,q1,q2,eq⟩:=x.q
  have len:=y3.len
  have num:=y3.num
  have rep:=y3.rep
  match L,len,num,rep with
  | [(n3,z3),(n4,z4),(n5,z5)],_,num,rep =>
    have lk:∀{n:Int} {z:Addr} {i:Nat},RepT K H (.ref z) (askD 2 2 1 1 i)→LetK K H (n,z) (2+1+(i:Int),"ask",2,(i:Int)):=fun{n z i} r=>by
      obtain⟨a,xs,e,s,pr⟩:=RepT.inv r
      cases e
      cases pr with
      | cons r1 pr=>cases pr with
        | cons r2 pr=>cases pr with
          | cons r3 pr=>cases pr with
            | cons r4 pr=>cases pr with
              | cons r5 pr =>
                cases pr
                cases r1;cases r2;cases r3;cases r4
                exact⟨_,s⟩
    simp[List.range,List.range.loop] at num
    obtain⟨e3,e4,e5⟩:=num
    obtain⟨b1,b2,hx2,_⟩:=y2
    refine⟨⟨x.S,⟨q0,_,q1,_,q2,_,eq,tell0,tell1,tell2⟩,?_,?_,?_,?_,?_⟩,⟨?_,?_,?_,?_⟩⟩
    · rw[x.ls]
      have g:=fun(j:Nat)(y:Int×Addr)(k:Nat)(h1:[(n3,z3),(n4,z4),(n5,z5)][j]?=some y)(h2:(List.range 3)[j]?=some k)=>paired_get rep j y k h1 h2
      exact .cons ⟨_,SqT.of hx2⟩ (.cons (lk (n:=n3) (g 0 _ 0 rfl rfl)) (.cons (lk (n:=n4) (g 1 _ 1 rfl rfl)) (.cons (lk (n:=n5) (g 2 _ 2 rfl rfl)) .nil)))
    · exact⟨by show 4≤1000;decide,by decide +kernel⟩
    · exact⟨_,ZL ..,rfl⟩
    · intro r hr e
      simp only[u0,List.mem_cons,List.not_mem_nil,or_false] at hr
      rcases hr with rfl|rfl
      · rfl
      · exact absurd e (by show ¬((0:Int),(1:Int))=(0,0);decide)
    · exact⟨by show 1≤1000;decide,by decide⟩
    · rw[x.ls]
      intro l hl
      simp only[List.mem_cons,List.not_mem_nil,or_false] at hl
      rcases hl with rfl|rfl|rfl|rfl
      · show(2:Int)≠999999999;decide
      · show n3≠999999999;omega
      · show n4≠999999999;omega
      · show n5≠999999999;omega
    · rw[x.iq]
      intro l hl
      rw[ZK hl]
      show(1:Int)≠100000000
      decide
    · intro q G e
      rw[eq] at e
      cases e
      show((123456789:Int),(0:Int))∉([(0,0),(0,1)]:List T2)
      decide
    · intro r hr
      simp only[u0,List.mem_cons,List.not_mem_nil,or_false] at hr
      rcases hr with rfl|rfl
      · show((0:Int),(0:Int))≠(0,123456789);decide
      · show((0:Int),(1:Int))≠(0,123456789);decide
end
end K53
namespace K53
open PySem L2 FX
set_option linter.all false
section
variable {P:Program}{w:World}{K:PySem.W.Frag}{mg:Str→Option Value}{base:Heap}{HE NR FA CD CW C CP CI NH NI NL NHd NNr MI NW:Addr}
theorem St.start{H:Hp}{p pw:Addr}{W:WGh}{sh:Int}(S:DeskAt CD CW C CP H p pw W)(e1:W.share=sh)(e2:W.c=0)(e3:W.ls=[])(e4:W.iqs=[])(e5:W.qs.length=3)(e6:∀i q G,W.qs[i]?=some (q,G)→Empty G i):St CD CW C CP K sh H p pw W 0:=by
  match hq:W.qs,e5 with
  | [(q0,G0),(q1,G1),(q2,G2)],_ =>
    obtain⟨h0,o0,l0,r0,rfl⟩:=(e6 0 q0 G0 (by rw[hq];rfl)).eq
    obtain⟨h1,o1,l1,r1,rfl⟩:=(e6 1 q1 G1 (by rw[hq];rfl)).eq
    obtain⟨h2,o2,l2,r2,rfl⟩:=(e6 2 q2 G2 (by rw[hq];rfl)).eq
    exact Exists.intro 0 (Exists.intro 0 (Exists.intro 0 (Exists.intro (h0,o0,l0,r0) (Exists.intro (h1,o1,l1,r1) (Exists.intro (h2,o2,l2,r2) ⟨S,e1,e2,⟨q0,q1,q2,hq⟩,e3,e4⟩)))))
theorem St.three{H:Hp}{p pw:Addr}{W:WGh}{sh:Int}{i:Nat}(h:St CD CW C CP K sh H p pw W i):DeskAt CD CW C CP H p pw W∧∃x xs,W.qs=x::xs:=by
  match i,h with
  | 0,⟨_,_,_,_,_,_,x⟩=>obtain⟨_,_,_,e⟩:=x.q;exact⟨x.S,_,_,e⟩
  | 1,⟨_,_,_,_,_,_,_,x⟩=>obtain⟨_,_,_,e⟩:=x.q;exact⟨x.S,_,_,e⟩
  | 2,⟨_,_,_,_,_,_,_,_,x⟩=>obtain⟨_,_,_,e⟩:=x.q;exact⟨x.S,_,_,e⟩
  | 3,⟨_,_,_,_,_,_,_,_,_,x⟩=>obtain⟨_,_,_,e⟩:=x.q;exact⟨x.S,_,_,e⟩
  | 4,⟨_,_,_,_,_,_,_,_,_,x⟩=>obtain⟨_,_,_,e⟩:=x.q;exact⟨x.S,_,_,e⟩
  | 5,⟨_,_,_,_,_,_,_,_,_,_,x,_⟩=>obtain⟨_,_,_,e⟩:=x.q;exact⟨x.S,_,_,e⟩
  | 6,⟨_,_,_,_,_,_,_,_,_,_,_,x,_⟩=>obtain⟨_,_,_,e⟩:=x.q;exact⟨x.S,_,_,e⟩
  | 7,⟨_,_,_,_,_,_,_,_,_,_,_,_,_,x,_⟩=>obtain⟨_,_,_,e⟩:=x.q;exact⟨x.S,_,_,e⟩
  | n+8,⟨_,_,_,_,_,_,_,_,_,_,_,_,x,_⟩=>obtain⟨_,_,_,e⟩:=x.q;exact⟨x.S,_,_,e⟩
theorem rep_strs{H:Hp}:∀(ys:List Str),Paired (RepT K H) (ys.map V.str) (ys.map PyData.str)
  | []=>.nil
  | y::r=>.cons (.str y) (rep_strs r)
def strsD(ys:List Str):PyData:=.list (ys.map PyData.str)
def refD(n:Nat):PyData:=.tuple [.str "refused",.int n]
theorem ok_ref(n:Nat):Okd (refD n):=okd_tuple fun d hd=>by
  simp only[List.mem_cons,List.not_mem_nil,or_false] at hd
  rcases hd with rfl|rfl
  · exact⟨by decide +kernel,by simp[PyData.depth]⟩
  · exact⟨rfl,by simp[PyData.depth]⟩
theorem ok_strs{ys:List Str}(h:∀y∈ys,(PyData.str y).canLay0=true):Okd (strsD ys):=okd_list fun d hd=>by
  obtain⟨y,m,rfl⟩:=ZN hd
  exact⟨h y m,by simp[PyData.depth]⟩
def T8c:List Str:=T8 (u0 0) (u1 0) u2 [(0,1)] uL
theorem t8_ok:Okd (strsD T8c):=ok_strs fun y hy=>List.all_eq_true.mp (show(T8c.all fun y=>(PyData.str y).canLay0)=true by decide +kernel) y hy
theorem rep_ref{H:Hp}{t:Addr}{n:Nat}(e:H t=some (.tup [.str "refused",.int n])):Rep K H (.ref t) (refD n):=.one (.tup (SqT.of e) rfl fun j x d h1 h2=>by
  match j,h1,h2 with
  | 0,h1,h2=>cases h1;cases h2;exact .str _
  | 1,h1,h2=>cases h1;cases h2;exact .int _)
def spLaw(K:PySem.W.Frag):Sp:=fun vs H Q _=>∃(a:Addr)(ns:List Int),vs=[.ref a]∧Scr K H a (ns.map V.int)∧ns.length≤63∧∀H',Q (.bl true) H'
theorem scL:FnScope ["_law_script","_law_desk","_law_row","_law_kept","_law_odd_here","_law_k","_law_xs"] ["_law_script"] (defScope sLaw):=⟨rfl,rfl,rfl,by decide +kernel,rfl,by decide +kernel,by decide +kernel⟩
structure XFs(K:PySem.W.Frag)(HE NH NHd NNr MI NW NL NI NR:Addr):Prop where
  x0:XF8 K HE NH NHd NNr MI NW NL NI NR NH 0
  x1:XF8 K HE NH NHd NNr MI NW NL NI NR NHd 1
  x3:XF8 K HE NH NHd NNr MI NW NL NI NR MI 3
  x5:XF8 K HE NH NHd NNr MI NW NL NI NR NL 5
  x6:XF8 K HE NH NHd NNr MI NW NL NI NR NI 6
  x7:XF8 K HE NH NHd NNr MI NW NL NI NR NR 7
theorem ok_law{f fC fDi fSy fLs fLk fOd fSt fSp:Addr}{fd dC dDi dSy dLs dLk dOd dSt dSp:FuncData}(F:Fun K "law" "law" sLaw f fd)(hlen:mg "len"=none)(hrange:mg "range"=none)(TK:TxtK K mg CD)(X8:XFs K HE NH NHd NNr MI NW NL NI NR)(MmD:Mk K CD fDi)(bD:Binds K dDi ["self","many","share"] [])(GDi:FnOk P w K mg base CX0 5 fDi dDi ["self","many","share"] (spDInit CD CW C CP))(MSy:Mth K CD "say" "Desk.say" sSay ["self","row"] fSy dSy)(GSy:FnOk P w K mg base (CX1 P w) 6 fSy dSy ["self","row"] (spSay CD CW C CP NH NHd NNr NL NI MI NR K))(MC:Gdf K mg "_law_cell" sCell ["_law_script","_law_k"] fC dC)(MLs:Gdf K mg "_law_say" sLSay ["_law_desk","_law_row"] fLs dLs)(GLs:FnOk P w K mg base CX0 7 fLs dLs ["_law_desk","_law_row"] (spLSay CD CW C CP NH NHd NNr NL NI MI NW NR HE K))(MLk:Gdf K mg "_law_look" sLook ["_law_desk"] fLk dLk)(GLk:FnOk P w K mg base CX0 7 fLk dLk ["_law_desk"] (spLLook CD CW C CP K))(MOd:Gdf K mg "_law_odd" sOdd [] fOd dOd)(GOd:FnOk P w K mg base CX0 1 fOd dOd [] spOdd)(MSt:Gdf K mg "_law_stream" sStream ["_law_cell_here","_law_many"] fSt dSt)(GSt:FnOk P w K mg base CX0 1 fSt dSt ["_law_cell_here","_law_many"] spStream)(MSp:Gdf K mg "_law_spoiled" sSpoiled ["_law_xs"] fSp dSp)(GSp:FnOk P w K mg base CX0 3 fSp dSp ["_law_xs"] spSpoiled) :
    FnOk P w K mg base CX0 8 f fd ["_law_script"] (spLaw K):=by
  have GC:FnOk P w K mg base CX0 1 fC dC ["_law_script","_law_k"] (spCell K):=ok_cell MC.fn hlen
  have GSy':FnOk P w K mg base CX0 6 fSy dSy ["self","row"] (fun vs H Q _=>spSay CD CW C CP NH NHd NNr NL NI MI NR K vs H Q E0):=FX.FnOk.no GSy
  refine okw F scL (fun vs H Q E h=>?_) (fun cdv A outer s H vs Q E hr h=>?_)
  · obtain⟨a,ns,rfl,_⟩:=h
    rfl
  · obtain⟨a,ns,rfl,hS,hl63,k⟩:=h
    have hr1:Room 1 _:=hr.mono (by decide)
    have hr3:Room 3 _:=hr.mono (by decide)
    have hr6:Room 6 _:=hr.mono (by decide)
    have hr7:=hr
    refine⟨_,pssw_cons (⟨ps_set (i:=1) scL.nd rfl (Or.inl rfl) (pe_make MmD GDi hr6 (by rfl) TK.mgC bD .nil pass0 (pa_cons pe_int (pa_cons (pe_op op_add pe_int (pe_op op_mod (pe_call GC hr1 (by rfl) MC.mg MC.fn.kp MC.bd .nil pass0 (pa_cons (pv 0) (pa_cons pe_int pa_nil))) pe_int)) pa_nil)))⟩) (pssw_cons (⟨ps_for PassesOwn.never rfl (pi_list (pe_lst (pa_strs (vs:=W8) (by rfl)))) (pg_name (i:=2) scL.nd rfl (Or.inl rfl)) (pss_one (ps_expr (pe_meth (pl:=_) (pv 1) TK.cl MSy.mt GSy' hr6 MSy.bd .nil pass0 (pa_cons (pv 2) pa_nil))))⟩) (pssw_cons (⟨ps_set (i:=3) scL.nd rfl (Or.inl rfl) (pe_call GLk hr7 (by rfl) MLk.mg MLk.fn.kp MLk.bd .nil pass0 (pa_cons (pv 1) pa_nil))⟩) (pssw_cons (⟨ps_set (i:=4) scL.nd rfl (Or.inl rfl) (pe_call0 GOd hr1 (by rfl) MOd.mg MOd.fn.kp MOd.bd .nil pass0)⟩) (pssw_cons (⟨ps_for PassesOwn.never rfl (pi_range1 rfl hrange (pa_cons pe_int pa_nil)) (pg_name (i:=5) scL.nd rfl (Or.inl rfl)) (pss_cons (ps_set (i:=6) scL.nd rfl (Or.inl rfl) (pe_call GSt hr1 (by rfl) MSt.mg MSt.fn.kp MSt.bd .nil pass0 (pa_cons (pe_call GC hr1 (by rfl) MC.mg MC.fn.kp MC.bd .nil pass0 (pa_cons (pv 0) (pa_cons (pe_op op_add pe_int (pv 5)) pa_nil))) (pa_cons pe_int pa_nil)))) (pss_cons (ps_set (i:=2) scL.nd rfl (Or.inl rfl) (pe_call GSp hr3 (by rfl) MSp.mg MSp.fn.kp MSp.bd .nil pass0 (pa_cons (pv 6) pa_nil))) (pss_cons (ps_if (pt_cmpR op_eq (pe_op op_mod (pe_ix ix_list (pv 6) pe_int (fun _ _=>rfl)) pe_int) pe_int (nomark _)) (pss_one (ps_set (i:=2) scL.nd rfl (Or.inl rfl) (pe_ix ix_list (pv 4) (pe_op op_mod (pe_ix ix_list (pv 6) pe_int (fun _ _=>rfl)) (pe_callB call_len_seq (by rfl) hlen PySem.boot_len (pa_cons (pv 4) pa_nil))) (fun _ _=>rfl)))) pss_nil) (pss_one (ps_if (PW.pt (pw_or (pt_cmpR (op_neD (hu64 hr)) (pe_call GLs hr7 (by rfl) MLs.mg MLs.fn.kp MLs.bd .nil pass0 (pa_cons (pv 1) (pa_cons (pv 2) pa_nil))) (pe_tup (pa_cons pe_str (pa_cons pe_int pa_nil))) (nomark _)) (pw_or1 (pt_cmpR (op_neD (hu64 hr)) (pe_call GLk hr7 (by rfl) MLk.mg MLk.fn.kp MLk.bd .nil pass0 (pa_cons (pv 1) pa_nil)) (pv 3) (nomark _))))) (pss_one (ps_ret pe_bl)) pss_nil)))))⟩) (pssw_cons (⟨ps_if (PW.pt (pw_or (pt_cmpR (op_neD (hu64 hr)) (pe_call GLs hr7 (by rfl) MLs.mg MLs.fn.kp MLs.bd .nil pass0 (pa_cons (pv 1) (pa_cons pe_str pa_nil))) (pe_tup (pa_cons pe_str (pa_cons pe_int pa_nil))) (nomark _)) (pw_or1 (pt_cmpR (op_neD (hu64 hr)) (pe_call GLs hr7 (by rfl) MLs.mg MLs.fn.kp MLs.bd .nil pass0 (pa_cons (pv 1) (pa_cons pe_str pa_nil))) (pe_tup (pa_cons pe_str (pa_cons pe_int pa_nil))) (nomark _))))) (pss_one (ps_ret pe_bl)) pss_nil⟩) (pssw_cons (⟨ps_if (PW.pt (pw_or (pt_cmpR (op_neD (hu64 hr)) (pe_call GLs hr7 (by rfl) MLs.mg MLs.fn.kp MLs.bd .nil pass0 (pa_cons (pv 1) (pa_cons pe_str pa_nil))) (pe_tup (pa_cons pe_str (pa_cons pe_int pa_nil))) (nomark _)) (pw_or1 (pt_cmpR (op_neD (hu64 hr)) (pe_call GLs hr7 (by rfl) MLs.mg MLs.fn.kp MLs.bd .nil pass0 (pa_cons (pv 1) (pa_cons pe_str pa_nil))) (pe_tup (pa_cons pe_str (pa_cons pe_int pa_nil))) (nomark _))))) (pss_one (ps_ret pe_bl)) pss_nil⟩) (pssw_one (⟨ps_ret (pe_and (pe_cmpR (op_eqD (hu64 hr)) (pe_call GLs hr7 (by rfl) MLs.mg MLs.fn.kp MLs.bd .nil pass0 (pa_cons (pv 1) (pa_cons pe_str pa_nil))) (pe_tup (pa_cons pe_str (pa_cons pe_int pa_nil))) (nomark _)) (pe_one (pe_cmpR (op_eqD (hu64 hr)) (pe_call GLk hr7 (by rfl) MLk.mg MLk.fn.kp MLk.bd .nil pass0 (pa_cons (pv 1) pa_nil)) (pv 3) (nomark _))))⟩)))))))),?_⟩
    refine⟨_,rfl,a,ns,0,rfl,hS.sq,hl63,by decide,by decide,fun v1=>⟨_,_,rfl,rfl,(show(0:Int)<8 by decide),_,_,rfl,rfl,?_⟩⟩
    intro p dx np ndx nex
    refine .mk p dx 3 _ rfl upd_same (by decide) (by decide) fun pw W1 H1 S1 e1 e2 e3 e4 e5 e6 e7 kp1=>⟨rfl,?_⟩
    have s01:Same H (upd (upd H dx (.own p)) p (.ins CD dx [])):=fun b o e=>by
      rw[upd_ne (ne_of_none e np),upd_ne (ne_of_none e ndx)]
      exact e
    have s1:Same H H1:=fun b o e=>kp1 b o (s01 b o e) (ne_of_none e np)
    have hS1:=hS.keep (KeepT.of_same s1)
    generalize 2+v1 % 8=sh at e1
    refine⟨by show 8≤sizeLine;decide,fun q1 hq1=>⟨q1,rfl,⟨_,SqL.of upd_same⟩,?_⟩⟩
    have s2:=same_new (o:=.lst (W8.map V.str)) hq1
    have eq1:(upd H1 q1 (.lst (W8.map V.str))) q1=some (.lst (W8.map V.str)):=upd_same
    have S2:=S1.same s2
    have hS2:=hS1.keep (KeepT.of_same s2)
    generalize upd H1 q1 (.lst (W8.map V.str))=H2 at s2 eq1 S2 hS2 ⊢
    refine for_list (K:=K) (a:=q1) (xs:=W8.map V.str) (fun i σ H3=>∃(W:WGh)(u:Option V),σ=[some (.ref a),some (.ref p),u,none,none,none,none]∧St CD CW C CP K sh H3 p pw W i∧Scr K H3 a (ns.map V.int)∧H3 q1=some (.lst (W8.map V.str)))
      ⟨W1,none,rfl,St.start S2 e1 e2 e3 e4 e6 e7,hS2,eq1⟩ (fun i σ H3 _ h=>by obtain⟨W,u,_,_,_,e⟩:=h;exact SqL.of e) ?_ ?_
    · rintro i x σ H3 hi ⟨W,u,rfl,st,sc,eq3⟩
      rw[ZH] at hi
      obtain⟨z,hz,rfl⟩:=Option.map_eq_some_iff.mp hi
      obtain⟨S3,y,ys,ey⟩:=St.three st
      obtain⟨dx3,ep⟩:=S3.ob
      refine⟨_,rfl,p,dx3,_,rfl,ep,by rfl,_,rfl,St.step st hz fun v H4 W4 st4 f=>?_⟩
      have kt:=WFr.keepT S3.wo f
      refine⟨W4,_,rfl,st4,sc.keep kt,f _ _ eq3 (S3.wo.lst_no eq3 fun z=>?_)⟩
      have:=S3.wo.hs
      rw[←z,eq3,ey] at this
      cases this
    · rintro σ H3 ⟨W,u,rfl,st,sc,eq3⟩
      obtain⟨x,nb⟩:=St.seen (show St CD CW C CP K sh H3 p pw W 8 from st)
      refine⟨_,rfl,p,pw,W,_,_,_,_,_,rfl,x,fun l4 H4 s4 e4'=>?_⟩
      have x4:=x.same s4
      have sc4:=sc.keep (KeepT.of_same s4)
      refine⟨rfl,fun l5 H5 s5 e5'=>?_⟩
      have x5:=x4.same s5
      have sc5:=sc4.keep (KeepT.of_same s5)
      have k5:H5 l4=some (.lst (T8c.map V.str)):=s5 _ _ e4'
      refine⟨12,rfl,by decide,by decide,?_⟩
      have hlO:Odd.length=41:=rfl
      have neT:∀{n:Nat} {H':Hp} {t t':Addr} {Q':VK},H' t=some (.tup [.str "refused",.int n])→H' t'=some (.tup [.str "refused",.int n])→Q' (.bl false) H'→rNeD K (.ref t) (.ref t') H' Q':=fun{n H' t t' Q'} h1 h2 q=>⟨refD n,refD n,rep_ref h1,rep_ref h2,ok_ref n,ok_ref n,by rw[eqv_same (ok_ref n)];exact q⟩
      have eqT:∀{n:Nat} {H':Hp} {t t':Addr} {Q':VK},H' t=some (.tup [.str "refused",.int n])→H' t'=some (.tup [.str "refused",.int n])→Q' (.bl true) H'→rEqD K (.ref t) (.ref t') H' Q':=fun{n H' t t' Q'} h1 h2 q=>⟨refD n,refD n,rep_ref h1,rep_ref h2,ok_ref n,ok_ref n,by rw[eqv_same (ok_ref n)];exact q⟩
      have rpL:∀{H':Hp} {l:Addr},H' l=some (.lst (T8c.map V.str))→Rep K H' (.ref l) (strsD T8c):=fun h=>.lst (SqL.of h) (rep_strs _)
      have neL:∀{H':Hp} {l l':Addr} {Q':VK},H' l=some (.lst (T8c.map V.str))→H' l'=some (.lst (T8c.map V.str))→Q' (.bl false) H'→rNeD K (.ref l) (.ref l') H' Q':=fun{H' l l' Q'} h1 h2 q=>⟨strsD T8c,strsD T8c,rpL h1,rpL h2,t8_ok,t8_ok,by rw[eqv_same t8_ok];exact q⟩
      have eqL:∀{H':Hp} {l l':Addr} {Q':VK},H' l=some (.lst (T8c.map V.str))→H' l'=some (.lst (T8c.map V.str))→Q' (.bl true) H'→rEqD K (.ref l) (.ref l') H' Q':=fun{H' l l' Q'} h1 h2 q=>⟨strsD T8c,strsD T8c,rpL h1,rpL h2,t8_ok,t8_ok,by rw[eqv_same t8_ok];exact q⟩
      refine for_range (lo:=0) (n:=12) (fun i σ H6=>∃(u w' y:Option V),σ=[some (.ref a),some (.ref p),u,some (.ref l4),some (.ref l5),w',y]∧Same H5 H6) ⟨_,_,_,rfl,Same.refl _⟩ ?_ ?_
      · rintro i σ H6 hi ⟨u,w',y,rfl,s6⟩
        have x6:=x5.same s6
        have sc6:=sc5.keep (KeepT.of_same s6)
        refine⟨_,rfl,_,rfl,_,_,rfl,rfl,a,ns,_,rfl,sc6.sq,hl63,by omega,by omega,fun v2=>⟨v2,9,rfl,by decide,fun l7 xs H7 s7 e7 hx9 hR=>?_⟩⟩
        refine⟨_,rfl,l7,xs,rfl,e7,hx9,hR,fun z H8 s8 hb hz=>?_⟩
        have x8:=(x6.same s7).same s8
        obtain⟨y8,hy8⟩:=get_of_lt (xs:=xs) (j:=8) (by omega)
        obtain⟨y6,hy6⟩:=get_of_lt (xs:=xs) (j:=6) (by omega)
        have e8:=s8 _ _ e7
        have ix8:∀{Q':VK},Q' (.int y8) H8→rIxL K (.ref l7) (.int 8) H8 Q':=fun h=>⟨l7,_,_,_,rfl,rfl,SqL.of e8,atI_at (by decide) (by rw[ZH,show(8:Int).toNat=8 from rfl,hy8];rfl),h⟩
        have ix6:∀{Q':VK},Q' (.int y6) H8→rIxL K (.ref l7) (.int 6) H8 Q':=fun h=>⟨l7,_,_,_,rfl,rfl,SqL.of e8,atI_at (by decide) (by rw[ZH,show(6:Int).toNat=6 from rfl,hy6];rfl),h⟩
        have eo:H8 l5=some (.lst (Odd.map V.str)):=s8 _ _ (s7 _ _ (s6 _ _ e5'))
        have ek:H8 l4=some (.lst (T8c.map V.str)):=s8 _ _ (s7 _ _ (s6 _ _ k5))
        have s58:=same_trans s6 (same_trans s7 s8)
        refine⟨_,rfl,ix8 ⟨_,_,rfl,rfl,(show(0:Int)<3 by decide),rfl,_,rfl,?_⟩⟩
        split
        · have n0:=Int.emod_nonneg y6 (show((((Odd.map V.str).length:Nat)):Int)≠0 by rw[ZA,hlO];decide)
          have n1:=Int.emod_lt_of_pos y6 (show(0:Int)<((((Odd.map V.str).length:Nat)):Int) by rw[ZA,hlO];decide)
          rw[ZA,hlO] at n1
          obtain⟨z2,hz2⟩:=get_of_lt (xs:=Odd) (j:=(y6 % ((((Odd.map V.str).length:Nat)):Int)).toNat) (by rw[hlO];rw[ZA,hlO] at n0 ⊢;omega)
          refine⟨_,rfl,_,rfl,ix6 ⟨_,rfl,l5,_,rfl,.inl (SqL.of eo),_,_,rfl,rfl,by rw[ZA,hlO];decide,l5,_,_,_,rfl,rfl,SqL.of eo,atI_at n0 (by rw[ZH,hz2];rfl),?_⟩⟩
          obtain⟨hb2,hl2⟩:=odd_at (ZP hz2)
          refine⟨_,rfl,_,rfl,(ref_bad hb2 hl2).lsay x8.S X8.x7 fun t9 H9 s9 e9=>⟨by show 2≤sizeLine;decide,fun t10 h10=>?_⟩⟩
          have s10:=same_new (o:=.tup [.str "refused",.int ((7:Nat):Int)]) h10
          refine neT (n:=7) (s10 _ _ e9) upd_same ⟨false,rfl,iteF ?_⟩
          have x10:=(x8.same s9).same s10
          refine⟨_,rfl,p,pw,W,_,_,_,_,_,rfl,x10,fun l11 H11 s11 e11=>⟨_,rfl,neL e11 (s11 _ _ (s10 _ _ (s9 _ _ ek))) ⟨false,rfl,iteF ?_⟩⟩⟩
          exact⟨_,_,_,rfl,same_trans s58 (same_trans s9 (same_trans s10 s11))⟩
        · refine⟨_,rfl,_,rfl,(ref_bad hb hz).lsay x8.S X8.x7 fun t9 H9 s9 e9=>⟨by show 2≤sizeLine;decide,fun t10 h10=>?_⟩⟩
          have s10:=same_new (o:=.tup [.str "refused",.int ((7:Nat):Int)]) h10
          refine neT (n:=7) (s10 _ _ e9) upd_same ⟨false,rfl,iteF ?_⟩
          have x10:=(x8.same s9).same s10
          refine⟨_,rfl,p,pw,W,_,_,_,_,_,rfl,x10,fun l11 H11 s11 e11=>⟨_,rfl,neL e11 (s11 _ _ (s10 _ _ (s9 _ _ ek))) ⟨false,rfl,iteF ?_⟩⟩⟩
          exact⟨_,_,_,rfl,same_trans s58 (same_trans s9 (same_trans s10 s11))⟩
      · rintro σ H6 ⟨u,w',y,rfl,s6⟩
        have x6:=x5.same s6
        have step:∀{z:Str} {cls:Addr} {n:Nat} {H':Hp} {Q':VK},Seen CD CW C CP K H' p pw W (u0 sh) (u1 sh) u2 [(0,1)] uL→Refuses CD CW C CP NH NHd NNr NL NI MI NR K H' p z cls→XF8 K HE NH NHd NNr MI NW NL NI NR cls n→(∀H'',Same H' H''→Q' (.bl false) H'')→spLSay CD CW C CP NH NHd NNr NL NI MI NW NR HE K [.ref p,.str z] H' (fun v H1=>ItTup [.str "refused",.int n] H1 fun y H2=>rNeD K v y H2 Q') E0:=fun{z cls n H' Q'} xx rr xf q=>rr.lsay xx.S xf fun t9 H9 s9 e9=>⟨by show 2≤sizeLine;decide,fun t10 h10=>by
          have s10:=same_new (o:=.tup [.str "refused",.int (n:Int)]) h10
          exact neT (n:=n) (s10 _ _ e9) upd_same (q _ (same_trans s9 s10))⟩
        refine⟨_,rfl,step x6 (ref_make x6) X8.x0 fun H7 s7=>⟨false,rfl,iteF ⟨_,rfl,step (x6.same s7) (ref_come (x6.same s7) nb) X8.x5 fun H8 s8=>⟨false,rfl,iteF ?_⟩⟩⟩⟩
        have x8:=(x6.same s7).same s8
        refine⟨_,rfl,step x8 (ref_free x8 nb) X8.x1 fun H9 s9=>⟨false,rfl,iteF ⟨_,rfl,step (x8.same s9) (ref_found (x8.same s9) nb) X8.x6 fun H10 s10=>⟨false,rfl,iteF ?_⟩⟩⟩⟩
        have x10:=(x8.same s9).same s10
        refine⟨_,rfl,(ref_holds x10 nb).lsay x10.S X8.x3 fun t11 H11 s11 e11=>⟨by show 2≤sizeLine;decide,fun t12 h12=>?_⟩⟩
        have s12:=same_new (o:=.tup [.str "refused",.int ((3:Nat):Int)]) h12
        refine eqT (n:=3) (s12 _ _ e11) upd_same ⟨true,rfl,iteT ?_⟩
        have x12:=(x10.same s11).same s12
        refine⟨_,rfl,p,pw,W,_,_,_,_,_,rfl,x12,fun l13 H13 s13 e13=>⟨_,rfl,eqL e13 (s13 _ _ (s12 _ _ (s11 _ _ (s10 _ _ (s9 _ _ (s8 _ _ (s7 _ _ (s6 _ _ k5)))))))) ?_⟩⟩
        exact k _
end
end K53
namespace K53
open PySem L2 FX
set_option linter.all false
inductive FmL(K:PySem.W.Frag)(w:World):List (Str×List Bool)→List DictEntry→Prop
  | nil:FmL K w [] []
  | cons {v:Str} {fs:List Bool} {r:List (Str×List Bool)} {es:List DictEntry} {t:Addr} {tk:Tok} {its:Array Value} {n:Nat}:K.lookup t=some ⟨.type "tuple",none,.seq its n,#[]⟩→Vals (fs.map fun b=>V.str (fm b)) its.toList→FmL K w r es→FmL K w ((v,fs)::r) (⟨PyData.keyHash w.params v,.str v tk,.ref t⟩::es)
theorem fml_all{P:Program}{w:World}{K:PySem.W.Frag}:∀{l:List (Str×List Bool)} {es:List DictEntry},(∀p∈l,p.2.length≤10)→FmL K w l es→∃(kvs:List (Key×V))(vs:List (Key×Value)),KV kvs vs∧Pairs (mixKind P w) es vs∧(∀e∈es,∃k,(mixKind P w).is k e.key=true∧e.hash=(mixKind P w).hash k)∧vs.map (·.1)=l.map (fun p=>(Sum.inr p.1:Key))∧Paired (FormE K) l kvs
  | _,_,_,.nil=>⟨[],[],.nil,.nil,(fun _ h=>by cases h),rfl,.nil⟩
  | (v,fs)::l,_,hl,.cons (t:=t) (tk:=tk) (its:=its) lk hv r=>by
    obtain⟨kvs,vs,h1,h2,h3,h4,h5⟩:=fml_all (P:=P) (fun p hp=>hl p (ZD _ hp)) r
    have hk:(mixKind P w).is (Sum.inr v) (.str v tk)=true:=mixKind_str P w v tk
    have hle:=hl (v,fs) (ZL ..)
    have sz:sizeLine=16777216:=sizeLine_eq
    refine⟨(Sum.inr v,.ref t)::kvs,(Sum.inr v,.ref t)::vs,.cons ⟨rfl,rfl⟩ h1,.cons hk rfl h2,fun e he=>?_,by rw[List.map_cons,List.map_cons,h4],.cons ⟨rfl,t,rfl,fun H=>?_⟩ h5⟩
    · rcases ZM he with rfl|he
      · exact⟨Sum.inr v,hk,rfl⟩
      · exact h3 e he
    · have e:fs.length=its.size:=by simpa using Paired.length hv
      have hle2:fs.length≤10:=hle
      exact .inr ⟨_,_,_,lk,rfl,rfl,by omega,hv⟩
theorem forms_mk{w:World}{K:PySem.W.Frag}{FA:Addr}{es:Array DictEntry}{ep:Nat}(lk:K.lookup FA=some ⟨.type "dict",none,.dict es ep,#[]⟩)(h:FmL K w FT es.toList)(hs:(FA==sysModules)=false)(P:Program):∃kvs,DicK P w K FA kvs∧Paired (FormE K) FT kvs:=by
  obtain⟨kvs,vs,h1,h2,h3,h4,h5⟩:=fml_all (P:=P) (by decide +kernel) h
  refine⟨kvs,⟨hs,vs,h1,fun hp X=>⟨_,es,ep,X _ _ lk,⟨rfl,rfl,rfl⟩,rfl,fun e he=>h3 e (by simpa using he),h2,?_⟩⟩,h5⟩
  rw[h4]
  decide +kernel
def fmB:List Bool→List Value→Bool
  | [],[]=>true
  | b::fs,.str x _::us=>x==fm b&&fmB fs us
  | _,_=>false
theorem fm_vals:∀{fs:List Bool} {us:List Value},fmB fs us=true→Vals (fs.map fun b=>V.str (fm b)) us
  | [],[],_=>.nil
  | b::fs,.str x t::us,h=>by
    have h:=Bool.and_eq_true_iff.mp h
    have e:x=fm b:=eq_of_beq h.1
    subst e
    exact .cons ⟨t,rfl⟩ (fm_vals h.2)
end K53
namespace K53
open PySem L2 FX
set_option linter.all false
structure MeI(K:PySem.W.Frag)(C:Addr)(x q:Str)(st:Stmt)(f:Addr)(fd:FuncData):Prop where
  a:PySem.W.findIn K (.ref C) x=some (some (.ref f))
  i:PySem.W.isFn K (.ref f)=true
  fn:Fun K x q st f fd
structure GI(K:PySem.W.Frag)(x:Str)(st:Stmt)(f:Addr)(fd:FuncData):Prop where
  a:PySem.W.nsIn K mainGlobals x=some (some (.ref f))
  fn:Fun K x x st f fd
structure GdI(K:PySem.W.Frag)(x:Str)(st:Stmt)(ps:List Str)(f:Addr)(fd:FuncData):Prop extends GI K x st f fd where
  b:Binds K fd ps []
theorem GdI.gdf{K:PySem.W.Frag}{mg:Str→Option Value}{hp:Heap}{x:Str}{st:Stmt}{f:Addr}{fd:FuncData}{ps:List Str}(m:GdI K x st ps f fd)(X:K.In hp)(G:hp.Ns mainGlobals mg):Gdf K mg x st ps f fd:=⟨m.fn,m.b,PySem.W.mg_of X G m.a⟩
structure CI(K:PySem.W.Frag)(C:Addr):Prop where
  pg:PySem.W.plainGet K C Str.empty=true
  hd:PySem.W.hasDictIn K C=true
  po:PySem.W.plainOver K C=true
  sa:PySem.W.findIn K (.ref C) "__setattr__"=some (some (.builtin "object.__setattr__"))
  mm:PySem.W.makesIn K C=true
  kc:PySem.W.keepIn K (.ref C)=true
def Bd(x q:Str)(st:Stmt)(ps:List Str):Prop:=∀(kV doc pm:Value)(an:Option Addr)(cdv ct:Value)(us:List Value),us.length=ps.length→bindArgs (PySem.W.fnOf x q (defArgs st) (defBody st) (defScope st) .none kV doc pm an cdv ct) ⟨us,[]⟩=pure (ps.zip us)
theorem MeI.mth{K:PySem.W.Frag}{C:Addr}{x q:Str}{st:Stmt}{f:Addr}{fd:FuncData}{ps:List Str}(m:MeI K C x q st f fd)(h:Bd x q st ps:=by
      intro _ _ _ _ _ _ us hl
      rcases us with _|⟨_,_|⟨_,_|⟨_,_|⟨_,_|⟨_,_|⟨_,_|⟨_,_⟩⟩⟩⟩⟩⟩⟩<;>first|(cases hl;done)|rfl):Mth K C x q st ps f fd:=⟨m.fn,m.fn.binds h,⟨m.a,m.i,m.fn.kp⟩⟩
theorem GI.gdi{K:PySem.W.Frag}{x:Str}{st:Stmt}{f:Addr}{fd:FuncData}{ps:List Str}(m:GI K x st f fd)(h:Bd x x st ps:=by
      intro _ _ _ _ _ _ us hl
      rcases us with _|⟨_,_|⟨_,_|⟨_,_|⟨_,_|⟨_,_|⟨_,_|⟨_,_⟩⟩⟩⟩⟩⟩⟩<;>first|(cases hl;done)|rfl):GdI K x st ps f fd:=⟨m,m.fn.binds h⟩
theorem all_mk{l:PySem.W.OpenLaw}{w:World}{K:PySem.W.Frag}{h:Heap}{mg:Str→Option Value}{fa C CW CP CQ CD FA HE NH XH XN XM XW NL NI NR fI fPI fII fWI fDI fM fHo fFr fPa fCa fSt fTo fNe fSp fQH fQN fPR fAR fPP fPL fPT fWM fWHo fWFr fWSe fWAk fWSt fWIn fWDe fWLe fWH fWWe fWAA fDS fDM fDA fDL fDH fP1 fRW fRD fRN fWT fWL fLI fLT fC1 fSS fCL fLS fLN fLG fLO fLB fSP fOD fLK fW:Addr}{dI dPI dII dWI dDI dM dHo dFr dPa dCa dSt dTo dNe dSp dQH dQN dPR dAR dPP dPL dPT dWM dWHo dWFr dWSe dWAk dWSt dWIn dWDe dWLe dWH dWWe dWAA dDS dDM dDA dDL dDH dP1 dRW dRD dRN dWT dWL dLI dLT dC1 dSS dCL dLS dLN dLG dLO dLB dSP dOD dLK dW:FuncData}(X:K.In h)(G:h.Ns mainGlobals mg)(hfa:mg "law"=some (.ref fa))(aC:PySem.W.nsIn K mainGlobals "House"=some (some (.ref C)))(aCW:PySem.W.nsIn K mainGlobals "World"=some (some (.ref CW)))(aCP:PySem.W.nsIn K mainGlobals "Post"=some (some (.ref CP)))(aCQ:PySem.W.nsIn K mainGlobals "Inquiry"=some (some (.ref CQ)))(aCD:PySem.W.nsIn K mainGlobals "Desk"=some (some (.ref CD)))(aFA:PySem.W.nsIn K mainGlobals "FORMS"=some (some (.ref FA)))(hF:∀P:Program,∃kvs,DicK P w K FA kvs∧Paired (FormE K) FT kvs)(aHE:PySem.W.nsIn K mainGlobals "HoldError"=some (some (.ref HE)))(aNH:PySem.W.nsIn K mainGlobals "NoHouse"=some (some (.ref NH)))(aXH:PySem.W.nsIn K mainGlobals "NotHeld"=some (some (.ref XH)))(aXN:PySem.W.nsIn K mainGlobals "NotNear"=some (some (.ref XN)))(aXM:PySem.W.nsIn K mainGlobals "Missing"=some (some (.ref XM)))(aXW:PySem.W.nsIn K mainGlobals "NoWeight"=some (some (.ref XW)))(aNL:PySem.W.nsIn K mainGlobals "NoLetter"=some (some (.ref NL)))(aNI:PySem.W.nsIn K mainGlobals "NoInquiry"=some (some (.ref NI)))(aNR:PySem.W.nsIn K mainGlobals "NoRow"=some (some (.ref NR)))(q3:PySem.W.specialIn K (.builtin "object.__class__") "__get__"=some (some (.builtin "getset_descriptor.__get__")))(q4:PySem.W.takesIn K (.builtin "object.__class__")=some true)(xNH:PySem.W.excIn K NH [.type "ValueError",.type "Exception",.type "BaseException",.type "object"] "ValueError.__new__"=true)(xXH:PySem.W.excIn K XH [.type "ValueError",.type "Exception",.type "BaseException",.type "object"] "ValueError.__new__"=true)(xXN:PySem.W.excIn K XN [.type "ValueError",.type "Exception",.type "BaseException",.type "object"] "ValueError.__new__"=true)(xXM:PySem.W.excIn K XM [.type "ValueError",.type "Exception",.type "BaseException",.type "object"] "ValueError.__new__"=true)(xXW:PySem.W.excIn K XW [.type "ValueError",.type "Exception",.type "BaseException",.type "object"] "ValueError.__new__"=true)(xNL:PySem.W.excIn K NL [.type "ValueError",.type "Exception",.type "BaseException",.type "object"] "ValueError.__new__"=true)(xNI:PySem.W.excIn K NI [.type "ValueError",.type "Exception",.type "BaseException",.type "object"] "ValueError.__new__"=true)(xNR:PySem.W.excIn K NR [.type "ValueError",.type "Exception",.type "BaseException",.type "object"] "ValueError.__new__"=true)(xHE:PySem.W.excIn K HE [.type "ValueError",.type "Exception",.type "BaseException",.type "object"] "ValueError.__new__"=true)(sNH:PySem.W.mroIn K NH (.ref HE)=some true)(qaNH:PySem.W.findIn K (.ref NH) "__getattribute__"=some (some (.builtin "BaseException.__getattribute__")))(qbNH:PySem.W.findIn K (.ref NH) "__getattr__"=some none)(qcNH:PySem.W.findIn K (.ref NH) "__class__"=some (some (.builtin "object.__class__")))(qdNH:PySem.W.mroIn K NH (.type "object")=some true)(qeNH:PySem.W.mroIn K NH (.type "BaseException")=some true)(tNHXH:PySem.W.kitOne K (.ref NH) (.ref XH)=some false)(tNHXN:PySem.W.kitOne K (.ref NH) (.ref XN)=some false)(tNHXM:PySem.W.kitOne K (.ref NH) (.ref XM)=some false)(tNHXW:PySem.W.kitOne K (.ref NH) (.ref XW)=some false)(tNHNL:PySem.W.kitOne K (.ref NH) (.ref NL)=some false)(tNHNI:PySem.W.kitOne K (.ref NH) (.ref NI)=some false)(tNHNR:PySem.W.kitOne K (.ref NH) (.ref NR)=some false)(tNHV:PySem.W.kitOne K (.ref NH) (.type "ValueError")=some true)(sXH:PySem.W.mroIn K XH (.ref HE)=some true)(qaXH:PySem.W.findIn K (.ref XH) "__getattribute__"=some (some (.builtin "BaseException.__getattribute__")))(qbXH:PySem.W.findIn K (.ref XH) "__getattr__"=some none)(qcXH:PySem.W.findIn K (.ref XH) "__class__"=some (some (.builtin "object.__class__")))(qdXH:PySem.W.mroIn K XH (.type "object")=some true)(qeXH:PySem.W.mroIn K XH (.type "BaseException")=some true)(tXHNH:PySem.W.kitOne K (.ref XH) (.ref NH)=some false)(tXHXN:PySem.W.kitOne K (.ref XH) (.ref XN)=some false)(tXHXM:PySem.W.kitOne K (.ref XH) (.ref XM)=some false)(tXHXW:PySem.W.kitOne K (.ref XH) (.ref XW)=some false)(tXHNL:PySem.W.kitOne K (.ref XH) (.ref NL)=some false)(tXHNI:PySem.W.kitOne K (.ref XH) (.ref NI)=some false)(tXHNR:PySem.W.kitOne K (.ref XH) (.ref NR)=some false)(tXHV:PySem.W.kitOne K (.ref XH) (.type "ValueError")=some true)(sXM:PySem.W.mroIn K XM (.ref HE)=some true)(qaXM:PySem.W.findIn K (.ref XM) "__getattribute__"=some (some (.builtin "BaseException.__getattribute__")))(qbXM:PySem.W.findIn K (.ref XM) "__getattr__"=some none)(qcXM:PySem.W.findIn K (.ref XM) "__class__"=some (some (.builtin "object.__class__")))(qdXM:PySem.W.mroIn K XM (.type "object")=some true)(qeXM:PySem.W.mroIn K XM (.type "BaseException")=some true)(tXMNH:PySem.W.kitOne K (.ref XM) (.ref NH)=some false)(tXMXH:PySem.W.kitOne K (.ref XM) (.ref XH)=some false)(tXMXN:PySem.W.kitOne K (.ref XM) (.ref XN)=some false)(tXMXW:PySem.W.kitOne K (.ref XM) (.ref XW)=some false)(tXMNL:PySem.W.kitOne K (.ref XM) (.ref NL)=some false)(tXMNI:PySem.W.kitOne K (.ref XM) (.ref NI)=some false)(tXMNR:PySem.W.kitOne K (.ref XM) (.ref NR)=some false)(tXMV:PySem.W.kitOne K (.ref XM) (.type "ValueError")=some true)(sNL:PySem.W.mroIn K NL (.ref HE)=some true)(qaNL:PySem.W.findIn K (.ref NL) "__getattribute__"=some (some (.builtin "BaseException.__getattribute__")))(qbNL:PySem.W.findIn K (.ref NL) "__getattr__"=some none)(qcNL:PySem.W.findIn K (.ref NL) "__class__"=some (some (.builtin "object.__class__")))(qdNL:PySem.W.mroIn K NL (.type "object")=some true)(qeNL:PySem.W.mroIn K NL (.type "BaseException")=some true)(tNLNH:PySem.W.kitOne K (.ref NL) (.ref NH)=some false)(tNLXH:PySem.W.kitOne K (.ref NL) (.ref XH)=some false)(tNLXN:PySem.W.kitOne K (.ref NL) (.ref XN)=some false)(tNLXM:PySem.W.kitOne K (.ref NL) (.ref XM)=some false)(tNLXW:PySem.W.kitOne K (.ref NL) (.ref XW)=some false)(tNLNI:PySem.W.kitOne K (.ref NL) (.ref NI)=some false)(tNLNR:PySem.W.kitOne K (.ref NL) (.ref NR)=some false)(tNLV:PySem.W.kitOne K (.ref NL) (.type "ValueError")=some true)(sNI:PySem.W.mroIn K NI (.ref HE)=some true)(qaNI:PySem.W.findIn K (.ref NI) "__getattribute__"=some (some (.builtin "BaseException.__getattribute__")))(qbNI:PySem.W.findIn K (.ref NI) "__getattr__"=some none)(qcNI:PySem.W.findIn K (.ref NI) "__class__"=some (some (.builtin "object.__class__")))(qdNI:PySem.W.mroIn K NI (.type "object")=some true)(qeNI:PySem.W.mroIn K NI (.type "BaseException")=some true)(tNINH:PySem.W.kitOne K (.ref NI) (.ref NH)=some false)(tNIXH:PySem.W.kitOne K (.ref NI) (.ref XH)=some false)(tNIXN:PySem.W.kitOne K (.ref NI) (.ref XN)=some false)(tNIXM:PySem.W.kitOne K (.ref NI) (.ref XM)=some false)(tNIXW:PySem.W.kitOne K (.ref NI) (.ref XW)=some false)(tNINL:PySem.W.kitOne K (.ref NI) (.ref NL)=some false)(tNINR:PySem.W.kitOne K (.ref NI) (.ref NR)=some false)(tNIV:PySem.W.kitOne K (.ref NI) (.type "ValueError")=some true)(sNR:PySem.W.mroIn K NR (.ref HE)=some true)(qaNR:PySem.W.findIn K (.ref NR) "__getattribute__"=some (some (.builtin "BaseException.__getattribute__")))(qbNR:PySem.W.findIn K (.ref NR) "__getattr__"=some none)(qcNR:PySem.W.findIn K (.ref NR) "__class__"=some (some (.builtin "object.__class__")))(qdNR:PySem.W.mroIn K NR (.type "object")=some true)(qeNR:PySem.W.mroIn K NR (.type "BaseException")=some true)(tNRNH:PySem.W.kitOne K (.ref NR) (.ref NH)=some false)(tNRXH:PySem.W.kitOne K (.ref NR) (.ref XH)=some false)(tNRXN:PySem.W.kitOne K (.ref NR) (.ref XN)=some false)(tNRXM:PySem.W.kitOne K (.ref NR) (.ref XM)=some false)(tNRXW:PySem.W.kitOne K (.ref NR) (.ref XW)=some false)(tNRNL:PySem.W.kitOne K (.ref NR) (.ref NL)=some false)(tNRNI:PySem.W.kitOne K (.ref NR) (.ref NI)=some false)(tNRV:PySem.W.kitOne K (.ref NR) (.type "ValueError")=some true)(hI:MeI K C "__init__" "House.__init__" sInit fI dI)(hPI:MeI K CP "__init__" "Post.__init__" sPInit fPI dPI)(hII:MeI K CQ "__init__" "Inquiry.__init__" sIInit fII dII)(hWI:MeI K CW "__init__" "World.__init__" sWInit fWI dWI)(hDI:MeI K CD "__init__" "Desk.__init__" sDInit fDI dDI)(mM:Mth K C "make" "House.make" sMake ["self"] fM dM)(mHo:Mth K C "hold" "House.hold" sHold ["self","a","b"] fHo dHo)(mFr:Mth K C "free" "House.free" sFree ["self","b"] fFr dFr)(mPa:Mth K C "part" "House.part" sPart ["self","b","share"] fPa dPa)(mCa:Mth K C "came" "House.came" sCame ["self","b","weight"] fCa dCa)(mSt:Mth K C "state" "House.state" sState ["self"] fSt dSt)(mTo:Mth K C "told" "House.told" sTold ["self","thing"] fTo dTo)(mNe:Mth K C "is_near" "House.is_near" sNear ["self","thing"] fNe dNe)(mSp:Mth K C "is_spent" "House.is_spent" sSpent ["self","thing"] fSp dSp)(mQH:Mth K C "need_in_hand" "House.need_in_hand" sNeedH ["self","thing"] fQH dQH)(mQN:Mth K C "need_near" "House.need_near" sNeedN ["self","thing"] fQN dQN)(mPR:Mth K C "part_record" "House.part_record" sPartR ["self","b"] fPR dPR)(mAR:Mth K C "add_to_record" "House.add_to_record" sAddR ["self","b","weight"] fAR dAR)(mPP:Mth K CP "put" "Post.put" sPPut ["self","kind","sender","goal","about"] fPP dPP)(mPL:Mth K CP "letters" "Post.letters" sPLetters ["self"] fPL dPL)(mPT:Mth K CP "taken" "Post.taken" sPTaken ["self","n"] fPT dPT)(mWM:Mth K CW "make" "World.make" sWMake ["self","h"] fWM dWM)(mWHo:Mth K CW "hold" "World.hold" sWHold ["self","h","a","b"] fWHo dWHo)(mWFr:Mth K CW "free" "World.free" sWFree ["self","h","b"] fWFr dWFr)(mWSe:Mth K CW "send" "World.send" sWSend ["self","h","g","b"] fWSe dWSe)(mWAk:Mth K CW "ask" "World.ask" sWAsk ["self","h"] fWAk dWAk)(mWSt:Mth K CW "state" "World.state" sWState ["self","h"] fWSt dWSt)(mWIn:Mth K CW "inquiry" "World.inquiry" sWInquiry ["self","n"] fWIn dWIn)(mWDe:Mth K CW "deliver" "World.deliver" sWDeliver ["self","n"] fWDe dWDe)(mWLe:Mth K CW "letters" "World.letters" sWLetters ["self"] fWLe dWLe)(mWH:Mth K CW "house" "World.house" sWHouse ["self","h"] fWH dWH)(mWWe:Mth K CW "weight_came" "World.weight_came" sWWeight ["self","letter"] fWWe dWWe)(mWAA:Mth K CW "ask_all" "World.ask_all" sWAskAll ["self","beginner","n","turn"] fWAA dWAA)(mDS:Mth K CD "say" "Desk.say" sSay ["self","row"] fDS dDS)(mDM:Mth K CD "move" "Desk.move" sMove ["self","verb","given"] fDM dDM)(mDA:Mth K CD "act" "Desk.act" sAct ["self","verb","given"] fDA dDA)(mDL:Mth K CD "look" "Desk.look" sLookD ["self","verb","given"] fDL dDL)(mDH:Mth K CD "held_by" "Desk.held_by" sHeldBy ["self","a"] fDH dDH)(mP1:GdI K "parted" sParted ["weight"] fP1 dP1)(mRW:GdI K "read_words" sReadWords ["verb","words"] fRW dRW)(mRD:GdI K "read_word" sReadWord ["form","word"] fRD dRD)(mRN:GdI K "read_number" sReadNum ["word"] fRN dRN)(mWT:GdI K "written_thing" sWrThing ["thing"] fWT dWT)(mWL:GdI K "written_letter" sWrLetter ["letter"] fWL dWL)(mLI:GdI K "listed" sListed ["words"] fLI dLI)(mLT:GdI K "listed_things" sListedT ["things"] fLT dLT)(mC1:GdI K "_law_cell" sCell ["_law_script","_law_k"] fC1 dC1)(mSS:GdI K "_law_stream" sStream ["_law_cell_here","_law_many"] fSS dSS)(mCL:GdI K "_law_class" sClass ["_law_e"] fCL dCL)(mLS:GdI K "_law_say" sLSay ["_law_desk","_law_row"] fLS dLS)(mLN:GdI K "_law_number" sLNum ["_law_x"] fLN dLN)(mLG:GdI K "_law_good" sGood ["_law_xs"] fLG dLG)(mLO:GdI K "_law_other_word" sOther ["_law_word","_law_x"] fLO dLO)(mLB:GdI K "_law_bad" sBad ["_law_piece","_law_x"] fLB dLB)(mSP:GdI K "_law_spoiled" sSpoiled ["_law_xs"] fSP dSP)(mOD:GdI K "_law_odd" sOdd [] fOD dOD)(mLK:GdI K "_law_look" sLook ["_law_desk"] fLK dLK)(hW:GI K "law" sLaw fW dW)(cC:CI K C)(nC0:PySem.W.findIn K (.ref C) "number"=some none)(nC1:PySem.W.findIn K (.ref C) "made"=some none)(nC2:PySem.W.findIn K (.ref C) "ticks"=some none)(nC3:PySem.W.findIn K (.ref C) "hand"=some none)(nC4:PySem.W.findIn K (.ref C) "outs"=some none)(nC5:PySem.W.findIn K (.ref C) "holds"=some none)(nC6:PySem.W.findIn K (.ref C) "records"=some none)(cCW:CI K CW)(nCW0:PySem.W.findIn K (.ref CW) "share"=some none)(nCW1:PySem.W.findIn K (.ref CW) "houses"=some none)(nCW2:PySem.W.findIn K (.ref CW) "post"=some none)(nCW3:PySem.W.findIn K (.ref CW) "inquiries"=some none)(nCW4:PySem.W.findIn K (.ref CW) "finds"=some none)(nCW5:PySem.W.findIn K (.ref CW) "enclosed"=some none)(cCP:CI K CP)(nCP0:PySem.W.findIn K (.ref CP) "latest"=some none)(nCP1:PySem.W.findIn K (.ref CP) "waiting"=some none)(cCQ:CI K CQ)(nCQ0:PySem.W.findIn K (.ref CQ) "many"=some none)(nCQ1:PySem.W.findIn K (.ref CQ) "states"=some none)(nCQ2:PySem.W.findIn K (.ref CQ) "first_ticks"=some none)(nCQ3:PySem.W.findIn K (.ref CQ) "second_ticks"=some none)(cCD:CI K CD)(nCD0:PySem.W.findIn K (.ref CD) "world"=some none)(z0:PySem.W.nsIn K mainGlobals "len"=some none)(z1:PySem.W.nsIn K mainGlobals "range"=some none)(z2:PySem.W.nsIn K mainGlobals "tuple"=some none)(z3:PySem.W.nsIn K mainGlobals "sorted"=some none)(z4:PySem.W.nsIn K mainGlobals "isinstance"=some none)(z5:PySem.W.nsIn K mainGlobals "list"=some none)(z6:PySem.W.nsIn K mainGlobals "int"=some none)(z7:PySem.W.nsIn K mainGlobals "zip"=some none)(z8:PySem.W.nsIn K mainGlobals "str"=some none)(z9:PySem.W.nsIn K mainGlobals "ValueError"=some none)
    : ∃fd:FuncData,(∀(s:Shared)(v:Value),BindsTo s fd ⟨[v],[]⟩ [("_law_script",v)])∧∀base:Heap,K.In base→base.Ns mainGlobals mg→FnOk l.prog w K mg base CX0 8 fa fd ["_law_script"] (spLaw K):=by
  have e:=hfa.symm.trans (PySem.W.mg_of X G hW.a)
  cases e
  have y0:=PySem.W.mg_none_of X G z0
  have y1:=PySem.W.mg_none_of X G z1
  have y2:=PySem.W.mg_none_of X G z2
  have y3:=PySem.W.mg_none_of X G z3
  have y4:=PySem.W.mg_none_of X G z4
  have y5:=PySem.W.mg_none_of X G z5
  have y6:=PySem.W.mg_none_of X G z6
  have y7:=PySem.W.mg_none_of X G z7
  have y8:=PySem.W.mg_none_of X G z8
  have y9:=PySem.W.mg_none_of X G z9
  have gC:=PySem.W.mg_of X G aC
  obtain⟨pgC,hdC,poC,saC,mkC,kcC⟩:=cC
  have gCW:=PySem.W.mg_of X G aCW
  obtain⟨pgCW,hdCW,poCW,saCW,mkCW,kcCW⟩:=cCW
  have gCP:=PySem.W.mg_of X G aCP
  obtain⟨pgCP,hdCP,poCP,saCP,mkCP,kcCP⟩:=cCP
  have gCQ:=PySem.W.mg_of X G aCQ
  obtain⟨pgCQ,hdCQ,poCQ,saCQ,mkCQ,kcCQ⟩:=cCQ
  have gCD:=PySem.W.mg_of X G aCD
  obtain⟨pgCD,hdCD,poCD,saCD,mkCD,kcCD⟩:=cCD
  have gFA:=PySem.W.mg_of X G aFA
  have gHE:=PySem.W.mg_of X G aHE
  have gNH:=PySem.W.mg_of X G aNH
  have gXH:=PySem.W.mg_of X G aXH
  have gXN:=PySem.W.mg_of X G aXN
  have gXM:=PySem.W.mg_of X G aXM
  have gXW:=PySem.W.mg_of X G aXW
  have gNL:=PySem.W.mg_of X G aNL
  have gNI:=PySem.W.mg_of X G aNI
  have gNR:=PySem.W.mg_of X G aNR
  obtain⟨aI,iI,FI⟩:=hI
  have bI:=(MeI.mth (ps:=["self","number"]) ⟨aI,iI,FI⟩).bd
  have MmI:Mk K C fI:=⟨mkC,aI,iI,kcC⟩
  obtain⟨aPI,iPI,FPI⟩:=hPI
  have bPI:=(MeI.mth (ps:=["self"]) ⟨aPI,iPI,FPI⟩).bd
  have MmPI:Mk K CP fPI:=⟨mkCP,aPI,iPI,kcCP⟩
  obtain⟨aII,iII,FII⟩:=hII
  have bII:=(MeI.mth (ps:=["self","many"]) ⟨aII,iII,FII⟩).bd
  have MmII:Mk K CQ fII:=⟨mkCQ,aII,iII,kcCQ⟩
  obtain⟨aWI,iWI,FWI⟩:=hWI
  have bWI:=(MeI.mth (ps:=["self","many","share"]) ⟨aWI,iWI,FWI⟩).bd
  have MmWI:Mk K CW fWI:=⟨mkCW,aWI,iWI,kcCW⟩
  obtain⟨aDI,iDI,FDI⟩:=hDI
  have bDI:=(MeI.mth (ps:=["self","many","share"]) ⟨aDI,iDI,FDI⟩).bd
  have MmDI:Mk K CD fDI:=⟨mkCD,aDI,iDI,kcCD⟩
  replace mP1:=mP1.gdf X G
  replace mRW:=mRW.gdf X G
  replace mRD:=mRD.gdf X G
  replace mRN:=mRN.gdf X G
  replace mWT:=mWT.gdf X G
  replace mWL:=mWL.gdf X G
  replace mLI:=mLI.gdf X G
  replace mLT:=mLT.gdf X G
  replace mC1:=mC1.gdf X G
  replace mSS:=mSS.gdf X G
  replace mCL:=mCL.gdf X G
  replace mLS:=mLS.gdf X G
  replace mLN:=mLN.gdf X G
  replace mLG:=mLG.gdf X G
  replace mLO:=mLO.gdf X G
  replace mLB:=mLB.gdf X G
  replace mSP:=mSP.gdf X G
  replace mOD:=mOD.gdf X G
  replace mLK:=mLK.gdf X G
  have FW:=hW.fn
  have TW:TxtW K mg CW NH NI:=⟨⟨pgCW,hdCW,poCW,saCW⟩,nCW0,nCW1,nCW2,nCW3,nCW4,nCW5,gCW,⟨gNH,xNH⟩,⟨gNI,xNI⟩⟩
  have TP:TxtP K mg CP NL:=⟨⟨pgCP,hdCP,poCP,saCP⟩,nCP0,nCP1,gCP,⟨gNL,xNL⟩,y5⟩
  have TI:TxtI K mg CQ:=⟨⟨pgCQ,hdCQ,poCQ,saCQ⟩,nCQ0,nCQ1,nCQ2,nCQ3,gCQ⟩
  have TR:TxtR K mg NR:=⟨⟨gNR,xNR⟩,y0,y6,y7,y8⟩
  have TK:TxtK K mg CD:=⟨⟨pgCD,hdCD,poCD,saCD⟩,nCD0,gCD⟩
  have cHE:XCls K mg "HoldError" HE:=⟨gHE,xHE⟩
  have X0:XF8 K HE NH XH XN XM XW NL NI NR NH 0:=⟨by decide,sNH,⟨qaNH,qbNH,qcNH,q3,q4,qdNH,qeNH,cls_of_mro qdNH⟩,kit_self,tNHXH,tNHXN,tNHXM,tNHXW,tNHNL,tNHNI,tNHNR,tNHV⟩
  have X1:XF8 K HE NH XH XN XM XW NL NI NR XH 1:=⟨by decide,sXH,⟨qaXH,qbXH,qcXH,q3,q4,qdXH,qeXH,cls_of_mro qdXH⟩,tXHNH,kit_self,tXHXN,tXHXM,tXHXW,tXHNL,tXHNI,tXHNR,tXHV⟩
  have X3:XF8 K HE NH XH XN XM XW NL NI NR XM 3:=⟨by decide,sXM,⟨qaXM,qbXM,qcXM,q3,q4,qdXM,qeXM,cls_of_mro qdXM⟩,tXMNH,tXMXH,tXMXN,kit_self,tXMXW,tXMNL,tXMNI,tXMNR,tXMV⟩
  have X5:XF8 K HE NH XH XN XM XW NL NI NR NL 5:=⟨by decide,sNL,⟨qaNL,qbNL,qcNL,q3,q4,qdNL,qeNL,cls_of_mro qdNL⟩,tNLNH,tNLXH,tNLXN,tNLXM,tNLXW,kit_self,tNLNI,tNLNR,tNLV⟩
  have X6:XF8 K HE NH XH XN XM XW NL NI NR NI 6:=⟨by decide,sNI,⟨qaNI,qbNI,qcNI,q3,q4,qdNI,qeNI,cls_of_mro qdNI⟩,tNINH,tNIXH,tNIXN,tNIXM,tNIXW,tNINL,kit_self,tNINR,tNIV⟩
  have X7:XF8 K HE NH XH XN XM XW NL NI NR NR 7:=⟨by decide,sNR,⟨qaNR,qbNR,qcNR,q3,q4,qdNR,qeNR,cls_of_mro qdNR⟩,tNRNH,tNRXH,tNRXN,tNRXM,tNRXW,tNRNL,tNRNI,kit_self,tNRV⟩
  have T:Txt K mg C XH XN XM XW:=⟨⟨pgC,hdC,poC,saC⟩,nC0,nC1,nC2,nC3,nC4,nC5,nC6,gC,⟨gXH,xXH⟩,⟨gXN,xXN⟩,⟨gXM,xXM⟩,⟨gXW,xXW⟩,y0,y1,y2,y3,y4⟩
  have z:=FW
  obtain⟨⟨oc,od,kV,doc,pm,an,cdv,ct,osl,rfl,lk,cd⟩,kp⟩:=z
  refine⟨PySem.W.fnOf "law" "law" (defArgs sLaw) (defBody sLaw) (defScope sLaw) .none kV doc pm an cdv ct,fun s v=>.of_eq rfl,fun base _ _=>?_⟩
  generalize l.prog=P
  have FK:FormsK P w K mg FA:=⟨gFA,hF P⟩
  have GSt:FnOk P w K mg base CX0 2 fSt dSt ["self"] (spState C K):=ok_state mSt.fn T mTo.fn mTo.bd mTo.mt
  have GWSt:FnOk P w K mg base (CX1 P w) 3 fWSt dWSt ["self","h"] (spWState CW C CP NH K):=ok_wstate mWSt.fn T TW mWH mSt (FX.FnOk.to1 GSt)
  have GCa:FnOk P w K mg base CX0 2 fCa dCa ["self","b","weight"] (spCame C):=ok_came mCa.fn T mNe mAR
  have GWe:FnOk P w K mg base CX0 3 fWWe dWWe ["self","letter"] (spWWeight CW C CP):=ok_wweight mWWe.fn T TW mCa GCa
  have GPt:FnOk P w K mg base (CX1 P w) 3 fPa dPa ["self","b","share"] (spPart C XH XW):=ok_part mPa.fn T mNe mQH mPR mP1
  have GSd:FnOk P w K mg base (CX1 P w) 4 fWSe dWSe ["self","h","g","b"] (spWSend CW C CP NH XH):=ok_wsend mWSe.fn T TW TP mWH mPa GPt mSp mPP
  have GLe:FnOk P w K mg base CX0 2 fWLe dWLe ["self"] (spWLetters CW C CP):=ok_wletters mWLe.fn TW TP mPL
  have GFr:FnOk P w K mg base (CX1 P w) 2 fFr dFr ["self","b"] (spFree C XH):=ok_free mFr.fn T mQH
  have GHo:FnOk P w K mg base (CX1 P w) 3 fHo dHo ["self","a","b"] (spHold C XH XN):=ok_hold mHo.fn T mNe mQH mQN
  have GMk:FnOk P w K mg base (CX1 P w) 1 fM dM ["self"] (spMake C):=FX.FnOk.to1 (ok_make mM.fn T)
  have GWM:FnOk P w K mg base (CX1 P w) 2 fWM dWM ["self","h"] (spWMake CW C CP NH):=ok_wmake mWM.fn T TW mWH mM GMk
  have GWH:FnOk P w K mg base (CX1 P w) 4 fWHo dWHo ["self","h","a","b"] (spWHold CW C CP NH XH XN):=ok_whold mWHo.fn T TW mWH mHo GHo
  have GWF:FnOk P w K mg base (CX1 P w) 3 fWFr dWFr ["self","h","b"] (spWFree CW C CP NH XH):=ok_wfree mWFr.fn T TW mWH mFr GFr
  have GAA:FnOk P w K mg base CX0 2 fWAA dWAA ["self","beginner","n","turn"] (spWAskAll CW C CP K):=ok_waskall mWAA.fn T TW TP mPP
  have GAk:FnOk P w K mg base (CX1 P w) 3 fWAk dWAk ["self","h"] (spWAsk CW C CP NH K):=ok_wask mWAk.fn T TW TI mWH MmII FII bII mWAA GAA
  have GDe:FnOk P w K mg base (CX1 P w) 4 fWDe dWDe ["self","n"] (spWDeliver CW C CP NL):=ok_wdeliver mWDe.fn TW TP mPT mWWe GWe
  have GDI:FnOk P w K mg base CX0 5 fDI dDI ["self","many","share"] (spDInit CD CW C CP):=ok_dinit FDI TK TW MmWI bWI (ok_winit FWI T TW TP MmI FI bI MmPI FPI bPI)
  have GRW:FnOk P w K mg base (CX1 P w) 3 fRW dRW ["verb","words"] (spReadWords NR):=ok_readwords mRW.fn TR FK mRN mRD
  have GMv:FnOk P w K mg base (CX1 P w) 5 fDM dDM ["self","verb","given"] (spMove CD CW C CP NH XH XN):=ok_move mDM.fn TK TW mWHo GWH mWFr GWF
  have GAc:FnOk P w K mg base (CX1 P w) 5 fDA dDA ["self","verb","given"] (spAct CD CW C CP NH XH NL K):=ok_act mDA.fn TR TK TW mWM GWM mWSe GSd mWAk GAk mWDe GDe mWT mLI
  have GLo:FnOk P w K mg base (CX1 P w) 5 fDL dDL ["self","verb","given"] (spLook CD CW C CP NH NI XM K):=ok_look mDL.fn T TR TK TW mWSt GWSt mDH mWIn mWLe GLe mLT (ok_listedT mLT.fn TR mWT mLI) mLI mWL
  have GSy:FnOk P w K mg base (CX1 P w) 6 fDS dDS ["self","row"] (spSay CD CW C CP NH XH XN NL NI XM NR K):=ok_say mDS.fn TK mRW GRW mDM GMv mDA GAc mDL GLo
  have GCl:FnOkH P w K mg base 1 fCL dCL ["_law_e"] (spClass K HE NH XH XN XM XW NL NI NR):=ok_class mCL.fn T TW TP TR y9
  have GLs:FnOk P w K mg base CX0 7 fLS dLS ["_law_desk","_law_row"] (spLSay CD CW C CP NH XH XN NL NI XM XW NR HE K):=ok_lsay mLS.fn TK cHE mDS GSy mCL GCl
  have GLk:FnOk P w K mg base CX0 7 fLK dLK ["_law_desk"] (spLLook CD CW C CP K):=ok_llook mLK.fn TK mDS GSy
  have GGd:FnOk P w K mg base CX0 2 fLG dLG ["_law_xs"] spGood:=ok_good mLG.fn y1 y0 mLN (ok_lnum mLN.fn y8)
  have GSp:FnOk P w K mg base CX0 3 fSP dSP ["_law_xs"] spSpoiled:=ok_spoiled mSP.fn y0 y6 mLG GGd mLB (ok_bad mLB.fn) mLO (ok_other mLO.fn)
  exact ok_law FW y0 y1 TK ⟨X0,X1,X3,X5,X6,X7⟩ MmDI bDI GDI mDS GSy mC1 mLS GLs mLK GLk mOD (ok_odd mOD.fn) mSS (ok_stream mSS.fn y1) mSP GSp
theorem walk{l:PySem.W.OpenLaw}{q:Program}{loose:List Str}{XP:(Str→Option Value)→Heap→Prop}{YP:World→Heap→Prop}{d:DefRec}{K:Params→PySem.W.Frag}(hn:l.most=some 63)(hdf:d.params.defaults=[])(hY:∀(w:World) (h:Heap),YP w h→(K w.params).In h)(F:∀(w:World) (mg:Str→Option Value) (fa:Addr) (h:Heap),(K w.params).In h→h.Ns mainGlobals mg→mg d.name=some (.ref fa) →
      ∃fd:FuncData,(∀(s:Shared) (u:Value),BindsTo s fd ⟨[u],[]⟩ [("_law_script",u)])∧∀base:Heap,(K w.params).In base→base.Ns mainGlobals mg→FnOk l.prog w (K w.params) mg base CX0 8 fa fd ["_law_script"] (spLaw (K w.params))) :
    PySem.W.WalkO q loose XP YP l.row.toRowW d [] (fun f vs=>PySem.call f vs) :=
  L2.walk_of (n:=63) (k:=8) (x:="_law_script") (CX:=fun w=>CX0) (sp:=fun w=>spLaw (K w.params)) hn (by decide) hdf ⟨rfl,by decide,by decide⟩ hY F (fun _ H a ns hl hO hS=>⟨a,ns,rfl,Scr.of hO hS,hl,fun _=>rfl⟩) fun _ _ _ _ _ z=>z
end K53
open PySem PySem.W PyProof.Rows
set_option maxRecDepth 100000 in
set_option maxHeartbeats 0 in
theorem PySem.Challenge.cw_farhold_k53_no_row_holds : PySem.Challenge.rw_farhold_k53_no_row.Holds := by
  w_on;o_law;k_head;(case hw=>w_witness2)
  k_fill
  refine K53.walk (l:=PySem.Challenge.rw_farhold_k53_no_row) rfl rfl (fun w h Y=>PySem.W.kIn_of Y) ?F
  case F =>
    intro w mg fa h KX G hmg
    refine' K53.all_mk KX G hmg ?aC ?aCW ?aCP ?aCQ ?aCD ?aFA ?hF ?aHE ?aNH ?aXH ?aXN ?aXM ?aXW ?aNL ?aNI ?aNR ?q3 ?q4 ?xNH ?xXH ?xXN ?xXM ?xXW ?xNL ?xNI ?xNR ?xHE ?sNH ?qaNH ?qbNH ?qcNH ?qdNH ?qeNH ?tNHXH ?tNHXN ?tNHXM ?tNHXW ?tNHNL ?tNHNI ?tNHNR ?tNHV ?sXH ?qaXH ?qbXH ?qcXH ?qdXH ?qeXH ?tXHNH ?tXHXN ?tXHXM ?tXHXW ?tXHNL ?tXHNI ?tXHNR ?tXHV ?sXM ?qaXM ?qbXM ?qcXM ?qdXM ?qeXM ?tXMNH ?tXMXH ?tXMXN ?tXMXW ?tXMNL ?tXMNI ?tXMNR ?tXMV ?sNL ?qaNL ?qbNL ?qcNL ?qdNL ?qeNL ?tNLNH ?tNLXH ?tNLXN ?tNLXM ?tNLXW ?tNLNI ?tNLNR ?tNLV ?sNI ?qaNI ?qbNI ?qcNI ?qdNI ?qeNI ?tNINH ?tNIXH ?tNIXN ?tNIXM ?tNIXW ?tNINL ?tNINR ?tNIV ?sNR ?qaNR ?qbNR ?qcNR ?qdNR ?qeNR ?tNRNH ?tNRXH ?tNRXN ?tNRXM ?tNRXW ?tNRNL ?tNRNI ?tNRV ?hI ?hPI ?hII ?hWI ?hDI ?mM ?mHo ?mFr ?mPa ?mCa ?mSt ?mTo ?mNe ?mSp ?mQH ?mQN ?mPR ?mAR ?mPP ?mPL ?mPT ?mWM ?mWHo ?mWFr ?mWSe ?mWAk ?mWSt ?mWIn ?mWDe ?mWLe ?mWH ?mWWe ?mWAA ?mDS ?mDM ?mDA ?mDL ?mDH ?mP1 ?mRW ?mRD ?mRN ?mWT ?mWL ?mLI ?mLT ?mC1 ?mSS ?mCL ?mLS ?mLN ?mLG ?mLO ?mLB ?mSP ?mOD ?mLK ?hW ?cC ?nC0 ?nC1 ?nC2 ?nC3 ?nC4 ?nC5 ?nC6 ?cCW ?nCW0 ?nCW1 ?nCW2 ?nCW3 ?nCW4 ?nCW5 ?cCP ?nCP0 ?nCP1 ?cCQ ?nCQ0 ?nCQ1 ?nCQ2 ?nCQ3 ?cCD ?nCD0 ?z0 ?z1 ?z2 ?z3 ?z4 ?z5 ?z6 ?z7 ?z8 ?z9
    case aC|aCW|aCP|aCQ|aCD|aFA=>k_is
    case hF=>exact K53.forms_mk (by k_is) (by repeat (first|exact K53.FmL.nil|refine K53.FmL.cons (by k_is) (K53.fm_vals (by decide +kernel)) ?_)) rfl
    case aHE|aNH|aXH|aXN|aXM|aXW|aNL|aNI|aNR|q3|q4=>k_is
    case xNH|xXH|xXN|xXM|xXW|xNL|xNI|xNR|xHE=>k_exc
    case sNH|qaNH|qbNH|qcNH|qdNH|qeNH=>k_is
    case tNHXH|tNHXN|tNHXM|tNHXW|tNHNL|tNHNI|tNHNR|tNHV=>kit_is
    case sXH|qaXH|qbXH|qcXH|qdXH|qeXH=>k_is
    case tXHNH|tXHXN|tXHXM|tXHXW|tXHNL|tXHNI|tXHNR|tXHV=>kit_is
    case sXM|qaXM|qbXM|qcXM|qdXM|qeXM=>k_is
    case tXMNH|tXMXH|tXMXN|tXMXW|tXMNL|tXMNI|tXMNR|tXMV=>kit_is
    case sNL|qaNL|qbNL|qcNL|qdNL|qeNL=>k_is
    case tNLNH|tNLXH|tNLXN|tNLXM|tNLXW|tNLNI|tNLNR|tNLV=>kit_is
    case sNI|qaNI|qbNI|qcNI|qdNI|qeNI=>k_is
    case tNINH|tNIXH|tNIXN|tNIXM|tNIXW|tNINL|tNINR|tNIV=>kit_is
    case sNR|qaNR|qbNR|qcNR|qdNR|qeNR=>k_is
    case tNRNH|tNRXH|tNRXN|tNRXM|tNRXW|tNRNL|tNRNI|tNRV=>kit_is
    case hI|hPI|hII|hWI|hDI=>exact⟨by k_is,by k_is,⟨⟨_,_,_,_,_,_,_,_,_,rfl,by k_is,by k_is⟩,by k_is⟩⟩
    case mM|mHo|mFr|mPa|mCa|mSt|mTo|mNe|mSp|mQH|mQN|mPR|mAR|mPP|mPL|mPT|mWM|mWHo|mWFr|mWSe|mWAk|mWSt|mWIn|mWDe|mWLe|mWH|mWWe|mWAA|mDS|mDM|mDA|mDL|mDH=>exact K53.MeI.mth ⟨by k_is,by k_is,⟨⟨_,_,_,_,_,_,_,_,_,rfl,by k_is,by k_is⟩,by k_is⟩⟩
    case mP1|mRW|mRD|mRN|mWT|mWL|mLI|mLT|mC1|mSS|mCL|mLS|mLN|mLG|mLO|mLB|mSP|mOD|mLK=>exact K53.GI.gdi ⟨by k_is,⟨⟨_,_,_,_,_,_,_,_,_,rfl,by k_is,by k_is⟩,by k_is⟩⟩
    case hW=>exact⟨by k_is,⟨⟨_,_,_,_,_,_,_,_,_,rfl,by k_is,by k_is⟩,by k_is⟩⟩
    case cC=>constructor<;>k_is
    case nC0|nC1|nC2|nC3|nC4|nC5|nC6=>k_is
    case cCW=>constructor<;>k_is
    case nCW0|nCW1|nCW2|nCW3|nCW4|nCW5=>k_is
    case cCP=>constructor<;>k_is
    case nCP0|nCP1=>k_is
    case cCQ=>constructor<;>k_is
    case nCQ0|nCQ1|nCQ2|nCQ3=>k_is
    case cCD=>constructor<;>k_is
    case nCD0|z0|z1|z2|z3|z4|z5|z6|z7|z8|z9=>k_is
