import PyProof.Rows.All
import Wide.All
import OpenK.AllK
import Wide.FinOn
import Lean
import PyProof.EqAt
import PyProof.EqKinds
import PyProof.TupleCall
import PySem.Challenge.RW_farhold_k32_inquiries
set_option Elab.async false
set_option linter.all false
set_option maxRecDepth 100000
namespace L2
open PySem PySem.Spec PyProof.Rows
abbrev Key:=Sum Int Str
def keyIs:Key→Value→Bool
  | .inl k,v=>Value.isInt k v
  | .inr x,v=>Value.isStrOf x v
def keyH (w:World):Key→Int
  | .inl k=>hashInt k
  | .inr x=>hashStr w x
theorem keyIs_shape:∀ {k:Key} {v:Value},keyIs k v=true→(∃ i t,k=Sum.inl i∧v=Value.int i t)∨(∃ x t,k=Sum.inr x∧v=Value.str x t)
  | .inl i,v,h=>by
    obtain ⟨t,e⟩:=Value.isInt_shape (k:=i) (v:=v) h
    exact .inl ⟨i,t,rfl,e⟩
  | .inr x,v,h=>by
    obtain ⟨t,e⟩:=Value.isStrOf_shape (x:=x) (v:=v) h
    exact .inr ⟨x,t,rfl,e⟩
theorem keyIs_int (i:Int) (t:Tok):keyIs (.inl i) (.int i t)=true:=by simp [keyIs,Value.isInt]
theorem keyIs_str (x:Str) (t:Tok):keyIs (.inr x) (.str x t)=true:=by simp [keyIs,Value.isStrOf]
theorem key_ll (a b:Int):decide ((Sum.inl a:Key)=Sum.inl b)=(a == b):=by
  by_cases e:a=b
  · subst e; simp
  · have h:¬ (Sum.inl a:Key)=Sum.inl b:=fun q=>e (Sum.inl.inj q)
    rw [decide_eq_false h]
    exact (beq_eq_false_iff_ne.mpr e).symm
theorem key_rr (a b:Str):decide ((Sum.inr a:Key)=Sum.inr b)=decide (a=b):=by
  by_cases e:a=b
  · subst e; simp
  · have h:¬ (Sum.inr a:Key)=Sum.inr b:=fun q=>e (Sum.inr.inj q)
    rw [decide_eq_false h,decide_eq_false e]
theorem key_lr (a:Int) (b:Str):decide ((Sum.inl a:Key)=Sum.inr b)=false:=decide_eq_false (fun q=>nomatch q)
theorem key_rl (a:Str) (b:Int):decide ((Sum.inr a:Key)=Sum.inl b)=false:=decide_eq_false (fun q=>nomatch q)
def mixKind (prog:Program) (w:World):PySem.KeyKind prog w Key where
  is:=keyIs
  hash:=keyH w
  inj:=fun v a b ha hb=>by
    rcases keyIs_shape ha with ⟨i,t,rfl,rfl⟩ | ⟨x,t,rfl,rfl⟩
    · rcases keyIs_shape hb with ⟨j,u,rfl,e⟩ | ⟨y,u,rfl,e⟩
      · injection e with e1 _; rw [e1]
      · exact nomatch e
    · rcases keyIs_shape hb with ⟨j,u,rfl,e⟩ | ⟨y,u,rfl,e⟩
      · exact nomatch e
      · injection e with e1 _; rw [e1]
  byValue:=fun k v h=>by
    rcases keyIs_shape h with ⟨i,t,rfl,rfl⟩ | ⟨x,t,rfl,rfl⟩ <;> rfl
  pyHash:=fun hv h=>by
    rcases keyIs_shape hv with ⟨i,t,rfl,rfl⟩ | ⟨x,t,rfl,rfl⟩
    · exact wpAny_pyHash_int h
    · exact wpAny_pyHash_str h
  eqBool:=fun hu hv h=>by
    rcases keyIs_shape hu with ⟨i,t,rfl,rfl⟩ | ⟨x,t,rfl,rfl⟩
    · rcases keyIs_shape hv with ⟨j,u,rfl,rfl⟩ | ⟨y,u,rfl,rfl⟩
      · rw [key_ll] at h; exact wpAny_eqBool_int h
      · rw [key_lr] at h; exact SeqAt.EqAt.int_str i t y u _ _ _ _ h
    · rcases keyIs_shape hv with ⟨j,u,rfl,rfl⟩ | ⟨y,u,rfl,rfl⟩
      · rw [key_rl] at h; exact SeqAt.EqAt.str_int x t j u _ _ _ _ h
      · rw [key_rr] at h; exact wpAny_eqBool_str h
  «strs»:=fun k x t v h=>by
    rcases keyIs_shape h with ⟨i,u,rfl,e⟩ | ⟨y,u,rfl,e⟩
    · exact nomatch e
    · injection e with e1 _
      subst e1
      cases v <;> rfl
theorem mixKind_int (prog:Program) (w:World) (i:Int) (t:Tok):(mixKind prog w).is (.inl i) (.int i t)=true:=keyIs_int i t
theorem mixKind_str (prog:Program) (w:World) (x:Str) (t:Tok):(mixKind prog w).is (.inr x) (.str x t)=true:=keyIs_str x t
end L2
namespace L2
open PySem PySem.Spec PyProof.Rows
inductive V where
  | non | bl (b:Bool) | int (i:Int) | str (x:Str) | byt (b:Array UInt8) | flt (b:UInt64) | ref (a:Addr) | ty (n:String)
  deriving DecidableEq
def RelV:V→Value→Prop
  | .non,u=>u=Value.none
  | .bl b,u=>u=Value.bool b
  | .int i,u=>∃ t,u=Value.int i t
  | .str x,u=>∃ t,u=Value.str x t
  | .byt b,u=>∃ t,u=Value.bytes b t
  | .flt b,u=>∃ t,u=Value.float b t
  | .ref a,u=>u=Value.ref a
  | .ty n,u=>u=Value.type n
abbrev Vals:List V→List Value→Prop:=Paired RelV
theorem Vals.length {xs:List V} {us:List Value} (r:Vals xs us):xs.length=us.length:=Paired.length r
theorem Vals.get:∀ {xs:List V} {us:List Value} {i:Nat} {x:V},Vals xs us→xs[i]?=some x→∃ u,us[i]?=some u∧RelV x u
  | _,_,_,_,.nil,e=>by simp at e
  | _,_,0,_,.cons r _,e=>by simp at e; subst e; exact ⟨_,rfl,r⟩
  | _,_,i + 1,x,.cons _ t,e=>by
    obtain ⟨u,h1,h2⟩:=Vals.get (i:=i) (x:=x) t (by simpa using e)
    exact ⟨u,by simpa using h1,h2⟩
theorem Vals.append:∀ {xs ys:List V} {us ws:List Value},Vals xs us→Vals ys ws→Vals (xs++ys) (us++ws)
  | _,_,_,_,.nil,s=>s
  | _,_,_,_,.cons r t,s=>.cons r (Vals.append t s)
theorem Vals.take:∀ {xs:List V} {us:List Value} (n:Nat),Vals xs us→Vals (xs.take n) (us.take n)
  | _,_,0,_=>.nil
  | _,_,_ + 1,.nil=>.nil
  | _,_,n + 1,.cons r t=>.cons r (Vals.take n t)
theorem Vals.drop:∀ {xs:List V} {us:List Value} (n:Nat),Vals xs us→Vals (xs.drop n) (us.drop n)
  | _,_,0,r=>r
  | _,_,_ + 1,.nil=>.nil
  | _,_,n + 1,.cons _ t=>Vals.drop n t
def RelO:Option V→Option Value→Prop
  | some v,some u=>RelV v u
  | none,none=>True
  | _,_=>False
def KV {κ:Type}:List (κ×V)→List (κ×Value)→Prop:=Paired fun (p:κ×V) (q:κ×Value)=>p.1=q.1∧RelV p.2 q.2
def kV:Key→V
  | .inl i=>.int i
  | .inr x=>.str x
inductive HO where
  | lst (xs:List V)
  | tup (xs:List V)
  | dK (kvs:List (Key×V)) | dT (kvs:List (List Key×V))
  | set (S:Int→Bool) (n:Nat)
  | ins (C dx:Addr) (fs:List (Str×V))
  | own (x:Addr)
  | xd (fs:List (Str×V))
  | met (f x:Addr)
  | rng (lo hi:Int)
  | frz (o:Obj) (u:HO)
  | tbl (ps:Array Value)
  | ext (φ:Heap→Prop)
abbrev Hp:=Addr→Option HO
def upd (H:Hp) (a:Addr) (o:HO):Hp:=fun b=>if b=a then some o else H b
theorem upd_same {H:Hp} {a:Addr} {o:HO}:upd H a o a=some o:=by unfold upd; rw [if_pos rfl]
theorem upd_ne {H:Hp} {a b:Addr} {o:HO} (h:b≠a):upd H a o b=H b:=by unfold upd; rw [if_neg h]
theorem ne_of {H:Hp} {a b:Addr} {o u:HO} (h:H a=some o) (h':H b=some u) (d:o≠u):a≠b:=by
  intro e; subst e; rw [h] at h'; exact d (Option.some.inj h')
theorem ne_of_none {H:Hp} {a b:Addr} {o:HO} (h:H a=some o) (h':H b=none):a≠b:=by
  intro e; subst e; rw [h] at h'; cases h'
section
variable (P:Program) (w:World)
def ObjOk (H:Hp) (h:Heap) (a:Addr):HO→Prop
  | .lst xs=>xs.length≤sizeLine∧∃ (its:List Value) (n:Nat),Vals xs its∧h.get? a=some { cls:=.type "list",data:=.seq its.toArray n }
  | .tup xs=>xs.length≤sizeLine∧∃ its:List Value,Vals xs its∧IsTup h a its.toArray
  | .dK kvs=>kvs.length≤sizeLine∧(a == sysModules)=false∧∃ vs,KV kvs vs∧h.DictOf (mixKind P w) a vs
  | .dT kvs=>kvs.length≤sizeLine∧(a == sysModules)=false∧∃ xs:List (List Key×Addr×Value),
      Paired (fun (p:List Key×V) (q:List Key×Addr×Value)=>p.1=q.1∧H q.2.1=some (.tup (p.1.map kV))∧RelV p.2 q.2.2) kvs xs ∧
      ∃ o es ep,h.get? a=some o∧o.ExactDict∧o.data=.dict es ep∧es.toList=xs.map (entryOfKey (tupleKind (mixKind P w)))∧(xs.map (·.1)).Nodup
  | .set S n=>h.SetOf (intKind P w) a S n
  | .ins C dx fs=>H dx=some (.own a)∧fs.length≤1000∧dx≠a∧h.get? a=some (PySem.W.instObj C dx) ∧
      ∃ mA,h.Ns1 dx mA∧(∀ f,RelO (fs.lookup f) (mA f))∧PySem.Within mA (fs.map (·.1))
  | .own _=>∃ o,h.get? a=some o
  | .xd fs=>∃ mA,h.Ns1 a mA∧∀ f,RelO (fs.lookup f) (mA f)
  | .rng lo hi=>∃ t u v,h.get? a=some { cls:=.type "range",data:=.fields #[.int lo t,.int hi u,.int 1 v] }
  | .frz o u=>h.get? a=some o∧ObjOk H h a u
  | .tbl ps=>h.get? a=some { cls:=.none,data:=.fields ps }
  | .met f x=>h.get? a=some (PySem.W.methodObj (.ref f) (.ref x))
  | .ext φ=>φ h∧(∃ o,h.get? a=some o)∧∀ h1 h2:Heap,φ h1→(∀ o,h1.get? a=some o→h2.get? a=some o)→φ h2
def HOk (H:Hp) (h:Heap):Prop:=∀ a o,H a=some o→ObjOk P w H h a o
end
section
variable {P:Program} {w:World} {H H':Hp} {h h':Heap} {a:Addr} {o:HO}
theorem ObjOk.lt (x:ObjOk P w H h a o):a < h.objs.size:=by
  cases o with
  | lst xs=>obtain ⟨_,_,_,_,e⟩:=x; exact Heap.lt_size e
  | tup xs=>obtain ⟨_,_,_,p⟩:=x; exact p.lt
  | dK kvs=>obtain ⟨_,_,_,_,o,_,_,e,_⟩:=x; exact Heap.lt_size e
  | dT kvs=>obtain ⟨_,_,_,_,o,_,_,e,_⟩:=x; exact Heap.lt_size e
  | set S n=>obtain ⟨o,_,_,_,e,_⟩:=x; exact Heap.lt_size e
  | ins C dx fs=>obtain ⟨_,_,_,e,_⟩:=x; exact Heap.lt_size e
  | own y=>obtain ⟨_,e⟩:=x; exact Heap.lt_size e
  | xd fs=>obtain ⟨_,⟨_,_,_,e,_⟩,_⟩:=x; exact Heap.lt_size e
  | rng lo hi=>obtain ⟨_,_,_,e⟩:=x; exact Heap.lt_size e
  | frz ob u=>obtain ⟨e,_⟩:=x; exact Heap.lt_size e
  | tbl ps=>exact Heap.lt_size (show h.get? a=some _ from x)
  | met f y=>exact Heap.lt_size (show h.get? a=some _ from x)
  | ext φ=>obtain ⟨_,⟨_,e⟩,_⟩:=x; exact Heap.lt_size e
theorem Paired.mapP {α β:Type} {F G:α→β→Prop}:∀ {l₁:List α} {l₂:List β},Paired F l₁ l₂→(∀ a b,F a b→G a b)→Paired G l₁ l₂
  | _,_,.nil,_=>.nil
  | _,_,.cons r t,f=>.cons (f _ _ r) (Paired.mapP t f)
theorem ObjOk.stay (x:ObjOk P w H h a o) (k:∀ b u,(b=a∨H b=some (.own a))→h.get? b=some u→h'.get? b=some u)
    (ho:∀ b,H b=some (.own a)→H' b=some (.own a)) (ht:∀ b xs,H b=some (.tup xs)→H' b=some (.tup xs)):ObjOk P w H' h' a o:=by
  induction o with
  | lst xs=>obtain ⟨z,its,n,r,e⟩:=x; exact ⟨z,its,n,r,k _ _ (.inl rfl) e⟩
  | tup xs=>obtain ⟨z,its,r,ob,e,c⟩:=x; exact ⟨z,its,r,ob,k _ _ (.inl rfl) e,c⟩
  | dK kvs=>obtain ⟨z,y,vs,r,ob,es,ep,e,c⟩:=x; exact ⟨z,y,vs,r,ob,es,ep,k _ _ (.inl rfl) e,c⟩
  | dT kvs =>
    obtain ⟨z,y,xs,r,ob,es,ep,e,c⟩:=x
    exact ⟨z,y,xs,Paired.mapP r fun p q z=>⟨z.1,ht _ _ z.2.1,z.2.2⟩,ob,es,ep,k _ _ (.inl rfl) e,c⟩
  | set S n=>obtain ⟨ob,es,ep,t,e,c⟩:=x; exact ⟨ob,es,ep,t,k _ _ (.inl rfl) e,c⟩
  | ins C dx fs =>
    obtain ⟨d,z,ne,e,mA,⟨od,es,ep,e2,c⟩,r⟩:=x
    exact ⟨ho _ d,z,ne,k _ _ (.inl rfl) e,mA,⟨od,es,ep,k _ _ (.inr d) e2,c⟩,r⟩
  | own y=>obtain ⟨ob,e⟩:=x; exact ⟨ob,k _ _ (.inl rfl) e⟩
  | xd fs=>obtain ⟨mA,⟨od,es,ep,e,c⟩,r⟩:=x; exact ⟨mA,⟨od,es,ep,k _ _ (.inl rfl) e,c⟩,r⟩
  | rng lo hi=>obtain ⟨t,u,v,e⟩:=x; exact ⟨t,u,v,k _ _ (.inl rfl) e⟩
  | frz ob u ih=>obtain ⟨e,q⟩:=x; exact ⟨k _ _ (.inl rfl) e,ih q⟩
  | tbl ps =>
    have e:h.get? a=some { cls:=.none,data:=.fields ps }:=x
    show h'.get? a=some { cls:=.none,data:=.fields ps }
    exact k a _ (.inl rfl) e
  | met f y =>
    have e:h.get? a=some (PySem.W.methodObj (.ref f) (.ref y)):=x
    show h'.get? a=some (PySem.W.methodObj (.ref f) (.ref y))
    exact k a _ (.inl rfl) e
  | ext φ=>obtain ⟨p,⟨o,e⟩,st⟩:=x; exact ⟨st _ _ p fun o q=>k _ _ (.inl rfl) q,⟨o,k _ _ (.inl rfl) e⟩,st⟩
theorem HOk.lt (x:HOk P w H h) (e:H a=some o):a < h.objs.size:=(x a o e).lt
theorem HOk.fresh (x:HOk P w H h) (e:h.objs.size≤a):H a=none:=by
  cases q:H a with
  | none=>rfl
  | some u=>exact absurd (Nat.lt_of_lt_of_le (x.lt q) e) (Nat.lt_irrefl _)
theorem HOk.kept (x:HOk P w H h) (k:∀ b u,h.get? b=some u→h'.get? b=some u):HOk P w H h':=fun a o e =>
  (x a o e).stay (fun b u _ q=>k b u q) (fun _ q=>q) fun _ _ q=>q
theorem HOk.laid (x:HOk P w H h) (k:∀ b u,h.get? b=some u→h'.get? b=some u) (hp:h.objs.size≤a) (new:ObjOk P w (upd H a o) h' a o):HOk P w (upd H a o) h':=fun b u e=>by
  have hn:=x.fresh hp
  by_cases hb:b=a
  · subst hb; rw [upd_same] at e; cases e; exact new
  · rw [upd_ne hb] at e
    exact (x b u e).stay (fun c v _ q=>k c v q) (fun c q=>by rw [upd_ne (ne_of_none q hn)]; exact q) fun c xs q=>by rw [upd_ne (ne_of_none q hn)]; exact q
end
def Rd (H:Hp) (a:Addr) (u:HO):Prop:=H a=some u∨∃ o,H a=some (.frz o u)
theorem Rd.ok {P:Program} {w:World} {H:Hp} {h:Heap} {a:Addr} {u:HO} (r:Rd H a u) (x:HOk P w H h):ObjOk P w H h a u:=by
  rcases r with r | ⟨o,r⟩
  · exact x a u r
  · obtain ⟨_,q⟩:=x a _ r
    exact q
def Mut:Option HO→Prop
  | some (.lst _)=>True
  | some (.dK _)=>True
  | some (.dT _)=>True
  | some (.set _ _)=>True
  | some (.ins _ _ _)=>True
  | some (.ext _)=>True
  | _=>False
section
variable {P:Program} {w:World} {H:Hp} {h h':Heap} {x e:Addr} {o':HO}
theorem HOk.write (ok:HOk P w H h) (mu:Mut (H x)) (he:e=x∨H e=some (.own x)) (k:∀ b u,b≠e→h.get? b=some u→h'.get? b=some u) (heo:∃ u,h'.get? e=some u)
    (new:ObjOk P w (upd H x o') h' x o'):HOk P w (upd H x o') h':=fun b u q=>by
  have nown:∀ c y,H c=some (.own y)→c≠x:=fun c y r z=>by subst z; rw [r] at mu; exact mu
  have ntup:∀ c xs,H c=some (.tup xs)→c≠x:=fun c xs r z=>by subst z; rw [r] at mu; exact mu
  by_cases hb:b=x
  · subst hb; rw [upd_same] at q; cases q; exact new
  · rw [upd_ne hb] at q
    by_cases hbe:b=e
    · have q':H b=some (.own x):=by
        rcases he with z | z
        · exact absurd (hbe.trans z) hb
        · rw [hbe]; exact z
      rw [q] at q'; cases q'
      obtain ⟨v,hv⟩:=heo
      exact ⟨v,by rw [hbe]; exact hv⟩
    · refine (ok b u q).stay (fun c v hc r=>k c v ?_ r) (fun c r=>by rw [upd_ne (nown c b r)]; exact r) fun c xs r=>by rw [upd_ne (ntup c xs r)]; exact r
      rcases hc with rfl | hc
      · exact hbe
      · rintro rfl
        rcases he with z | z
        · exact nown c b hc z
        · rw [hc] at z; cases z; exact hb rfl
end
structure Un (fs ex:List Addr) (H H':Hp) (h h':Heap):Prop where
  keep:∀ b o,h.get? b=some o→H b=none→b∉fs→b∉ex→h'.get? b=some o
  slot:∀ b o,h.get? b=some o→H b=none→b∈fs→b∉ex→∃ sl,h'.get? b=some { o with slots:=sl }
  free:∀ b o,h.get? b=some o→H b=none→b∉ex→H' b=none
  there:∀ b o,h.get? b=some o→b∉ex→∃ o',h'.get? b=some o'
  tups:∀ b xs,H b=some (.tup xs)→H' b=some (.tup xs)
  frzs:∀ b o u,H b=some (.frz o u)→H' b=some (.frz o u)
  tbls:∀ b ps,H b=some (.tbl ps)→∃ more,H' b=some (.tbl (ps++more))
section
variable {fs fs' ex ex':List Addr} {H H1 H2:Hp} {h h1 h2 h':Heap} {a x e:Addr} {o:HO}
theorem Un.any (u:Un fs ex H H1 h h1) {b:Addr} {ob:Obj} (q:h.get? b=some ob) (n:H b=none) (hx:b∉ex):∃ sl,h1.get? b=some { ob with slots:=sl }:=by
  by_cases hb:b∈fs
  · exact u.slot b ob q n hb hx
  · exact ⟨ob.slots,u.keep b ob q n hb hx⟩
theorem Un.kept (k:∀ b u,h.get? b=some u→h'.get? b=some u):Un fs ex H H h h' :=
  ⟨fun b ob q _ _ _=>k b ob q,fun b ob q _ _ _=>⟨ob.slots,k b ob q⟩,fun _ _ _ n _=>n,fun b ob q _=>⟨ob,k b ob q⟩,fun _ _ q=>q,fun _ _ _ q=>q,fun _ ps q=>⟨#[],by rw [q]; simp⟩⟩
theorem Un.refl:Un fs ex H H h h:=Un.kept fun _ _ q=>q
theorem Un.laid (k:∀ b u,h.get? b=some u→h'.get? b=some u) (hp:h.objs.size≤a) (hn:H a=none):Un fs ex H (upd H a o) h h' where
  keep:=fun b u q _ _ _=>k b u q
  slot:=fun b u q _ _ _=>⟨u.slots,k b u q⟩
  free:=fun b u q n _=>by rw [upd_ne (Nat.ne_of_lt (Nat.lt_of_lt_of_le (Heap.lt_size q) hp))]; exact n
  there:=fun b u q _=>⟨u,k b u q⟩
  tups:=fun b xs q=>by rw [upd_ne (ne_of_none q hn)]; exact q
  frzs:=fun b u xs q=>by rw [upd_ne (ne_of_none q hn)]; exact q
  tbls:=fun b ps q=>⟨#[],by rw [upd_ne (ne_of_none q hn),q]; simp⟩
theorem Un.write (mu:Mut (H x)) (he:e=x∨H e=some (.own x)) (k:∀ b u,b≠e→h.get? b=some u→h'.get? b=some u) (heo:∃ u,h'.get? e=some u):Un fs ex H (upd H x o) h h':=by
  have hx:∀ b,H b=none→b≠x:=fun b n z=>by subst z; rw [n] at mu; exact mu
  have hb:∀ b,H b=none→b≠e:=fun b n z=>by
    subst z
    rcases he with r | r
    · exact hx b n r
    · rw [n] at r; cases r
  have hm:∀ b u,H b=some u→¬ Mut (some u)→b≠x:=fun b u q nm z=>by subst z; rw [q] at mu; exact nm mu
  refine ⟨fun b u q n _ _=>k b u (hb b n) q,fun b u q n _ _=>⟨u.slots,k b u (hb b n) q⟩,fun b u q n _=>by rw [upd_ne (hx b n)]; exact n,fun b u q _=>?_,
    fun b xs q=>by rw [upd_ne (hm b _ q fun z=>z)]; exact q,fun b u xs q=>by rw [upd_ne (hm b _ q fun z=>z)]; exact q,fun b ps q=>⟨#[],by rw [upd_ne (hm b _ q fun z=>z),q]; simp⟩⟩
  by_cases hbe:b=e
  · subst hbe; exact heo
  · exact ⟨u,k b u hbe q⟩
end
def trk (h:Heap) (H:Hp):List Addr:=(List.range h.objs.size).filter fun a=>(H a).isSome
def hidT (h:Heap) (H:Hp):Heap:=PySem.W.hideAll h (trk h H)
theorem hidT_size (h:Heap) (H:Hp):(hidT h H).objs.size=h.objs.size:=PySem.W.hideAll_size _ _
theorem hidT_get {h:Heap} {H:Hp} {b:Addr} {o:Obj} (e:h.get? b=some o) (n:H b=none):(hidT h H).get? b=some o :=
  PySem.W.hideAll_get _ e fun hm=>by
    have q:(H b).isSome=true:=(List.mem_filter.mp hm).2
    rw [n] at q; simp at q
theorem of_hidT {h:Heap} {H:Hp} {b:Addr} {o:Obj} (e:(hidT h H).get? b=some o):h.get? b=some o∧H b=none:=by
  have e':h.get? b=some o:=PySem.W.of_hideAll (trk h H) e
  refine ⟨e',?_⟩
  cases q:H b with
  | none=>rfl
  | some x =>
    have hm:b∈trk h H:=List.mem_filter.mpr ⟨List.mem_range.mpr (Heap.lt_size e'),by simp [q]⟩
    have z:(hidT h H).get? b=none:=PySem.W.hideAll_none (trk h H) hm
    rw [z] at e; cases e
def allNews (g h:Heap) (L:Addr):List (Addr×Obj):=(List.range h.objs.size).filterMap fun a=>if a=L∨(g.get? a).isSome=true then none else (h.get? a).map fun o=>(a,o)
def rest (g h:Heap) (L d:Addr):List (Addr×Obj):=(allNews g h L).filter fun p=>decide (p.1≠d)
end L2
namespace L2
open PySem PySem.Spec PyProof.Rows
structure Mod (K:PySem.W.Frag) (mg:Str→Option Value) (base:Heap):Prop where
  kin:K.In base
  glob:base.Ns mainGlobals mg
  blt:∃ mb,base.Ns builtinsNs mb∧∀ x:Str,x≠"__name__"→mb x=bootBuiltins x
  nolimit:base.NoLimit
structure Cx where
  prog:Program
  w:World
  K:PySem.W.Frag
  mg:Str→Option Value
  base:Heap
  A:Around
  N:List Str
  s₀:Shared
  H₀:Hp
  env:Env
  outer:List Env
  stack:List Env
  ex:List Addr
  fn:Str→Bool
  calm:Bool
  pn:List (Addr×Obj)
  xe:Value→Shared→Prop
def frs (l:List Env):List Addr:=l.filterMap (·.frame)
abbrev Cx.fs (X:Cx):List Addr:=frs X.outer
def Vis (sc:Scope) (x:Str):Prop:=sc.names.lookup x=some .local∨sc.names.lookup x=some .cell∨sc.names.lookup x=some .free
def Loc (sc:Scope) (x:Str):Prop:=sc.names.lookup x=some .local∨sc.names.lookup x=some .cell
def Look (env:Env) (h:Heap) (m:Str→Option Value) (x:Str) (u:Value):Prop :=
  (env.kindOf x=some .local∧m x=some u)∨((env.kindOf x=some .cell∨env.kindOf x=some .free)∧∃ c,env.cells.lookup x=some c∧h.IsCell c (some u))
structure Cx.Ok (X:Cx):Prop where
  mod:Mod X.K X.mg X.base
  kind:X.env.scope.kind=.function
  glob:X.env.globals=mainGlobals
  blt:X.env.builtins=builtinsNs
  above:X.s₀.heap.objs.size≤X.env.locals
  inj:∀ x y c,X.env.cells.lookup x=some c→X.env.cells.lookup y=some c→x=y
  has:∀ x,(X.env.kindOf x=some .cell∨X.env.kindOf x=some .free)→∃ c,X.env.cells.lookup x=some c
  cab:∀ x c,X.fn x=true→X.env.cells.lookup x=some c→X.s₀.heap.objs.size≤c
  hd:X.calm=true→X.A.handled=none
  frames:X.A.frames=some X.stack
  stk:X.stack=X.outer∨(X.stack=X.env :: X.outer∧X.env.frame=some X.env.locals)
  exf:∀ b∈X.ex,b≠X.env.locals∧∀ x c,X.env.cells.lookup x=some c→c≠b
  bs:∀ b o,X.base.get? b=some o→X.s₀.heap.get? b=some o∧X.H₀ b=none
  bsz:X.base.objs.size≤X.s₀.heap.objs.size
  noex:∀ b o,X.base.get? b=some o→b∉X.ex
  exfs:∀ b∈X.ex,b∉X.fs
  funs:X.s₀.heap.FunFrames X.base X.outer
  frf:∀ b∈X.fs,X.H₀ b=none
structure Inv (X:Cx) (pins:List (Addr×Obj)) (σ:List (Option V)) (H:Hp) (s:Shared):Prop where
  ok:X.Ok
  os:s.os=X.s₀.os
  bare:AllBare s.gens
  base:Un X.fs X.ex X.H₀ H X.s₀.heap s.heap
  loc:∃ m,s.heap.Ns X.env.locals m∧∀ (i:Nat) (x:Str) (v:V),X.N[i]?=some x→σ[i]?=some (some v)→Vis X.env.scope x→∃ u,RelV v u∧Look X.env s.heap m x u
  cell:∀ x c,X.env.cells.lookup x=some c→∃ v,s.heap.IsCell c v
  free:H X.env.locals=none
  freeC:∀ x c,X.env.cells.lookup x=some c→H c=none
  pin:∀ p∈X.pn++pins,s.heap.get? p.1=some p.2∧H p.1=none∧p.1≠X.env.locals∧p.1∉X.fs∧∀ v,p.2.data≠.cell v
  hok:HOk X.prog X.w H s.heap
  len:σ.length=X.N.length
section
variable {X:Cx} {pins:List (Addr×Obj)} {σ:List (Option V)} {H H':Hp} {s:Shared} {h':Heap}
theorem Cx.Ok.nofr (ok:X.Ok) {b:Addr} {o:Obj} (e:X.base.get? b=some o):b∉X.fs:=fun hb=>by
  have:=(ok.funs.mem hb).1
  rw [e] at this; cases this
theorem Inv.bs (I:Inv X pins σ H s):∀ b o,X.base.get? b=some o→s.heap.get? b=some o∧H b=none:=fun b o e =>
  ⟨I.base.keep b o (I.ok.bs b o e).1 (I.ok.bs b o e).2 (I.ok.nofr e) (I.ok.noex b o e),I.base.free b o (I.ok.bs b o e).1 (I.ok.bs b o e).2 (I.ok.noex b o e)⟩
theorem Inv.bk (I:Inv X pins σ H s):∀ b o,X.base.get? b=some o→s.heap.get? b=some o:=fun b o e=>(I.bs b o e).1
theorem Inv.mod (I:Inv X pins σ H s):Mod X.K X.mg X.base:=I.ok.mod
theorem Inv.kIn (I:Inv X pins σ H s):X.K.In s.heap:=I.ok.mod.kin.keeps I.bk
theorem Inv.lt (I:Inv X pins σ H s):X.env.locals < s.heap.objs.size:=let ⟨_,hn,_⟩:=I.loc; hn.lt
theorem Inv.sz (I:Inv X pins σ H s):X.s₀.heap.objs.size≤s.heap.objs.size:=Nat.le_trans I.ok.above (Nat.le_of_lt I.lt)
theorem Inv.nofs (I:Inv X pins σ H s) {a:Addr} (h:s.heap.objs.size≤a):a∉X.fs:=fun hb=>by
  obtain ⟨_,o,ho,_⟩:=I.ok.funs.mem hb
  exact absurd (Nat.lt_of_lt_of_le (Heap.lt_size ho) (Nat.le_trans I.sz h)) (Nat.lt_irrefl _)
theorem Inv.cne (I:Inv X pins σ H s):∀ x c,X.env.cells.lookup x=some c→c≠X.env.locals:=fun x c e z=>by
  obtain ⟨v,o,ho,hd⟩:=I.cell x c e
  obtain ⟨m,⟨o',es,ep,ho',hd',_⟩,_⟩:=I.loc
  rw [z,ho'] at ho; cases ho; rw [hd'] at hd; cases hd
theorem Inv.funs (I:Inv X pins σ H s):s.heap.FunFrames X.base X.outer:=by
  have all:∀ (l:List Env),(∀ b∈frs l,b∈X.fs)→X.s₀.heap.FunFrames X.base l→s.heap.FunFrames X.base l:=by
    intro l
    induction l with
    | nil=>intro _ _; trivial
    | cons env r ih =>
      intro hs hl
      obtain ⟨hk,⟨L,o,hf,hn,ho,hd⟩,hr⟩:=hl
      have hL:L∈X.fs:=hs L (by unfold frs; rw [List.filterMap_cons,hf]; exact List.mem_cons_self)
      obtain ⟨sl,e⟩:=I.base.slot L o ho (I.ok.frf L hL) hL fun z=>I.ok.exfs L z hL
      exact ⟨hk,⟨L,_,hf,hn,e,hd⟩,ih (fun b hb=>hs b (by unfold frs; rw [List.filterMap_cons,hf]; exact List.mem_cons_of_mem _ hb)) hr⟩
  exact all X.outer (fun _ hb=>hb) I.ok.funs
theorem Inv.stack (I:Inv X pins σ H s):s.heap.FunFrames X.base X.stack:=by
  rcases I.ok.stk with e | ⟨e,hf⟩
  · rw [e]; exact I.funs
  · rw [e]
    obtain ⟨m,hn,_⟩:=I.loc
    refine .cons (by rw [I.ok.kind]; decide) hf hn ?_ I.funs
    exact Heap.get?_none_of_le (Nat.le_trans I.ok.bsz I.ok.above)
theorem Inv.stkSub (I:Inv X pins σ H s):∀ b∈frs X.stack,b∈X.env.locals :: X.fs:=fun b hb=>by
  rcases I.ok.stk with e | ⟨e,hf⟩
  · rw [e] at hb; exact List.mem_cons_of_mem _ hb
  · rw [e] at hb
    unfold frs at hb
    rw [List.filterMap_cons,hf] at hb
    exact hb
theorem Inv.stkFree (I:Inv X pins σ H s):∀ b∈frs X.stack,H b=none:=fun b hb=>by
  rcases List.mem_cons.mp (I.stkSub b hb) with e | hb
  · rw [e]; exact I.free
  · obtain ⟨_,o,ho,_⟩:=I.ok.funs.mem hb
    exact I.base.free b o ho (I.ok.frf b hb) fun z=>I.ok.exfs b z hb
theorem Inv.step {g':Array GenState} {t':Nat} {d':Drawn} {ch:List Addr} (I:Inv X pins σ H s)
    (hch:∀ b∈ch,(b∈X.ex∨X.s₀.heap.objs.size≤b)∧b≠X.env.locals∧(∀ x c,X.env.cells.lookup x=some c→c≠b)∧∀ p∈X.pn++pins,p.1≠b)
    (keep:∀ b o,b≠X.env.locals→b∉X.fs→b∉ch→s.heap.get? b=some o→H b=none→h'.get? b=some o)
    (slot:∀ b o,b≠X.env.locals→b∈X.fs→b∉ch→s.heap.get? b=some o→H b=none→∃ sl,h'.get? b=some { o with slots:=sl }) (free:∀ b o,b∉ch→s.heap.get? b=some o→H b=none→H' b=none)
    (there:∀ b o,b∉ch→s.heap.get? b=some o→∃ o',h'.get? b=some o')
    (tups:∀ b xs,H b=some (.tup xs)→H' b=some (.tup xs)) (frzs:∀ b o u,H b=some (.frz o u)→H' b=some (.frz o u)) (tbls:∀ b ps,H b=some (.tbl ps)→∃ more,H' b=some (.tbl (ps++more)))
    (ns:∀ m,s.heap.Ns X.env.locals m→h'.Ns X.env.locals m) (hok:HOk X.prog X.w H' h') (hg:AllBare g') :
    Inv X pins σ H' { s with heap:=h',gens:=g',drawn:=d',toks:=t' }:=by
  have neL:∀ b o,X.s₀.heap.get? b=some o→b≠X.env.locals:=fun b o e=>Nat.ne_of_lt (Nat.lt_of_lt_of_le (Heap.lt_size e) I.ok.above)
  have neC:∀ b o,X.s₀.heap.get? b=some o→b∉X.ex→b∉ch:=fun b o e hx hb=>by
    rcases (hch b hb).1 with z | z
    · exact hx z
    · exact absurd (Nat.lt_of_lt_of_le (Heap.lt_size e) z) (Nat.lt_irrefl _)
  have cellK:∀ x c,X.env.cells.lookup x=some c→∀ v,s.heap.IsCell c v→h'.IsCell c v:=fun x c e v ⟨o,ho,hd⟩=>by
    have nch:c∉ch:=fun z=>(hch c z).2.2.1 x c e rfl
    by_cases hc:c∈X.fs
    · obtain ⟨sl,q⟩:=slot c o (I.cne x c e) hc nch ho (I.freeC x c e)
      exact ⟨_,q,hd⟩
    · exact ⟨o,keep c o (I.cne x c e) hc nch ho (I.freeC x c e),hd⟩
  refine ⟨I.ok,I.os,hg,⟨fun b o e n hb hx=>?_,fun b o e n hb hx=>?_,fun b o e n hx=>?_,fun b o e hx=>?_,fun b xs e=>tups b xs (I.base.tups b xs e),fun b o xs e=>frzs b o xs (I.base.frzs b o xs e),fun b ps e=>?_⟩,?_,fun x c e=>?_,?_,fun x c e=>?_,fun p hp=>?_,hok,I.len⟩
  · exact keep b o (neL b o e) hb (neC b o e hx) (I.base.keep b o e n hb hx) (I.base.free b o e n hx)
  · obtain ⟨sl,e1⟩:=I.base.slot b o e n hb hx
    obtain ⟨sl',e2⟩:=slot b _ (neL b o e) hb (neC b o e hx) e1 (I.base.free b o e n hx)
    exact ⟨sl',e2⟩
  · obtain ⟨o',e1⟩:=I.base.there b o e hx
    exact free b o' (neC b o e hx) e1 (I.base.free b o e n hx)
  · obtain ⟨o',e1⟩:=I.base.there b o e hx
    exact there b o' (neC b o e hx) e1
  · obtain ⟨m1,e1⟩:=I.base.tbls b ps e
    obtain ⟨m2,e2⟩:=tbls b _ e1
    exact ⟨m1++m2,by rw [e2,Array.append_assoc]⟩
  · obtain ⟨m,hn,hl⟩:=I.loc
    refine ⟨m,ns m hn,fun i x v e1 e2 e3=>?_⟩
    obtain ⟨u,r,l⟩:=hl i x v e1 e2 e3
    refine ⟨u,r,?_⟩
    rcases l with l | ⟨k,c,e,z⟩
    · exact .inl l
    · exact .inr ⟨k,c,e,cellK x c e _ z⟩
  · obtain ⟨v,z⟩:=I.cell x c e
    exact ⟨v,cellK x c e v z⟩
  · obtain ⟨m,⟨o,_,_,ho,_⟩,_⟩:=I.loc
    exact free _ o (fun z=>(hch _ z).2.1 rfl) ho I.free
  · obtain ⟨v,o,ho,hd⟩:=I.cell x c e
    exact free c o (fun z=>(hch c z).2.2.1 x c e rfl) ho (I.freeC x c e)
  · obtain ⟨e,n,ne,nf,d⟩:=I.pin p hp
    have nch:p.1∉ch:=fun z=>(hch p.1 z).2.2.2 p hp rfl
    exact ⟨keep p.1 p.2 ne nf nch e n,free p.1 p.2 nch e n,ne,nf,d⟩
theorem Inv.un {t':Nat} (I:Inv X pins σ H s) (u:Un X.fs [] H H' s.heap h') (hok:HOk X.prog X.w H' h'):Inv X pins σ H' { s with heap:=h',toks:=t' }:=by
  obtain ⟨m,⟨o,es,ep,ho,r⟩,_⟩:=id I.loc
  obtain ⟨sl,hL⟩:=u.any ho I.free (by simp)
  exact I.step (g':=s.gens) (d':=s.drawn) (ch:=[]) (fun _ z=>nomatch z) (fun b o _ hb _ e n=>u.keep b o e n hb (by simp)) (fun b o _ hb _ e n=>u.slot b o e n hb (by simp)) (fun b o _ e n=>u.free b o e n (by simp)) (fun b o _ e=>u.there b o e (by simp)) u.tups u.frzs u.tbls (fun m' hm=>by
    obtain ⟨o',es',ep',ho',r'⟩:=hm
    rw [ho] at ho'; cases ho'
    exact ⟨_,es',ep',hL,r'⟩) hok I.bare
theorem Inv.call {g':Array GenState} {t':Nat} {d':Drawn} {ch:List Addr} (I:Inv X pins σ H s) (u:Un (frs X.stack) ch H H' s.heap h') (hok:HOk X.prog X.w H' h') (hg:AllBare g')
    (hch:∀ b∈ch,(b∈X.ex∨X.s₀.heap.objs.size≤b)∧b≠X.env.locals∧(∀ x c,X.env.cells.lookup x=some c→c≠b)∧∀ p∈X.pn++pins,p.1≠b) :
    Inv X pins σ H' { s with heap:=h',gens:=g',drawn:=d',toks:=t' }:=by
  obtain ⟨m,⟨o,es,ep,ho,r⟩,_⟩:=id I.loc
  obtain ⟨sl,hL⟩:=u.any ho I.free fun z=>(hch _ z).2.1 rfl
  exact I.step (ch:=ch) hch (fun b o hL hb hc e n=>u.keep b o e n (fun z=>(List.mem_cons.mp (I.stkSub b z)).elim hL hb) hc) (fun b o _ _ hc e n=>u.any e n hc) (fun b o hc e n=>u.free b o e n hc) (fun b o hc e=>u.there b o e hc) u.tups u.frzs u.tbls (fun m' hm=>by
    obtain ⟨o',es',ep',ho',r'⟩:=hm
    rw [ho] at ho'; cases ho'
    exact ⟨_,es',ep',hL,r'⟩) hok hg
theorem Inv.turned {t':Nat} {it:Addr} (I:Inv X pins σ H s) (k:∀ b o,b≠it→s.heap.get? b=some o→h'.get? b=some o) (hn:H it=none) (hL:it≠X.env.locals)
    (h1:it∈X.ex∨X.s₀.heap.objs.size≤it) (h2:∀ x c,X.env.cells.lookup x=some c→c≠it) (h3:∀ p∈X.pn++pins,p.1≠it):Inv X pins σ H { s with heap:=h',toks:=t' }:=by
  have nit:∀ b u,H b=some u→b≠it:=fun b u e z=>by rw [z,hn] at e; cases e
  refine I.step (g':=s.gens) (d':=s.drawn) (ch:=[it]) (fun b hb=>?_) (fun b o _ _ hc e _=>k b o (fun z=>hc (by simp [z])) e) (fun b o _ _ hc e _=>⟨o.slots,k b o (fun z=>hc (by simp [z])) e⟩) (fun _ _ _ _ n=>n)
    (fun b o hc e=>⟨o,k b o (fun z=>hc (by simp [z])) e⟩) (fun _ _ e=>e) (fun _ _ _ e=>e) (fun b ps e=>⟨#[],by rw [e]; simp⟩) (fun m hm=>?_) (fun b u e=>?_) I.bare
  · have e:b=it:=by simpa using hb
    subst e
    exact ⟨h1,hL,h2,h3⟩
  · obtain ⟨o,es,ep,ho,r⟩:=hm
    exact ⟨o,es,ep,k _ o (Ne.symm hL) ho,r⟩
  · refine (I.hok b u e).stay (fun c v hc q=>k c v ?_ q) (fun _ q=>q) fun _ _ q=>q
    rcases hc with z | z
    · rw [z]; exact nit b u e
    · exact nit c _ z
theorem Inv.tok (I:Inv X pins σ H s) (t:Nat):Inv X pins σ H { s with toks:=t }:=I.un (h':=s.heap) (t':=t) Un.refl I.hok
theorem Inv.kept {t':Nat} (I:Inv X pins σ H s) (k:∀ b u,s.heap.get? b=some u→h'.get? b=some u):Inv X pins σ H { s with heap:=h',toks:=t' }:=I.un (Un.kept k) (I.hok.kept k)
theorem Inv.laid {a:Addr} {o:HO} {t':Nat} (I:Inv X pins σ H s) (k:∀ b u,s.heap.get? b=some u→h'.get? b=some u) (hp:s.heap.objs.size≤a) (new:ObjOk X.prog X.w (upd H a o) h' a o) :
    Inv X pins σ (upd H a o) { s with heap:=h',toks:=t' }:=I.un (Un.laid k hp (I.hok.fresh hp)) (I.hok.laid k hp new)
theorem Inv.write {x e:Addr} {o:HO} {t':Nat} (I:Inv X pins σ H s) (mu:Mut (H x)) (he:e=x∨H e=some (.own x)) (k:∀ b u,b≠e→s.heap.get? b=some u→h'.get? b=some u) (heo:∃ u,h'.get? e=some u)
    (new:ObjOk X.prog X.w (upd H x o) h' x o):Inv X pins σ (upd H x o) { s with heap:=h',toks:=t' }:=I.un (Un.write mu he k heo) (I.hok.write mu he k heo new)
theorem Inv.pins_of {pins':List (Addr×Obj)} (I:Inv X pins σ H s) (h:∀ p∈pins',s.heap.get? p.1=some p.2∧H p.1=none∧p.1≠X.env.locals∧p.1∉X.fs∧∀ v,p.2.data≠.cell v):Inv X pins' σ H s :=
  ⟨I.ok,I.os,I.bare,I.base,I.loc,I.cell,I.free,I.freeC,fun p hp=>(List.mem_append.mp hp).elim (fun z=>I.pin p (List.mem_append_left _ z)) (h p),I.hok,I.len⟩
theorem nodup_ix {N:List Str} (hN:N.Nodup) {i j:Nat} {x:Str} (a:N[i]?=some x) (b:N[j]?=some x):i=j:=by
  obtain ⟨h1,e1⟩:=List.getElem?_eq_some_iff.mp a
  obtain ⟨h2,e2⟩:=List.getElem?_eq_some_iff.mp b
  exact (List.getElem_inj hN).mp (e1.trans e2.symm)
theorem store_ok2 {M:Model} {A:Around} {E:Value→Shared→Prop} {i:Nat} {x:Str} {v:V} {u:Value} {Q:Unit→Shared→Prop} (I:Inv X pins σ H s) (hN:X.N.Nodup) (hi:X.N[i]?=some x) (hx:Loc X.env.scope x) (r:RelV v u)
    (h:∀ s',Inv X pins (σ.set i (some v)) H s'→(∃ a,Heap.SameBut a s.heap s'.heap∧(a=X.env.locals∨X.env.cells.lookup x=some a))→Q () s') (hf:X.fn x=true∨X.env.scope.names.lookup x=some .local:=by first | exact .inl rfl | exact .inr rfl | assumption):wpAny M A (storeName X.env x u) Q E s:=by
  obtain ⟨m,hn,hl⟩:=id I.loc
  have hcls:(X.env.scope.kind == .class || (X.env.scope.kind == .module && X.env.locals != X.env.globals))=false:=by rw [I.ok.kind]; rfl
  have hiσ:i < σ.length:=by rw [I.len]; exact (List.getElem?_eq_some_iff.mp hi).1
  have cne:=I.cne
  have tracked:∀ {a:Addr} {h':Heap},(∃ o,s.heap.get? a=some o∧H a=none)→Heap.SameBut a s.heap h'→HOk X.prog X.w H h':=fun {a h'} ha hs b ob e=>by
    obtain ⟨_,_,hfree⟩:=ha
    refine (I.hok b ob e).stay (fun c w' hc q=>(hs.2 c ?_).trans q) (fun _ q=>q) fun _ _ q=>q
    rintro rfl
    rcases hc with rfl | hc
    · rw [hfree] at e; cases e
    · rw [hfree] at hc; cases hc
  rcases hx with hk | hk
  · refine wpAny_storeName_local hk hn (fun h' hn' hs=>?_) hcls
    obtain ⟨oL,_,_,hoL,_⟩:=id hn
    refine h _ ⟨I.ok,I.os,I.bare,⟨fun b o e n hb hx=>?_,fun b o e n hb hx=>?_,I.base.free,fun b o e hx=>?_,I.base.tups,I.base.frzs,I.base.tbls⟩,⟨_,hn',fun j y v' e1 e2 e3=>?_⟩,fun y c e=>?_,I.free,I.freeC,fun p hp=>?_,tracked ⟨oL,hoL,I.free⟩ hs,by simpa using I.len⟩ ⟨_,hs,.inl rfl⟩
    · exact (hs.2 b (Nat.ne_of_lt (Nat.lt_of_lt_of_le (Heap.lt_size e) I.ok.above))).trans (I.base.keep b o e n hb hx)
    · obtain ⟨sl,e1⟩:=I.base.slot b o e n hb hx
      exact ⟨sl,(hs.2 b (Nat.ne_of_lt (Nat.lt_of_lt_of_le (Heap.lt_size e) I.ok.above))).trans e1⟩
    · obtain ⟨o',e1⟩:=I.base.there b o e hx
      exact ⟨o',(hs.2 b (Nat.ne_of_lt (Nat.lt_of_lt_of_le (Heap.lt_size e) I.ok.above))).trans e1⟩
    · by_cases hj:j=i
      · subst hj
        rw [hi] at e1; cases e1
        rw [List.getElem?_set_self hiσ] at e2
        cases e2
        exact ⟨u,r,.inl ⟨hk,by simp⟩⟩
      · rw [List.getElem?_set_ne (Ne.symm hj)] at e2
        obtain ⟨u',r',q⟩:=hl j y v' e1 e2 e3
        refine ⟨u',r',?_⟩
        rcases q with ⟨k,e⟩ | ⟨k,c,e,z⟩
        · refine .inl ⟨k,?_⟩
          have:y≠x:=fun e=>hj (nodup_ix hN e1 (e ▸ hi))
          simp [this,e]
        · exact .inr ⟨k,c,e,z.sameBut hs (cne y c e)⟩
    · obtain ⟨w',z⟩:=I.cell y c e
      exact ⟨w',z.sameBut hs (cne y c e)⟩
    · obtain ⟨e,n,ne,nf,d⟩:=I.pin p hp
      exact ⟨(hs.2 p.1 ne).trans e,n,ne,nf,d⟩
  · have hfn:X.fn x=true:=by
      rcases hf with z | z
      · exact z
      · rw [z] at hk; cases hk
    obtain ⟨c,hc⟩:=I.ok.has x (.inl hk)
    obtain ⟨w',z⟩:=I.cell x c hc
    refine wpAny_storeName_cell I.ok.kind hk hc z (fun h' hc' hs=>?_)
    obtain ⟨oc,hoc,hocd⟩:=id z
    refine h { s with heap:=h' } ⟨I.ok,I.os,I.bare,⟨fun b o e n hb hx=>?_,fun b o e n hb hx=>?_,I.base.free,fun b o e hx=>?_,I.base.tups,I.base.frzs,I.base.tbls⟩,⟨m,hn.sameBut hs (Ne.symm (cne x c hc)),fun j y v' e1 e2 e3=>?_⟩,fun y c' e=>?_,I.free,I.freeC,fun p hp=>?_,tracked ⟨oc,hoc,I.freeC x c hc⟩ hs,by simpa using I.len⟩ ⟨c,hs,.inr hc⟩
    · exact (hs.2 b (Nat.ne_of_lt (Nat.lt_of_lt_of_le (Heap.lt_size e) (I.ok.cab x c hfn hc)))).trans (I.base.keep b o e n hb hx)
    · obtain ⟨sl,e1⟩:=I.base.slot b o e n hb hx
      exact ⟨sl,(hs.2 b (Nat.ne_of_lt (Nat.lt_of_lt_of_le (Heap.lt_size e) (I.ok.cab x c hfn hc)))).trans e1⟩
    · obtain ⟨o',e1⟩:=I.base.there b o e hx
      exact ⟨o',(hs.2 b (Nat.ne_of_lt (Nat.lt_of_lt_of_le (Heap.lt_size e) (I.ok.cab x c hfn hc)))).trans e1⟩
    · by_cases hj:j=i
      · subst hj
        rw [hi] at e1; cases e1
        rw [List.getElem?_set_self hiσ] at e2
        cases e2
        exact ⟨u,r,.inr ⟨.inl hk,c,hc,hc'⟩⟩
      · rw [List.getElem?_set_ne (Ne.symm hj)] at e2
        obtain ⟨u',r',q⟩:=hl j y v' e1 e2 e3
        refine ⟨u',r',?_⟩
        rcases q with q | ⟨k,c',e,z'⟩
        · exact .inl q
        · refine .inr ⟨k,c',e,z'.sameBut hs ?_⟩
          rintro rfl
          exact hj (nodup_ix hN e1 (I.ok.inj _ _ _ e hc ▸ hi))
    · by_cases hcc:c'=c
      · subst hcc; exact ⟨_,hc'⟩
      · obtain ⟨w2,z2⟩:=I.cell y c' e
        exact ⟨w2,z2.sameBut hs hcc⟩
    · obtain ⟨e,n,ne,nf,d⟩:=I.pin p hp
      refine ⟨(hs.2 p.1 ?_).trans e,n,ne,nf,d⟩
      intro q
      rw [q,hoc] at e
      have q':oc=p.2:=Option.some.inj e
      exact d w' (by rw [← q']; exact hocd)
theorem store_ok {M:Model} {A:Around} {E:Value→Shared→Prop} {i:Nat} {x:Str} {v:V} {u:Value} {Q:Unit→Shared→Prop} (I:Inv X pins σ H s) (hN:X.N.Nodup) (hi:X.N[i]?=some x) (hx:Loc X.env.scope x) (r:RelV v u)
    (h:∀ s',Inv X pins (σ.set i (some v)) H s'→Q () s') (hf:X.fn x=true∨X.env.scope.names.lookup x=some .local:=by first | exact .inl rfl | exact .inr rfl | assumption):wpAny M A (storeName X.env x u) Q E s :=
  store_ok2 I hN hi hx r (fun s' I' _=>h s' I') hf
theorem Inv.call' {s':Shared} {ch:List Addr} (I:Inv X pins σ H s) (ho:s'.os=s.os) (u:Un (frs X.stack) ch H H' s.heap s'.heap) (hok:HOk X.prog X.w H' s'.heap) (hg:AllBare s'.gens)
    (hch:∀ b∈ch,(b∈X.ex∨X.s₀.heap.objs.size≤b)∧b≠X.env.locals∧(∀ x c,X.env.cells.lookup x=some c→c≠b)∧∀ p∈X.pn++pins,p.1≠b):Inv X pins σ H' s':=by
  obtain ⟨h',g',d',t',o'⟩:=s'
  have e:o'=s.os:=ho
  subst e
  exact I.call (g':=g') (t':=t') (d':=d') u hok hg hch
end
abbrev XK:=Value→Option Addr→Hp→Prop
abbrev St:=List (Option V)
abbrev VK:=V→Hp→Prop
abbrev TE:=St→Hp→VK→Prop
abbrev TT:=St→Hp→(Bool→Hp→Prop)→Prop
abbrev TA:=St→Hp→(List V→Hp→Prop)→Prop
structure Ends where
  nx:St→Hp→Prop
  rt:VK
  bk:St→Hp→Prop:=fun _ _=>False
  ct:St→Hp→Prop:=fun _ _=>False
abbrev TS:=Ends→St→Hp→Prop
def EP (X:Cx) (pins:List (Addr×Obj)) (σ:St) (Q:VK) (u:Value) (s':Shared):Prop:=∃ v H',Inv X pins σ H' s'∧RelV v u∧Q v H'
def TP (X:Cx) (pins:List (Addr×Obj)) (σ:St) (Q:Bool→Hp→Prop) (b:Bool) (s':Shared):Prop:=∃ H',Inv X pins σ H' s'∧Q b H'
def AP (X:Cx) (pins:List (Addr×Obj)) (σ:St) (Q:List V→Hp→Prop) (us:List Value) (s':Shared):Prop:=∃ vs H',Inv X pins σ H' s'∧Vals vs us∧Q vs H'
def SP (X:Cx) (pins:List (Addr×Obj)) (D:Ends) (f:Flow) (s':Shared):Prop :=
  match f with
  | .next=>∃ σ' H',Inv X pins σ' H' s'∧D.nx σ' H'
  | .brk=>∃ σ' H',Inv X pins σ' H' s'∧D.bk σ' H'
  | .cont=>∃ σ' H',Inv X pins σ' H' s'∧D.ct σ' H'
  | .ret u=>∃ v σ' H',Inv X pins σ' H' s'∧RelV v u∧D.rt v H'
def PE (X:Cx) (e:Expr) (t:TE):Prop :=
  ∀ (pins:List (Addr×Obj)) (s:Shared) (σ:St) (H:Hp) (Q:VK),Inv X pins σ H s→t σ H Q→wpAny (model X.prog X.w) X.A (eval e X.env) (EP X pins σ Q) X.xe s
def PT (X:Cx) (e:Expr) (t:TT):Prop :=
  ∀ (pins:List (Addr×Obj)) (s:Shared) (σ:St) (H:Hp) (Q:Bool→Hp→Prop),Inv X pins σ H s→t σ H Q→wpAny (model X.prog X.w) X.A (isTrue e X.env (eval e X.env)) (TP X pins σ Q) X.xe s
def PW (X:Cx) (e:Expr) (t:TT):Prop :=
  ∀ (whole:Sem Value) (pins:List (Addr×Obj)) (s:Shared) (σ:St) (H:Hp) (Q:Bool→Hp→Prop),Inv X pins σ H s→t σ H Q→wpAny (model X.prog X.w) X.A (isTrue e X.env whole) (TP X pins σ Q) X.xe s
theorem PW.pt {X:Cx} {e:Expr} {t:TT} (h:PW X e t):PT X e t:=h _
def PA (X:Cx) (es:List Expr) (t:TA):Prop :=
  ∀ (pos:Pos) (pins:List (Addr×Obj)) (s:Shared) (σ:St) (H:Hp) (Q:List V→Hp→Prop),Inv X pins σ H s→t σ H Q→wpAny (model X.prog X.w) X.A (spliced (backTo pos (starEach es X.env))) (AP X pins σ Q) X.xe s
def PS (X:Cx) (st:Stmt) (t:TS):Prop :=
  ∀ (pins:List (Addr×Obj)) (s:Shared) (σ:St) (H:Hp) (D:Ends),Inv X pins σ H s→t D σ H→wpAny (model X.prog X.w) X.A (exec st X.env) (SP X pins D) X.xe s
def PSs (X:Cx) (st:List Stmt) (t:TS):Prop :=
  ∀ (pins:List (Addr×Obj)) (s:Shared) (σ:St) (H:Hp) (D:Ends),Inv X pins σ H s→t D σ H→wpAny (model X.prog X.w) X.A (execs st X.env) (SP X pins D) X.xe s
theorem thn {α:Type} {t:Sem α} {Q Q':α→Shared→Prop} {M:Model} {A:Around} {E:Value→Shared→Prop} {s:Shared} (h:wpAny M A t Q E s) (hQ:∀ a s,Q a s→Q' a s):wpAny M A t Q' E s:=wpAny_mono h hQ fun _ _ x=>x
end L2
namespace L2
open PySem PySem.Spec PyProof.Rows
section
variable {X:Cx}
def tVar (i:Nat):TE:=fun σ H Q=>∃ v,σ[i]?=some (some v)∧Q v H
def tC (v:V):TE:=fun _ H Q=>Q v H
theorem pe_var {i:Nat} {x:Str} {pos:Pos} (hN:X.N[i]?=some x) (hv:Vis X.env.scope x) (hd:(x == ("__debug__":Str))=false:=by decide) (hcd:(x == ("__classdict__":Str))=false:=by decide):PE X (.Name x pos) (tVar i):=by
  intro pins s σ H Q I h
  obtain ⟨v,e,h⟩:=h
  obtain ⟨m,hn,hl⟩:=I.loc
  obtain ⟨u,r,l⟩:=hl i x v hN e hv
  have fin:EP X pins σ Q u s:=⟨v,H,I,r,h⟩
  rcases l with ⟨hk,hm⟩ | ⟨hk,c,hc,hcell⟩
  · exact wpAny_Name (wpAny_loadName_local I.ok.kind hk hn hm fin) hd
  · rcases hk with hk | hk
    · exact wpAny_Name (wpAny_loadName_cell I.ok.kind hk hc hcell fin) hd
    · exact wpAny_Name (wpAny_loadName_free I.ok.kind hk hc hcell fin hcd) hd
theorem pe_int {i j pos}:PE X (.Constant (.int i) j pos) (tC (.int i)):=fun _ _ _ H _ I h=>wpAny_Constant_int ⟨.int i,H,I.tok _,⟨_,rfl⟩,h⟩
theorem pe_bl {b j pos}:PE X (.Constant (.bool b) j pos) (tC (.bl b)):=fun _ _ _ H _ I h=>Constant_bool ⟨.bl b,H,I,rfl,h⟩
def Gl (X:Cx) (x:Str):Prop:=X.env.kindOf x=some .globalImplicit
theorem ld_glob {E:Value→Shared→Prop} {pins:List (Addr×Obj)} {s:Shared} {σ:St} {H:Hp} {x:Str} {u:Value} {pos:Pos} {Q:Value→Shared→Prop} (I:Inv X pins σ H s) (hg:Gl X x) (hm:X.mg x=some u) (h:Q u s)
    (hd:(x == ("__debug__":Str))=false:=by decide):wpAny (model X.prog X.w) X.A (eval (.Name x pos) X.env) Q E s :=
  Calls.Name_function_global I.ok.kind hg (Calls.loadGlobal_global (by rw [I.ok.glob]; exact I.mod.glob.keeps I.bk) hm h) hd
theorem ld_blt {E:Value→Shared→Prop} {pins:List (Addr×Obj)} {s:Shared} {σ:St} {H:Hp} {x:Str} {u:Value} {pos:Pos} {Q:Value→Shared→Prop} (I:Inv X pins σ H s) (hg:Gl X x) (hm:X.mg x=none) (hv:bootBuiltins x=some u) (h:Q u s)
    (hn:x≠"__name__":=by decide) (hd:(x == ("__debug__":Str))=false:=by decide):wpAny (model X.prog X.w) X.A (eval (.Name x pos) X.env) Q E s:=by
  obtain ⟨mb,h1,h2⟩:=I.mod.blt
  exact Calls.Name_function_global I.ok.kind hg (Calls.loadGlobal_builtin (by rw [I.ok.glob]; exact I.mod.glob.keeps I.bk) hm (by rw [I.ok.blt]; exact h1.keeps I.bk) ((h2 x hn).trans hv) h) hd
theorem pe_bltn {x:Str} {v:V} {u:Value} {pos:Pos} (hg:Gl X x) (hm:X.mg x=none) (hv:bootBuiltins x=some u) (r:RelV v u) (hn:x≠"__name__":=by decide) (hd:(x == ("__debug__":Str))=false:=by decide):PE X (.Name x pos) (tC v) :=
  fun _ _ _ H _ I h=>ld_blt I hg hm hv ⟨v,H,I,r,h⟩ hn hd
def t2I (ta tb:TE) (k:Int→Int→Hp→Prop):St→Hp→Prop:=fun σ H=>ta σ H fun x H1=>tb σ H1 fun y H2=>∃ i j,x=.int i∧y=.int j∧k i j H2
variable {a b:Expr} {ta tb:TE} {pos:Pos}
def PC (X:Cx) (op:CmpOp) (a b:Expr) (t:TE):Prop :=
  ∀ (pins:List (Addr×Obj)) (s:Shared) (σ:St) (H:Hp) (Q:VK),Inv X pins σ H s→t σ H Q →
    wpAny (model X.prog X.w) X.A (eval a X.env) (fun v s₁=>wpAny (model X.prog X.w) X.A (eval b X.env) (fun u s₂=>wpAny (model X.prog X.w) X.A (compareOp op v u) (EP X pins σ Q) X.xe s₂) X.xe s₁) X.xe s
def tCmp (p:Int→Int→Bool) (ta tb:TE):TE:=fun σ H Q=>t2I ta tb (fun i j H2=>Q (.bl (p i j)) H2) σ H
abbrev tLt:TE→TE→TE:=tCmp fun i j=>decide (i < j)
abbrev tLe:TE→TE→TE:=tCmp fun i j=>decide (i≤j)
abbrev tGt:TE→TE→TE:=tCmp fun i j=>decide (j < i)
abbrev tGe:TE→TE→TE:=tCmp fun i j=>decide (j≤i)
abbrev tEqI:TE→TE→TE:=tCmp fun i j=>decide (i=j)
abbrev tNeI:TE→TE→TE:=tCmp fun i j=>!decide (i=j)
def tB (t:TE):TT:=fun σ H Q=>t σ H fun x H1=>∃ c,x=.bl c∧Q c H1
theorem pt_cmp {op:CmpOp} {t:TE} (h:PC X op a b t) (h1:behindInMarks op b=false:=by first | exact nobehind _ (by decide) (by decide) | rfl):PT X (.Compare a [op] [b] pos) (tB t):=by
  intro pins s σ H Q I hw
  refine wpAny_isTrue_Compare1 (thn (h pins s σ H _ I hw) fun v s1 h1=>thn h1 fun u s2 h2=>thn h2 fun c s3 ⟨x,H1,I1,r1,q1⟩=>?_) h1
  obtain ⟨d,rfl,q⟩:=q1
  cases r1
  exact wpAny_truthy_bool ⟨H1,I1,q⟩
theorem pt_val {e:Expr} {t:TE} (h:PE X e t) (he:∀ whole,isTrue e X.env whole=(do let v ← whole; standAt e.pos; holding [v] (truthy v)):=by intro _; rfl):PT X e (tB t):=by
  intro pins s σ H Q I hw
  refine isTrue_plain (thn (h pins s σ H _ I hw) fun v s1 ⟨x,H1,I1,r1,q1⟩=>?_) (he _)
  obtain ⟨d,rfl,q⟩:=q1
  cases r1
  exact wpAny_truthy_bool ⟨H1,I1,q⟩
variable {tA tB':TT} {rest:List Expr}
def tAnd (t u:TT):TT:=fun σ H Q=>t σ H fun c H1=>if c=true then u σ H1 Q else Q false H1
def tOr (t u:TT):TT:=fun σ H Q=>t σ H fun c H1=>if c=true then Q true H1 else u σ H1 Q
def tNot (t:TT):TT:=fun σ H Q=>t σ H fun c H1=>Q (!c) H1
theorem pw_and1 (ha:PT X a tA):PW X (.BoolOp .And [a] pos) tA:=by
  intro wh pins s σ H Q I h
  refine isTrue_and (thn (ha pins s σ H Q I h) fun c s1 e=>?_)
  cases c with
  | true=>exact isTrue_and_nil e
  | false=>exact e
theorem pw_or1 (ha:PT X a tA):PW X (.BoolOp .Or [a] pos) tA:=by
  intro wh pins s σ H Q I h
  refine isTrue_or (thn (ha pins s σ H Q I h) fun c s1 e=>?_)
  cases c with
  | false=>exact isTrue_or_nil e
  | true=>exact e
theorem pw_and (ha:PT X a tA) (hb:PW X (.BoolOp .And (b :: rest) pos) tB'):PW X (.BoolOp .And (a :: b :: rest) pos) (tAnd tA tB'):=by
  intro wh pins s σ H Q I h
  refine isTrue_and (thn (ha pins s σ H _ I h) fun c s1 ⟨H1,I1,q1⟩=>?_)
  cases c with
  | true=>exact hb wh pins s1 σ H1 Q I1 q1
  | false=>exact ⟨H1,I1,q1⟩
theorem pw_or (ha:PT X a tA) (hb:PW X (.BoolOp .Or (b :: rest) pos) tB'):PW X (.BoolOp .Or (a :: b :: rest) pos) (tOr tA tB'):=by
  intro wh pins s σ H Q I h
  refine isTrue_or (thn (ha pins s σ H _ I h) fun c s1 ⟨H1,I1,q1⟩=>?_)
  cases c with
  | true=>exact ⟨H1,I1,q1⟩
  | false=>exact hb wh pins s1 σ H1 Q I1 q1
theorem pt_not (ha:PT X a tA):PT X (.UnaryOp .Not a pos) (tNot tA):=by
  intro pins s σ H Q I h
  exact isTrue_not (ha pins s σ H (fun c H1=>Q (!c) H1) I h)
def tAndV (ta tb:TE):TE:=fun σ H Q=>ta σ H fun x H1=>∃ c,x=.bl c∧if c=true then tb σ H1 Q else Q (.bl false) H1
theorem pe_one {op} {t:TE} (h:PE X a t):PE X (.BoolOp op [a] pos) t:=fun pins s σ H Q I hw=>BoolOp_one (h pins s σ H Q I hw)
theorem pe_and (ha:PE X a ta) (hb:PE X (.BoolOp .And (b :: rest) pos) tb):PE X (.BoolOp .And (a :: b :: rest) pos) (tAndV ta tb):=by
  intro pins s σ H Q I h
  refine BoolOp_and (thn (ha pins s σ H _ I h) fun v s1 ⟨x,H1,I1,r1,q1⟩=>?_)
  obtain ⟨c,rfl,q1⟩:=q1
  cases r1
  refine wpAny_truthy_bool ?_
  cases c with
  | true=>exact hb pins s1 σ H1 Q I1 q1
  | false=>exact ⟨.bl false,H1,I1,rfl,q1⟩
end
end L2
namespace L2
open PySem PySem.Spec PyProof.Rows
def SqL (K:PySem.W.Frag) (H:Hp) (a:Addr) (xs:List V):Prop :=
  Rd H a (.lst xs) ∨
    ∃ (o:Obj) (its:Array Value) (n:Nat),K.lookup a=some o∧o.cls=.type "list"∧o.dict=none∧o.data=.seq its n∧its.size≤sizeLine∧Vals xs its.toList
def SqT (K:PySem.W.Frag) (H:Hp) (a:Addr) (xs:List V):Prop :=
  Rd H a (.tup xs) ∨
    ∃ (o:Obj) (its:Array Value) (n:Nat),K.lookup a=some o∧o.cls=.type "tuple"∧o.data=.seq its n∧its.size≤sizeLine∧Vals xs its.toList
def absV:Value→Option V
  | .none=>some .non
  | .bool b=>some (.bl b)
  | .int i _=>some (.int i)
  | .str x _=>some (.str x)
  | .bytes b _=>some (.byt b)
  | .float b _=>some (.flt b)
  | .ref a=>some (.ref a)
  | .type n=>some (.ty n)
  | _=>none
theorem RelV.abs {x:V} {u:Value} (r:RelV x u):absV u=some x:=by
  cases x with
  | non=>cases r; rfl
  | bl _=>cases r; rfl
  | int _=>obtain ⟨t,rfl⟩:=r; rfl
  | str _=>obtain ⟨t,rfl⟩:=r; rfl
  | byt _=>obtain ⟨t,rfl⟩:=r; rfl
  | flt _=>obtain ⟨t,rfl⟩:=r; rfl
  | ref _=>cases r; rfl
  | ty _=>cases r; rfl
theorem RelV.inj {x y:V} {u:Value} (r:RelV x u) (q:RelV y u):x=y:=Option.some.inj (r.abs.symm.trans q.abs)
theorem Vals.inj:∀ {xs ys:List V} {us:List Value},Vals xs us→Vals ys us→xs=ys
  | _,_,_,.nil,.nil=>rfl
  | _,_,_,.cons r t,.cons r' t'=>by rw [r.inj r',Vals.inj t t']
section
variable {X:Cx} {pins:List (Addr×Obj)} {σ:St} {H:Hp} {s:Shared} {a:Addr} {xs ys:List V}
theorem SqL.of {K:PySem.W.Frag} (h:H a=some (.lst xs)):SqL K H a xs:=.inl (.inl h)
theorem SqT.of {K:PySem.W.Frag} (h:H a=some (.tup xs)):SqT K H a xs:=.inl (.inl h)
theorem Inv.list (I:Inv X pins σ H s) (h:SqL X.K H a xs):∃ its:List Value,Vals xs its∧PlainL s.heap a its.toArray∧xs.length≤sizeLine:=by
  rcases h with h | ⟨o,its,n,hk,hc,hd,hs,hz,r⟩
  · obtain ⟨z,its,n,r,e⟩:=h.ok I.hok
    exact ⟨its,r,⟨_,n,e,rfl,rfl,rfl⟩,z⟩
  · refine ⟨its.toList,r,⟨o,n,I.kIn a o hk,hc,hd,by simpa using hs⟩,?_⟩
    have e:=r.length
    simp only [Array.length_toList] at e
    omega
theorem Inv.tuple (I:Inv X pins σ H s) (h:SqT X.K H a xs):∃ its:List Value,Vals xs its∧IsTup s.heap a its.toArray∧xs.length≤sizeLine:=by
  rcases h with h | ⟨o,its,n,hk,hc,hs,hz,r⟩
  · obtain ⟨z,its,r,p⟩:=h.ok I.hok
    exact ⟨its,r,p,z⟩
  · refine ⟨its.toList,r,⟨o,I.kIn a o hk,hc,n,by simpa using hs⟩,?_⟩
    have e:=r.length
    simp only [Array.length_toList] at e
    omega
theorem Inv.list_inj (I:Inv X pins σ H s) (h:SqL X.K H a xs) (h':SqL X.K H a ys):xs=ys:=by
  obtain ⟨its,r,⟨o,n,e,_,_,d⟩,_⟩:=I.list h
  obtain ⟨its',r',⟨o',n',e',_,_,d'⟩,_⟩:=I.list h'
  rw [e] at e'; cases e'
  rw [d] at d'
  injection d' with d1 _
  have:its=its':=by simpa using congrArg Array.toList d1
  subst this
  exact r.inj r'
theorem Inv.tuple_inj (I:Inv X pins σ H s) (h:SqT X.K H a xs) (h':SqT X.K H a ys):xs=ys:=by
  obtain ⟨its,r,⟨o,e,_,n,d⟩,_⟩:=I.tuple h
  obtain ⟨its',r',⟨o',e',_,n',d'⟩,_⟩:=I.tuple h'
  rw [e] at e'; cases e'
  rw [d] at d'
  injection d' with d1 _
  have:its=its':=by simpa using congrArg Array.toList d1
  subst this
  exact r.inj r'
end
abbrev Cx.wish (X:Cx) (E:Value→Shared→Prop):Cx:={ X with xe:=E }
abbrev Cx.nox (X:Cx):Cx:=X.wish fun _ _=>False
theorem Cx.Ok.wish {X:Cx} (ok:X.Ok) (E:Value→Shared→Prop):(X.wish E).Ok :=
  ⟨ok.mod,ok.kind,ok.glob,ok.blt,ok.above,ok.inj,ok.has,ok.cab,ok.hd,ok.frames,ok.stk,ok.exf,ok.bs,ok.bsz,ok.noex,ok.exfs,ok.funs,ok.frf⟩
theorem Cx.Ok.unwish {X:Cx} {E:Value→Shared→Prop} (ok:(X.wish E).Ok):X.Ok :=
  ⟨ok.mod,ok.kind,ok.glob,ok.blt,ok.above,ok.inj,ok.has,ok.cab,ok.hd,ok.frames,ok.stk,ok.exf,ok.bs,ok.bsz,ok.noex,ok.exfs,ok.funs,ok.frf⟩
section
variable {X:Cx} {pins:List (Addr×Obj)} {σ:St} {H:Hp} {s:Shared} {E:Value→Shared→Prop}
theorem Inv.wish (I:Inv X pins σ H s) (E:Value→Shared→Prop):Inv (X.wish E) pins σ H s:=⟨I.ok.wish E,I.os,I.bare,I.base,I.loc,I.cell,I.free,I.freeC,I.pin,I.hok,I.len⟩
theorem Inv.unwish (I:Inv (X.wish E) pins σ H s):Inv X pins σ H s:=⟨I.ok.unwish,I.os,I.bare,I.base,I.loc,I.cell,I.free,I.freeC,I.pin,I.hok,I.len⟩
theorem SP.unwish {D:Ends} {f:Flow} {s':Shared} (h:SP (X.wish E) pins D f s'):SP X pins D f s':=by
  cases f with
  | next=>obtain ⟨σ',H',I,q⟩:=h; exact ⟨σ',H',I.unwish,q⟩
  | brk=>obtain ⟨σ',H',I,q⟩:=h; exact ⟨σ',H',I.unwish,q⟩
  | cont=>obtain ⟨σ',H',I,q⟩:=h; exact ⟨σ',H',I.unwish,q⟩
  | ret u=>obtain ⟨v,σ',H',I,r,q⟩:=h; exact ⟨v,σ',H',I.unwish,r,q⟩
theorem PSs.nox {st:List Stmt} {t:TS} (h:PSs X.nox st t):PSs X st t:=fun pins s σ H D I hw =>
  wpAny_mono (h pins s σ H D (I.wish _) hw) (fun _ _ q=>q.unwish) fun _ _ z=>False.elim z
end
section
variable {X:Cx} {st:Stmt} {rest:List Stmt} {t u:TS} {e:Expr} {te:TE} {pos:Pos}
def tNext:TS:=fun D σ H=>D.nx σ H
def tSeq (t u:TS):TS:=fun D σ H=>t { D with nx:=u D } σ H
theorem pss_nil:PSs X [] tNext:=fun _ _ σ H _ I h=>wpAny_execs_nil ⟨σ,H,I,h⟩
theorem pss_cons (h1:PS X st t) (h2:PSs X rest u):PSs X (st :: rest) (tSeq t u):=by
  intro pins s σ H D I h
  refine wpAny_execs_cons (thn (h1 pins s σ H { D with nx:=u D } I h) fun f s1 q=>?_)
  cases f with
  | next =>
    obtain ⟨σ',H',I',q⟩:=q
    exact h2 pins s1 σ' H' D I' q
  | ret v=>exact q
  | brk=>exact q
  | cont=>exact q
theorem pss_one (h1:PS X st t):PSs X [st] t:=by
  intro pins s σ H D I h
  refine wpAny_execs_cons (thn (h1 pins s σ H D I h) fun f s1 q=>?_)
  cases f with
  | next=>exact wpAny_execs_nil q
  | ret v=>exact q
  | brk=>exact q
  | cont=>exact q
theorem Inv.quiet {pins:List (Addr×Obj)} {σ:St} {H:Hp} {s:Shared} (I:Inv X pins σ H s):interactive X.env=false:=by simp [interactive,I.ok.kind]
def tDrop (te:TE):TS:=fun D σ H=>te σ H fun _ H1=>D.nx σ H1
theorem ps_expr (he:PE X e te) (hs:swapsWith e none pos.line X.env=pure false:=by rfl):PS X (.Expr e pos) (tDrop te):=by
  intro pins s σ H D I h
  exact wpAny_Expr_any (thn (he pins s σ H _ I h) fun v s1 ⟨x,H1,I1,r1,q1⟩=>⟨σ,H1,I1,q1⟩) I.quiet hs
def tRet (te:TE):TS:=fun D σ H=>te σ H D.rt
theorem ps_ret (he:PE X e te):PS X (.Return (some e) pos) (tRet te):=by
  intro pins s σ H D I h
  exact wpAny_Return_some (thn (he pins s σ H _ I h) fun v s1 ⟨x,H1,I1,r1,q1⟩=>⟨x,σ,H1,I1,r1,q1⟩)
def tIfS (c:TT) (t u:TS):TS:=fun D σ H=>c σ H fun b H1=>if b=true then t D σ H1 else u D σ H1
theorem ps_if {c:Expr} {a b:List Stmt} {tc:TT} (hc:PT X c tc) (ha:PSs X a t) (hb:PSs X b u):PS X (.If c a b pos) (tIfS tc t u):=by
  intro pins s σ H D I h
  refine wpAny_If (thn (hc pins s σ H _ I h) fun d s1 ⟨H1,I1,q1⟩=>?_)
  cases d with
  | true=>exact ha pins s1 σ H1 D I1 q1
  | false=>exact hb pins s1 σ H1 D I1 q1
end
abbrev TG:=V→St→Hp→(St→Hp→Prop)→Prop
abbrev TGs:=List V→St→Hp→(St→Hp→Prop)→Prop
def PG (X:Cx) (target:Expr) (t:TG):Prop :=
  ∀ (pins:List (Addr×Obj)) (s:Shared) (σ:St) (H:Hp) (v:V) (u:Value) (Q:St→Hp→Prop),Inv X pins σ H s→RelV v u→t v σ H Q →
    wpAny (model X.prog X.w) X.A (assign target X.env u) (fun _ s'=>∃ σ' H',Inv X pins σ' H' s'∧Q σ' H') X.xe s
def PGs (X:Cx) (ts:List Expr) (t:TGs):Prop :=
  ∀ (pins:List (Addr×Obj)) (s:Shared) (σ:St) (H:Hp) (vs:List V) (us:List Value) (Q:St→Hp→Prop),Inv X pins σ H s→Vals vs us→t vs σ H Q →
    wpAny (model X.prog X.w) X.A (assignInOrder ((assignEach ts X.env).map (·.2)) us) (fun _ s'=>∃ σ' H',Inv X pins σ' H' s'∧Q σ' H') X.xe s
abbrev TSet:=V→V→V→Hp→(Hp→Prop)→Prop
abbrev TIp:=V→V→Hp→VK→Prop
section
variable {X:Cx} {pos:Pos}
def gName (i:Nat):TG:=fun v σ H Q=>Q (σ.set i (some v)) H
theorem pg_name {i:Nat} {x:Str} (hN:X.N.Nodup) (hi:X.N[i]?=some x) (hx:Loc X.env.scope x) (hf:X.fn x=true∨X.env.scope.names.lookup x=some .local:=by first | exact .inl rfl | exact .inr rfl | assumption):PG X (.Name x pos) (gName i):=by
  intro pins s σ H v u Q I r h
  exact wpAny_assign_Name (store_ok I hN hi hx r (fun s' I'=>⟨_,H,I',h⟩) hf)
def gNil:TGs:=fun vs σ H Q=>vs=[]∧Q σ H
def gCons (t:TG) (u:TGs):TGs:=fun vs σ H Q=>∃ v r,vs=v :: r∧t v σ H fun σ' H'=>u r σ' H' Q
theorem pgs_nil:PGs X [] gNil:=by
  intro pins s σ H vs us Q I r h
  obtain ⟨e,h⟩:=h
  subst e
  cases r
  exact assignInOrder_nil ⟨σ,H,I,h⟩
theorem pgs_cons {e:Expr} {es:List Expr} {t:TG} {u:TGs} (h1:PG X e t) (h2:PGs X es u)
    (hs:(assignEach (e :: es) X.env).map (·.2)=assign e X.env :: (assignEach es X.env).map (·.2):=by rfl):PGs X (e :: es) (gCons t u):=by
  intro pins s σ H vs us Q I r h
  obtain ⟨v,vr,e1,h⟩:=h
  subst e1
  cases r with
  | cons r rr =>
    rw [hs]
    refine assignInOrder_cons (thn (h1 pins s σ H _ _ _ I r h) fun _ s1 ⟨σ1,H1,I1,q1⟩=>?_)
    exact h2 pins s1 σ1 H1 _ _ Q I1 rr q1
def gTup (K:PySem.W.Frag) (n:Nat) (t:TGs):TG:=fun v σ H Q=>∃ a xs,v=.ref a∧SqT K H a xs∧xs.length=n∧t xs σ H Q
theorem pg_tup {es:List Expr} {k:Nat} {t:TGs} {n:Nat} (hc:X.calm=true) (h:PGs X es t)
    (hn:(assignEach es X.env).length=n:=by rfl) (hst:(assignEach es X.env).findIdx? (·.1)=none:=by rfl):PG X (.Tuple es k pos) (gTup X.K n t):=by
  intro pins s σ H v u Q I r hw
  obtain ⟨a,xs,e1,hq,hl,hw⟩:=hw
  subst e1
  cases r
  obtain ⟨its,rv,ht,hz⟩:=I.tuple hq
  refine assign_Tuple_tuple (I.ok.hd hc) ht (by simp [hn,← hl,rv.length]) hst fun h' hx=>?_
  have I1:Inv X pins σ H { s with heap:=h' }:=I.kept (t':=s.toks) fun b o e=>hx b o (Nat.ne_of_lt (Heap.lt_size e)) e
  exact h pins _ σ H xs _ Q I1 (by simpa using rv) hw
def tAsg (te:TE) (g:TG):TS:=fun D σ H=>te σ H fun x H1=>g x σ H1 D.nx
theorem ps_set {i:Nat} {x:Str} {e:Expr} {te:TE} {pos':Pos} (hN:X.N.Nodup) (hi:X.N[i]?=some x) (hx:Loc X.env.scope x) (he:PE X e te) (hs:swapsWith e (some (.Name x pos')) pos.line X.env=pure false:=by rfl) (hf:X.fn x=true∨X.env.scope.names.lookup x=some .local:=by first | exact .inl rfl | exact .inr rfl | assumption) :
    PS X (.Assign [.Name x pos'] e pos) (tAsg te (gName i)):=by
  intro pins s σ H D I h
  refine wpAny_Assign_Name (thn (he pins s σ H _ I h) fun v s1 ⟨y,H1,I1,r1,q1⟩=>?_) hs
  exact store_ok I1 hN hi hx r1 (fun s2 I2=>⟨_,H1,I2,q1⟩) hf
end
section
variable {X:Cx} {pos:Pos}
def tWhile (c:TT) (tb:TS):TS:=fun D σ H=>∃ W:Nat→St→Hp→Prop,(∃ m,W m σ H)∧∀ m σ H,W m σ H →
  c σ H fun b H1=>if b=true then ∃ N:St→Hp→Prop,(∀ σ' H',N σ' H'→∃ m',m' < m∧W m' σ' H')∧tb { D with nx:=N,ct:=N,bk:=D.nx } σ H1 else D.nx σ H1
theorem ps_while {c:Expr} {body:List Stmt} {tc:TT} {tb:TS} (hp:PassesOwn (model X.prog X.w) X.A X.env X.xe) (hc:PT X c tc) (hb:PSs X body tb):PS X (.While c body [] pos) (tWhile tc tb):=by
  intro pins s σ H D I h
  obtain ⟨W,⟨m0,w0⟩,turn⟩:=h
  refine wpAny_While (codeAny_whileLoop (fun n s'=>∃ σ' H',Inv X pins σ' H' s'∧W n σ' H') ?_ m0 ⟨σ,H,I,w0⟩)
  rintro n s1 ⟨σ1,H1,I1,w1⟩
  refine wpAny_passesOwn hp (thn (hc pins s1 σ1 H1 _ I1 (turn n σ1 H1 w1)) fun b s2 ⟨H2,I2,q2⟩=>?_)
  cases b with
  | true =>
    obtain ⟨N,hN,q2⟩:=q2
    rw [if_pos rfl]
    refine wpAny_passesOwn hp (thn (hb pins s2 σ1 H2 _ I2 q2) fun f s3 q3=>?_)
    cases f with
    | next =>
      obtain ⟨σ3,H3,I3,n3⟩:=q3
      obtain ⟨m',hm,w3⟩:=hN σ3 H3 n3
      exact ⟨m',hm,σ3,H3,I3,w3⟩
    | cont =>
      obtain ⟨σ3,H3,I3,n3⟩:=q3
      obtain ⟨m',hm,w3⟩:=hN σ3 H3 n3
      exact ⟨m',hm,σ3,H3,I3,w3⟩
    | brk=>exact q3
    | ret v=>exact q3
  | false =>
    rw [if_neg Bool.false_ne_true]
    exact wpAny_execs_nil ⟨σ1,H2,I2,q2⟩
end
structure It where
  go:Nat→Hp→Prop
  yld:Nat→Hp→V→Hp→Prop
  stop:Nat→Hp→Prop
def FpOk (X:Cx) (pins:List (Addr×Obj)) (H:Hp) (b:Addr):Prop :=
  H b=none∧b≠X.env.locals∧b∉X.fs∧(b∈X.ex∨X.s₀.heap.objs.size≤b)∧(∀ x c,X.env.cells.lookup x=some c→c≠b)∧∀ p∈X.pn++pins,p.1≠b
theorem Inv.fpOk {X:Cx} {pins:List (Addr×Obj)} {σ:St} {H H':Hp} {s:Shared} {b:Addr} (I:Inv X pins σ H s) (hb:s.heap.objs.size≤b) (hn:H' b=none):FpOk X pins H' b:=by
  refine ⟨hn,Nat.ne_of_gt (Nat.lt_of_lt_of_le I.lt hb),I.nofs hb,.inr (Nat.le_trans I.sz hb),fun x c e z=>?_,fun p hp z=>?_⟩
  · obtain ⟨v,q⟩:=I.cell x c e
    exact absurd (Nat.lt_of_lt_of_le q.lt (by rw [z]; exact hb)) (Nat.lt_irrefl _)
  · exact absurd (Nat.lt_of_lt_of_le (Heap.lt_size (I.pin p hp).1) (by rw [z]; exact hb)) (Nat.lt_irrefl _)
structure Turn (P:Program) (w:World) (K:PySem.W.Frag) (tg:Expr) (J:It) (fp:List Addr) (it:Addr) (tn:Nat→Heap→Prop):Prop where
  mem:it∈fp
  obj:∀ i h,tn i h→∀ b∈fp,∃ o,h.get? b=some o∧∀ v,o.data≠.cell v
  keep:∀ i h h',tn i h→(∀ b∈fp,∀ o,h.get? b=some o→h'.get? b=some o)→tn i h'
  item:∀ (X:Cx),X.prog=P→X.w=w→X.K=K→X.calm=true→∀ (i:Nat) (pins:List (Addr×Obj)) (s:Shared) (σ:St) (H:Hp) (E:Value→Shared→Prop),Inv X pins σ H s→(∀ b∈fp,FpOk X pins H b)→tn i s.heap→J.go i H →
    wpAny (model P w) X.A (pyNext (.ref it)) (fun r s1=>∃ u,r=some u ∧
      wpAny (model P w) X.A (letOwnedTupleGo tg (.ref it) u) (fun _ s2=>∃ x H',Inv X pins σ H' s2∧RelV x u∧J.yld i H x H'∧tn (i + 1) s2.heap∧∀ b∈fp,H' b=none) E s1) E s
  done:∀ (X:Cx),X.prog=P→X.w=w→X.K=K→X.calm=true→∀ (i:Nat) (pins:List (Addr×Obj)) (s:Shared) (σ:St) (H:Hp) (E:Value→Shared→Prop),Inv X pins σ H s→(∀ b∈fp,FpOk X pins H b)→tn i s.heap→J.stop i H →
    wpAny (model P w) X.A (pyNext (.ref it)) (fun r s1=>r=none∧Inv X pins σ H s1) E s
  self:∀ (A:Around) (i:Nat) (s:Shared) (Q:Value→Shared→Prop) (E:Value→Shared→Prop),tn i s.heap→Q (.ref it) s→wpAny (model P w) A (pyIter (.ref it)) Q E s
abbrev TI:=St→Hp→(It→Hp→Prop)→Prop
def PIE (X:Cx) (pins:List (Addr×Obj)) (σ:St) (tg:Expr) (R:It→Hp→Prop) (itv:Value) (s2:Shared):Prop :=
  ∃ (it:Addr) (fp:List Addr) (tn:Nat→Heap→Prop) (J:It) (H':Hp),itv=.ref it∧Inv X pins σ H' s2∧Turn X.prog X.w X.K tg J fp it tn∧tn 0 s2.heap∧(∀ b∈fp,FpOk X pins H' b)∧R J H'
def PI (X:Cx) (tg iter:Expr) (wi:TI):Prop :=
  ∀ (pins:List (Addr×Obj)) (s:Shared) (σ:St) (H:Hp) (R:It→Hp→Prop),Inv X pins σ H s→wi σ H R →
    wpAny (model X.prog X.w) X.A (eval iter X.env) (fun v s1=>wpAny (model X.prog X.w) X.A (pyIter v) (PIE X pins σ tg R) X.xe s1) X.xe s
theorem go_of {M:Model} {A:Around} {E:Value→Shared→Prop} {s:Shared} {tg:Expr} {it:Addr} {u:Value} {o:Obj} {n:String} {vs:Array Value} {Q:Unit→Shared→Prop} (ho:s.heap.get? it=some o) (hc:o.cls=.type n) (hd:o.data=.fields vs)
    (hn:["enumerate","zip","dict_itemiterator","dict_reverseitemiterator","odict_iterator","itertools.zip_longest","itertools.pairwise"].contains n=false) (hQ:Q () s):wpAny M A (letOwnedTupleGo tg (.ref it) u) Q E s:=by
  unfold letOwnedTupleGo
  cases tg <;> first
    | exact wpAny_pure hQ
    | (cases u <;> first
        | exact wpAny_pure hQ
        | (refine wpAny_bind (wpAny_load ho ?_)
           rw [hc,hd]
           show wpAny M A (if (["enumerate","zip","dict_itemiterator","dict_reverseitemiterator","odict_iterator","itertools.zip_longest","itertools.pairwise"].contains n && vs[0]? == some (rawInt _))=true then _ else _) Q E s
           rw [if_neg (by intro h; rw [hn,Bool.false_and] at h; cases h)]
           exact wpAny_pure hQ))
def Itl (K:PySem.W.Frag) (a:Addr):It :=
  ⟨fun i H=>∃ xs x,SqL K H a xs∧xs[i]?=some x,fun i H x H'=>H'=H∧∀ xs,SqL K H a xs→xs[i]?=some x,fun i H=>∃ xs,SqL K H a xs∧xs.length≤i⟩
def Itt (K:PySem.W.Frag) (a:Addr):It :=
  ⟨fun i H=>∃ xs x,SqT K H a xs∧xs[i]?=some x,fun i H x H'=>H'=H∧∀ xs,SqT K H a xs→xs[i]?=some x,fun i H=>∃ xs,SqT K H a xs∧xs.length≤i⟩
def Itr (lo:Int) (n:Nat):It:=⟨fun i _=>i < n,fun i H x H'=>H'=H∧x=.int (lo + i),fun i _=>n≤i⟩
theorem turn_list {P:Program} {w:World} {K:PySem.W.Frag} {tg:Expr} (a it:Addr):Turn P w K tg (Itl K a) [it] it (fun i h=>h.IsListIter it a i) where
  mem:=by simp
  obj:=fun i h st b hb=>by
    have e:b=it:=by simpa using hb
    subst e
    obtain ⟨o,e,c,d⟩:=st
    exact ⟨o,e,fun v z=>by rw [d] at z; cases z⟩
  keep:=fun i h h' st k=>st.at fun o e=>k it (by simp) o e
  item:=by
    intro X hP hw hK hc i pins s σ H E I hf st hg
    subst hP hw hK
    obtain ⟨xs,x,hq,hx⟩:=hg
    obtain ⟨its,rv,p,hz⟩:=I.list hq
    obtain ⟨u,hu,ru⟩:=rv.get hx
    obtain ⟨f0,f1,f2,f3,f4,f5⟩:=hf it (by simp)
    refine wpAny_pyNext_list_item st p.isList (x:=u) (by simpa using hu) fun h' st' sb=>?_
    have I1:Inv X pins σ H { s with heap:=h' }:=I.turned (t':=s.toks) (fun b o hb e=>(sb.2 b hb).trans e) f0 f1 f3 f4 f5
    obtain ⟨o,e,c,d⟩:=id st'
    exact ⟨u,rfl,go_of (s:={ s with heap:=h' }) e c d (by decide) ⟨x,H,I1,ru,⟨rfl,fun ys hy=>by rw [I.list_inj hy hq]; exact hx⟩,st',fun b hb=>(hf b hb).1⟩⟩
  done:=by
    intro X hP hw hK hc i pins s σ H E I hf st hg
    subst hP hw hK
    obtain ⟨xs,hq,hx⟩:=hg
    obtain ⟨its,rv,p,hz⟩:=I.list hq
    obtain ⟨f0,f1,f2,f3,f4,f5⟩:=hf it (by simp)
    have hl:=rv.length
    exact wpAny_pyNext_list_end (I.ok.hd hc) st p.isList (by simp; omega) fun h' eb=>⟨rfl,I.turned (t':=s.toks) (fun b o hb e=>eb b o hb e) f0 f1 f3 f4 f5⟩
  self:=fun _ _ _ _ _ st h=>wpAny_pyIter_listiter st h
theorem turn_tuple {P:Program} {w:World} {K:PySem.W.Frag} {tg:Expr} (a it:Addr):Turn P w K tg (Itt K a) [it] it (fun i h=>h.IsTupleIter it a i) where
  mem:=by simp
  obj:=fun i h st b hb=>by
    have e:b=it:=by simpa using hb
    subst e
    obtain ⟨o,e,c,d⟩:=st
    exact ⟨o,e,fun v z=>by rw [d] at z; cases z⟩
  keep:=fun i h h' st k=>st.at fun o e=>k it (by simp) o e
  item:=by
    intro X hP hw hK hc i pins s σ H E I hf st hg
    subst hP hw hK
    obtain ⟨xs,x,hq,hx⟩:=hg
    obtain ⟨its,rv,p,hz⟩:=I.tuple hq
    obtain ⟨u,hu,ru⟩:=rv.get hx
    obtain ⟨f0,f1,f2,f3,f4,f5⟩:=hf it (by simp)
    refine wpAny_pyNext_tuple_item st (show s.heap.IsTuple a its.toArray from p) (x:=u) (by simpa using hu) fun h' st' sb=>?_
    have I1:Inv X pins σ H { s with heap:=h' }:=I.turned (t':=s.toks) (fun b o hb e=>(sb.2 b hb).trans e) f0 f1 f3 f4 f5
    obtain ⟨o,e,c,d⟩:=id st'
    exact ⟨u,rfl,go_of (s:={ s with heap:=h' }) e c d (by decide) ⟨x,H,I1,ru,⟨rfl,fun ys hy=>by rw [I.tuple_inj hy hq]; exact hx⟩,st',fun b hb=>(hf b hb).1⟩⟩
  done:=by
    intro X hP hw hK hc i pins s σ H E I hf st hg
    subst hP hw hK
    obtain ⟨xs,hq,hx⟩:=hg
    obtain ⟨its,rv,p,hz⟩:=I.tuple hq
    obtain ⟨f0,f1,f2,f3,f4,f5⟩:=hf it (by simp)
    have hl:=rv.length
    exact wpAny_pyNext_tuple_end (I.ok.hd hc) st (show s.heap.IsTuple a its.toArray from p) (by simp; omega) fun h' eb=>⟨rfl,I.turned (t':=s.toks) (fun b o hb e=>eb b o hb e) f0 f1 f3 f4 f5⟩
  self:=fun _ _ _ _ _ st h=>wpAny_pyIter_tupleiter st h
theorem turn_range {P:Program} {w:World} {K:PySem.W.Frag} {tg:Expr} (it:Addr) (lo:Int) (n:Nat):Turn P w K tg (Itr lo n) [it] it (fun i h=>IsRangeIter h it (lo + (i:Nat) * 1) ((n:Int) - (i:Nat)) 1) where
  mem:=by simp
  obj:=fun i h st b hb=>by
    have e:b=it:=by simpa using hb
    subst e
    exact ⟨_,st,fun v z=>by
      have z':Data.fields _=Data.cell v:=z
      cases z'⟩
  keep:=fun i h h' st k=>k it (by simp) _ st
  item:=by
    intro X hP hw hK hc i pins s σ H E I hf st hg
    subst hP hw hK
    obtain ⟨f0,f1,f2,f3,f4,f5⟩:=hf it (by simp)
    have W:=Walks.range (prog:=X.prog) (w:=X.w) (I.ok.hd hc) it lo 1 n
    refine W.item i s _ _ hg st fun v h' tk hv st' kk=>?_
    obtain ⟨t,rfl⟩:=hv
    have I1:Inv X pins σ H { s with heap:=h',toks:=tk }:=I.turned (fun b o hb e=>kk b o (by simpa using hb) e) f0 f1 f3 f4 f5
    refine ⟨_,rfl,go_of (s:={ s with heap:=h',toks:=tk }) (n:="range_iterator") st' rfl rfl (by decide) ⟨.int (lo + i),H,I1,⟨t,?_⟩,⟨rfl,rfl⟩,st',fun b hb=>(hf b hb).1⟩⟩
    rw [Int.mul_one]
  done:=by
    intro X hP hw hK hc i pins s σ H E I hf st hg
    subst hP hw hK
    obtain ⟨f0,f1,f2,f3,f4,f5⟩:=hf it (by simp)
    exact wpAny_pyNext_range_end (I.ok.hd hc) st (by have:n≤i:=hg; omega) fun h' eb=>⟨rfl,I.turned (t':=s.toks) (fun b o hb e=>eb b o hb e) f0 f1 f3 f4 f5⟩
  self:=fun _ _ _ _ _ st h=>wpAny_pyIter_rangeiter st h
end L2
namespace L2
open PySem PySem.Spec PyProof.Rows
section
variable {X:Cx} {tg:Expr}
def iList (K:PySem.W.Frag) (tl:TE):TI:=fun σ H R=>tl σ H fun x H1=>∃ a,x=.ref a∧(∃ xs,SqL K H1 a xs)∧R (Itl K a) H1
def iTup (K:PySem.W.Frag) (tl:TE):TI:=fun σ H R=>tl σ H fun x H1=>∃ a,x=.ref a∧(∃ xs,SqT K H1 a xs)∧R (Itt K a) H1
theorem pi_list {l:Expr} {tl:TE} (hl:PE X l tl):PI X tg l (iList X.K tl):=by
  intro pins s σ H R I h
  refine thn (hl pins s σ H _ I h) fun v s1 ⟨x,H1,I1,r1,q1⟩=>?_
  obtain ⟨a,e,⟨xs,hq⟩,q⟩:=q1
  subst e
  cases r1
  obtain ⟨its,rv,p,hz⟩:=I1.list hq
  refine wpAny_pyIter_list p.isList ?_
  refine ⟨s1.heap.objs.size,[s1.heap.objs.size],_,_,H1,rfl,I1.kept (t':=s1.toks) fun b o e=>Heap.get?_push_of_some _ e,turn_list a _,⟨_,Heap.get?_push_size _ rfl,rfl,rfl⟩,fun b hb=>?_,q⟩
  have e:b=s1.heap.objs.size:=by simpa using hb
  subst e
  exact I1.fpOk (Nat.le_refl _) (I1.hok.fresh (Nat.le_refl _))
theorem pi_tup {l:Expr} {tl:TE} (hl:PE X l tl):PI X tg l (iTup X.K tl):=by
  intro pins s σ H R I h
  refine thn (hl pins s σ H _ I h) fun v s1 ⟨x,H1,I1,r1,q1⟩=>?_
  obtain ⟨a,e,⟨xs,hq⟩,q⟩:=q1
  subst e
  cases r1
  obtain ⟨its,rv,p,hz⟩:=I1.tuple hq
  refine wpAny_pyIter_tuple (show s1.heap.IsTuple a its.toArray from p) ?_
  refine ⟨s1.heap.objs.size,[s1.heap.objs.size],_,_,H1,rfl,I1.kept (t':=s1.toks) fun b o e=>Heap.get?_push_of_some _ e,turn_tuple a _,⟨_,Heap.get?_push_size _ rfl,rfl,rfl⟩,fun b hb=>?_,q⟩
  have e:b=s1.heap.objs.size:=by simpa using hb
  subst e
  exact I1.fpOk (Nat.le_refl _) (I1.hok.fresh (Nat.le_refl _))
theorem range_it {pins:List (Addr×Obj)} {σ:St} {H:Hp} {s:Shared} {R:It→Hp→Prop} {E:Value→Shared→Prop} {lo hi:Int} {t u v:Tok} {tk:Nat} (I:Inv X pins σ H s) (h1:-(2 ^ 62)≤lo) (h2:lo < 2 ^ 62) (h3:-(2 ^ 62)≤hi) (h4:hi < 2 ^ 62)
    (q:R (Itr lo (hi - lo).toNat) H):wpAny (model X.prog X.w) X.A (pyIter (.ref s.heap.objs.size)) (PIE X pins σ tg R) E { s with heap:=s.heap.push { cls:=.type "range",data:=.fields #[.int lo t,.int hi u,.int 1 v] },toks:=tk }:=by
  refine wpAny_pyIter_range (IsRange.new ..) (small_one h1 h2 h3 h4) ?_
  have I1:Inv X pins σ H { s with heap:=s.heap.push { cls:=.type "range",data:=.fields #[.int lo t,.int hi u,.int 1 v] },toks:=tk }:=I.kept fun b o e=>Heap.get?_push_of_some _ e
  refine ⟨(s.heap.push { cls:=.type "range",data:=.fields #[.int lo t,.int hi u,.int 1 v] }).objs.size,[(s.heap.push { cls:=.type "range",data:=.fields #[.int lo t,.int hi u,.int 1 v] }).objs.size],_,_,H,rfl,
    I1.kept (t':=tk) fun b o e=>Heap.get?_push_of_some _ e,turn_range _ lo (hi - lo).toNat,?_,fun b hb=>?_,q⟩
  · have e1:lo + ((0:Nat):Int) * 1=lo:=by simp
    have e2:(((hi - lo).toNat:Nat):Int) - ((0:Nat):Int)=Builtin.Range.rangeSize lo hi 1:=by rw [rangeSize_one]; split <;> omega
    show IsRangeIter _ _ (lo + ((0:Nat):Int) * 1) ((((hi - lo).toNat:Nat):Int) - ((0:Nat):Int)) 1
    rw [e1,e2]
    exact Heap.get?_push_size _ rfl
  · have e:b=(s.heap.push { cls:=.type "range",data:=.fields #[.int lo t,.int hi u,.int 1 v] }).objs.size:=by simpa using hb
    subst e
    exact I1.fpOk (Nat.le_refl _) (I1.hok.fresh (Nat.le_refl _))
def iRng1 (ta:TA):TI:=fun σ H R=>ta σ H fun vs H1=>∃ j:Int,vs=[.int j]∧-(2 ^ 62)≤j∧j < 2 ^ 62∧R (Itr 0 j.toNat) H1
def iRng2 (ta:TA):TI:=fun σ H R=>ta σ H fun vs H1=>∃ i j:Int,vs=[.int i,.int j]∧(-(2 ^ 62)≤i∧i < 2 ^ 62∧-(2 ^ 62)≤j∧j < 2 ^ 62)∧R (Itr i (j - i).toNat) H1
theorem pi_range1 {a:Expr} {ta:TA} {p pos:Pos} (hg:Gl X "range") (hm:X.mg "range"=none) (ha:PA X [a] ta) (hs:starEach [a] X.env=[(false,eval a X.env)]:=by rfl):PI X tg (.Call (.Name "range" p) [a] [] pos) (iRng1 ta):=by
  intro pins s σ H R I h
  refine Call_ (ld_blt I hg hm boot_range (PyProof.Rows.callWith_type1 (thn (ha pos pins s σ H _ I h) fun us s1 ⟨vs,H1,I1,r1,q1⟩=>?_) hs rfl))
  obtain ⟨j,e,q1,q2,q⟩:=q1
  subst e
  cases r1 with
  | cons r rr =>
    cases rr
    obtain ⟨t,rfl⟩:=r
    exact call_range_1 (range_it I1 (by omega) (by omega) q1 q2 (by simpa using q))
theorem pi_range2 {a b:Expr} {ta:TA} {p pos:Pos} (hg:Gl X "range") (hm:X.mg "range"=none) (ha:PA X [a,b] ta) (hs:starEach [a,b] X.env=[(false,eval a X.env),(false,eval b X.env)]:=by rfl) (hs2:starEach [b] X.env=[(false,eval b X.env)]:=by rfl) :
    PI X tg (.Call (.Name "range" p) [a,b] [] pos) (iRng2 ta):=by
  intro pins s σ H R I h
  refine Call_ (ld_blt I hg hm boot_range (PyProof.Rows.callWith_type1 (thn (ha pos pins s σ H _ I h) fun us s1 ⟨vs,H1,I1,r1,q1⟩=>?_) (by rw [hs,hs2]) (by rw [hs2]; rfl)))
  obtain ⟨i,j,e,⟨q1,q2,q3,q4⟩,q⟩:=q1
  subst e
  cases r1 with
  | cons r rr =>
    cases rr with
    | cons r' rr =>
      cases rr
      obtain ⟨t,rfl⟩:=r
      obtain ⟨t',rfl⟩:=r'
      exact call_range_2 (range_it I1 q1 q2 q3 q4 q)
def tFor (wi:TI) (g:TG) (tb:TS):TS:=fun D σ H=>wi σ H fun J H1=>∃ W:Nat→Nat→St→Hp→Prop,(∃ m,W 0 m σ H1)∧∀ i m σ H,W i m σ H →
  (J.stop i H∧D.nx σ H)∨(J.go i H∧∃ N:St→Hp→Prop,(∀ σ' H',N σ' H'→∃ m',m' < m∧W (i + 1) m' σ' H')∧∀ x H',J.yld i H x H'→g x σ H' fun σ2 H2=>tb { D with nx:=N,ct:=N,bk:=D.nx } σ2 H2)
def pinsAt (fp:List Addr) (h:Heap):List (Addr×Obj):=fp.filterMap fun b=>(h.get? b).map fun o=>(b,o)
theorem mem_pinsAt {fp:List Addr} {h:Heap} {b:Addr} {o:Obj} (hb:b∈fp) (e:h.get? b=some o):(b,o)∈pinsAt fp h:=List.mem_filterMap.mpr ⟨b,hb,by rw [e]; rfl⟩
theorem of_pinsAt {fp:List Addr} {h:Heap} {p:Addr×Obj} (hp:p∈pinsAt fp h):p.1∈fp∧h.get? p.1=some p.2:=by
  obtain ⟨b,hb,e⟩:=List.mem_filterMap.mp hp
  cases q:h.get? b with
  | none=>rw [q] at e; cases e
  | some o =>
    rw [q] at e
    have e':(b,o)=p:=Option.some.inj e
    subst e'
    exact ⟨hb,q⟩
theorem Inv.pinned {pins:List (Addr×Obj)} {σ:St} {H:Hp} {s:Shared} {fp:List Addr} (I:Inv X pins σ H s) (hf:∀ b∈fp,FpOk X pins H b) (ho:∀ b∈fp,∃ o,s.heap.get? b=some o∧∀ v,o.data≠.cell v):Inv X (pins++pinsAt fp s.heap) σ H s :=
  I.pins_of fun p hp=>(List.mem_append.mp hp).elim (fun z=>I.pin p (List.mem_append_right _ z)) fun z=>by
    obtain ⟨hb,e⟩:=of_pinsAt z
    obtain ⟨f0,f1,f2,_⟩:=hf p.1 hb
    obtain ⟨o,e',d⟩:=ho p.1 hb
    rw [e] at e'; cases e'
    exact ⟨e,f0,f1,f2,d⟩
theorem Inv.unpinned {pins pl:List (Addr×Obj)} {σ:St} {H:Hp} {s:Shared} (I:Inv X (pins++pl) σ H s):Inv X pins σ H s:=I.pins_of fun p hp=>I.pin p (List.mem_append_right _ (List.mem_append_left _ hp))
theorem ps_for {iter:Expr} {body:List Stmt} {wi:TI} {g:TG} {tb:TS} {pos:Pos} (hp:PassesOwn (model X.prog X.w) X.A X.env X.xe) (hc:X.calm=true) (hi:PI X tg iter wi) (hg:PG X tg g) (hb:PSs X body tb)
    (hs:∀ x,foldedSetIterable iter X.env x=pure x:=by intro _; rfl):PS X (.For tg iter body [] pos) (tFor wi g tb):=by
  intro pins s σ H D I h
  refine wpAny_For (thn (hi pins s σ H _ I h) fun v s1 h1=>thn h1 fun itv s2 h2=>?_) hs
  obtain ⟨it,fp,tn,J,H2,e,I2,T,st2,f2,W,⟨m0,w0⟩,turn⟩:=h2
  subst e
  have stat:∀ {H':Hp},(∀ b∈fp,H' b=none)→∀ b∈fp,FpOk X pins H' b:=fun hn b hb=>⟨hn b hb,(f2 b hb).2⟩
  refine codeAny_forLoop_any (fun n s'=>∃ i σ' H',Inv X pins σ' H' s'∧tn i s'.heap∧(∀ b∈fp,H' b=none)∧W i n σ' H') ?_ m0 ⟨0,σ,H2,I2,st2,fun b hb=>(f2 b hb).1,w0⟩
  rintro n s3 ⟨i,σ3,H3,I3,st3,fr3,w3⟩
  rcases turn i n σ3 H3 w3 with ⟨stop,qn⟩ | ⟨go,N,hN,step⟩
  · refine wpAny_passesOwn hp (thn (T.done X rfl rfl rfl hc i pins s3 σ3 H3 X.xe I3 (stat fr3) st3 stop) fun r s4 ⟨hr,I4⟩=>?_)
    subst hr
    exact wpAny_execs_nil ⟨σ3,H3,I4,qn⟩
  · refine wpAny_passesOwn hp (thn (T.item X rfl rfl rfl hc i pins s3 σ3 H3 X.xe I3 (stat fr3) st3 go) fun r s4 ⟨u,hr,h4⟩=>?_)
    subst hr
    refine wpAny_passesOwn hp (thn h4 fun _ s5 ⟨x,H5,I5,r5,y5,st5,fr5⟩=>?_)
    have I5':=I5.pinned (stat fr5) (T.obj _ _ st5)
    refine wpAny_passesOwn hp (thn (hg _ s5 σ3 H5 x u _ I5' r5 (step x H5 y5)) fun _ s6 ⟨σ6,H6,I6,q6⟩=>?_)
    refine wpAny_passesOwn hp (thn (hb _ s6 σ6 H6 _ I6 q6) fun f s7 q7=>?_)
    have again:∀ {σ7:St} {H7:Hp},Inv X (pins++pinsAt fp s5.heap) σ7 H7 s7→N σ7 H7→∃ m,m < n∧∃ i σ' H',Inv X pins σ' H' s7∧tn i s7.heap∧(∀ b∈fp,H' b=none)∧W i m σ' H':=fun {σ7 H7} I7 n7=>by
      obtain ⟨m',hm,w7⟩:=hN σ7 H7 n7
      refine ⟨m',hm,i + 1,σ7,H7,I7.unpinned,T.keep _ _ _ st5 fun b hb o e=>(I7.pin (b,o) (List.mem_append_right _ (List.mem_append_right _ (mem_pinsAt hb e)))).1,fun b hb=>?_,w7⟩
      obtain ⟨o,e,d⟩:=T.obj _ _ st5 b hb
      exact (I7.pin (b,o) (List.mem_append_right _ (List.mem_append_right _ (mem_pinsAt hb e)))).2.1
    cases f with
    | next=>obtain ⟨σ7,H7,I7,n7⟩:=q7; exact again I7 n7
    | cont=>obtain ⟨σ7,H7,I7,n7⟩:=q7; exact again I7 n7
    | brk=>obtain ⟨σ7,H7,I7,q7⟩:=q7; exact ⟨σ7,H7,I7.unpinned,q7⟩
    | ret v=>obtain ⟨x7,σ7,H7,I7,r7,q7⟩:=q7; exact ⟨x7,σ7,H7,I7.unpinned,r7,q7⟩
end
theorem for_list {K:PySem.W.Frag} {a:Addr} {xs:List V} {g:TG} {tb:TS} {D:Ends} {σ:St} {H:Hp} (Pv:Nat→St→Hp→Prop) (h0:Pv 0 σ H) (hl:∀ i σ H,i≤xs.length→Pv i σ H→SqL K H a xs)
    (hs:∀ i x σ H,xs[i]?=some x→Pv i σ H→g x σ H fun σ2 H2=>tb { D with nx:=Pv (i + 1),ct:=Pv (i + 1),bk:=D.nx } σ2 H2) (hd:∀ σ H,Pv xs.length σ H→D.nx σ H) :
    ∃ W:Nat→Nat→St→Hp→Prop,(∃ m,W 0 m σ H)∧∀ i m σ H,W i m σ H →
      ((Itl K a).stop i H∧D.nx σ H)∨((Itl K a).go i H∧∃ N:St→Hp→Prop,(∀ σ' H',N σ' H'→∃ m',m' < m∧W (i + 1) m' σ' H')∧∀ x H',(Itl K a).yld i H x H'→g x σ H' fun σ2 H2=>tb { D with nx:=N,ct:=N,bk:=D.nx } σ2 H2):=by
  refine ⟨fun i m σ H=>m=xs.length - i∧i≤xs.length∧Pv i σ H,⟨xs.length,by simp,Nat.zero_le _,h0⟩,?_⟩
  rintro i m σ H ⟨rfl,hi,p⟩
  have q:=hl i σ H hi p
  by_cases hlt:i < xs.length
  · refine .inr ⟨⟨xs,xs[i],q,by simp [hlt]⟩,Pv (i + 1),fun σ' H' p'=>⟨xs.length - (i + 1),by omega,rfl,hlt,p'⟩,fun x H' y=>?_⟩
    obtain ⟨e,y⟩:=y
    subst e
    exact hs i x σ _ (y xs q) p
  · have e:i=xs.length:=by omega
    subst e
    exact .inl ⟨⟨xs,q,Nat.le_refl _⟩,hd σ H p⟩
theorem for_tup {K:PySem.W.Frag} {a:Addr} {xs:List V} {g:TG} {tb:TS} {D:Ends} {σ:St} {H:Hp} (Pv:Nat→St→Hp→Prop) (h0:Pv 0 σ H) (hl:∀ i σ H,i≤xs.length→Pv i σ H→SqT K H a xs)
    (hs:∀ i x σ H,xs[i]?=some x→Pv i σ H→g x σ H fun σ2 H2=>tb { D with nx:=Pv (i + 1),ct:=Pv (i + 1),bk:=D.nx } σ2 H2) (hd:∀ σ H,Pv xs.length σ H→D.nx σ H) :
    ∃ W:Nat→Nat→St→Hp→Prop,(∃ m,W 0 m σ H)∧∀ i m σ H,W i m σ H →
      ((Itt K a).stop i H∧D.nx σ H)∨((Itt K a).go i H∧∃ N:St→Hp→Prop,(∀ σ' H',N σ' H'→∃ m',m' < m∧W (i + 1) m' σ' H')∧∀ x H',(Itt K a).yld i H x H'→g x σ H' fun σ2 H2=>tb { D with nx:=N,ct:=N,bk:=D.nx } σ2 H2):=by
  refine ⟨fun i m σ H=>m=xs.length - i∧i≤xs.length∧Pv i σ H,⟨xs.length,by simp,Nat.zero_le _,h0⟩,?_⟩
  rintro i m σ H ⟨rfl,hi,p⟩
  have q:=hl i σ H hi p
  by_cases hlt:i < xs.length
  · refine .inr ⟨⟨xs,xs[i],q,by simp [hlt]⟩,Pv (i + 1),fun σ' H' p'=>⟨xs.length - (i + 1),by omega,rfl,hlt,p'⟩,fun x H' y=>?_⟩
    obtain ⟨e,y⟩:=y
    subst e
    exact hs i x σ _ (y xs q) p
  · have e:i=xs.length:=by omega
    subst e
    exact .inl ⟨⟨xs,q,Nat.le_refl _⟩,hd σ H p⟩
theorem for_range {lo:Int} {n:Nat} {g:TG} {tb:TS} {D:Ends} {σ:St} {H:Hp} (Pv:Nat→St→Hp→Prop) (h0:Pv 0 σ H)
    (hs:∀ i σ H,i < n→Pv i σ H→g (.int (lo + i)) σ H fun σ2 H2=>tb { D with nx:=Pv (i + 1),ct:=Pv (i + 1),bk:=D.nx } σ2 H2) (hd:∀ σ H,Pv n σ H→D.nx σ H) :
    ∃ W:Nat→Nat→St→Hp→Prop,(∃ m,W 0 m σ H)∧∀ i m σ H,W i m σ H →
      ((Itr lo n).stop i H∧D.nx σ H)∨((Itr lo n).go i H∧∃ N:St→Hp→Prop,(∀ σ' H',N σ' H'→∃ m',m' < m∧W (i + 1) m' σ' H')∧∀ x H',(Itr lo n).yld i H x H'→g x σ H' fun σ2 H2=>tb { D with nx:=N,ct:=N,bk:=D.nx } σ2 H2):=by
  refine ⟨fun i m σ H=>m=n - i∧i≤n∧Pv i σ H,⟨n,by simp,Nat.zero_le _,h0⟩,?_⟩
  rintro i m σ H ⟨rfl,hi,p⟩
  by_cases hlt:i < n
  · refine .inr ⟨hlt,Pv (i + 1),fun σ' H' p'=>⟨n - (i + 1),by omega,rfl,hlt,p'⟩,fun x H' y=>?_⟩
    obtain ⟨e,y⟩:=y
    subst e y
    exact hs i σ _ hlt p
  · have e:i=n:=by omega
    subst e
    exact .inl ⟨Nat.le_refl _,hd σ H p⟩
end L2
namespace L2
open PySem PySem.Spec PyProof.Rows
abbrev R2:=V→V→Hp→VK→Prop
def OpR (X:Cx) (f:Value→Value→Sem Value) (r:R2):Prop :=
  ∀ (pins:List (Addr×Obj)) (s:Shared) (σ:St) (H:Hp) (x y:V) (v u:Value) (Q:VK),Inv X pins σ H s→RelV x v→RelV y u→r x y H Q →
    wpAny (model X.prog X.w) X.A (f v u) (EP X pins σ Q) X.xe s
def UnR (X:Cx) (f:Value→Sem Value) (r:V→Hp→VK→Prop):Prop :=
  ∀ (pins:List (Addr×Obj)) (s:Shared) (σ:St) (H:Hp) (x:V) (v:Value) (Q:VK),Inv X pins σ H s→RelV x v→r x H Q →
    wpAny (model X.prog X.w) X.A (f v) (EP X pins σ Q) X.xe s
def CallR (X:Cx) (f:Value) (r:List V→Hp→VK→Prop):Prop :=
  ∀ (pins:List (Addr×Obj)) (s:Shared) (σ:St) (H:Hp) (xs:List V) (us:List Value) (Q:VK),Inv X pins σ H s→Vals xs us→r xs H Q →
    wpAny (model X.prog X.w) X.A (call f us) (EP X pins σ Q) X.xe s
def TruR (X:Cx) (r:V→Hp→(Bool→Hp→Prop)→Prop):Prop :=
  ∀ (pins:List (Addr×Obj)) (s:Shared) (σ:St) (H:Hp) (x:V) (v:Value) (Q:Bool→Hp→Prop),Inv X pins σ H s→RelV x v→r x H Q →
    wpAny (model X.prog X.w) X.A (truthy v) (TP X pins σ Q) X.xe s
def tOp (r:R2) (ta tb:TE):TE:=fun σ H Q=>ta σ H fun x H1=>tb σ H1 fun y H2=>r x y H2 Q
def tUn (r:V→Hp→VK→Prop) (ta:TE):TE:=fun σ H Q=>ta σ H fun x H1=>r x H1 Q
def rI (C:Int→Int→Prop) (g:Int→Int→V):R2:=fun x y H Q=>∃ i j,x=.int i∧y=.int j∧C i j∧Q (g i j) H
def rI0 (g:Int→Int→V):R2:=fun x y H Q=>∃ i j,x=.int i∧y=.int j∧Q (g i j) H
def rU (g:Int→V):V→Hp→VK→Prop:=fun x H Q=>∃ i,x=.int i∧Q (g i) H
section
variable {X:Cx} {a b c:Expr} {ta tb tc:TE} {pos:Pos}
theorem binT (ha:PE X a ta) (hb:PE X b tb) {pins:List (Addr×Obj)} {s:Shared} {σ:St} {H:Hp} {R:V→V→Hp→Prop} (I:Inv X pins σ H s)
    (h:ta σ H fun x H1=>tb σ H1 fun y H2=>R x y H2) {Q:Value→Shared→Prop} {f:Value→Value→Sem Value}
    (hf:∀ v u s2 x y H2,Inv X pins σ H2 s2→RelV x v→RelV y u→R x y H2→wpAny (model X.prog X.w) X.A (f v u) Q X.xe s2) :
    wpAny (model X.prog X.w) X.A (eval a X.env) (fun v s₁=>wpAny (model X.prog X.w) X.A (eval b X.env) (fun u s₂=>wpAny (model X.prog X.w) X.A (f v u) Q X.xe s₂) X.xe s₁) X.xe s:=by
  refine thn (ha pins s σ H _ I h) fun v s1 ⟨x,H1,I1,r1,q1⟩=>?_
  refine thn (hb pins s1 σ H1 _ I1 q1) fun u s2 ⟨y,H2,I2,r2,q2⟩=>?_
  exact hf v u s2 x y H2 I2 r1 r2 q2
theorem pe_op {op:Operator} {r:R2} (ho:OpR X (binaryOp op) r) (ha:PE X a ta) (hb:PE X b tb):PE X (.BinOp a op b pos) (tOp r ta tb):=by
  intro pins s σ H Q I h
  exact wpAny_BinOp (binT ha hb I h fun v u s2 x y H2 I2 rx ry q=>ho pins s2 σ H2 x y v u Q I2 rx ry q)
theorem pe_un {op:UnaryOp} {r:V→Hp→VK→Prop} (ho:UnR X (unaryOp op) r) (ha:PE X a ta):PE X (.UnaryOp op a pos) (tUn r ta):=by
  intro pins s σ H Q I h
  exact UnaryOp_ (thn (ha pins s σ H _ I h) fun v s1 ⟨x,H1,I1,r1,q1⟩=>ho pins s1 σ H1 x v Q I1 r1 q1)
theorem opI {f:Value→Value→Sem Value} {C:Int→Int→Prop} {g:Int→Int→Int}
    (rule:∀ (i j:Int) (t u:Tok) (s:Shared) (Q:Value→Shared→Prop) (E:Value→Shared→Prop),C i j→Q (.int (g i j) s.toks) { s with toks:=s.toks + 1 }→wpAny (model X.prog X.w) X.A (f (.int i t) (.int j u)) Q E s) :
    OpR X f (rI C fun i j=>.int (g i j)):=by
  intro pins s σ H x y v u Q I rx ry h
  obtain ⟨i,j,rfl,rfl,hc,q⟩:=h
  obtain ⟨t,rfl⟩:=rx
  obtain ⟨t',rfl⟩:=ry
  exact rule i j t t' s _ _ hc ⟨.int (g i j),H,I.tok _,⟨_,rfl⟩,q⟩
theorem opI0 {f:Value→Value→Sem Value} {g:Int→Int→Int}
    (rule:∀ (i j:Int) (t u:Tok) (s:Shared) (Q:Value→Shared→Prop) (E:Value→Shared→Prop),Q (.int (g i j) s.toks) { s with toks:=s.toks + 1 }→wpAny (model X.prog X.w) X.A (f (.int i t) (.int j u)) Q E s) :
    OpR X f (rI0 fun i j=>.int (g i j)):=by
  intro pins s σ H x y v u Q I rx ry h
  obtain ⟨i,j,rfl,rfl,q⟩:=h
  obtain ⟨t,rfl⟩:=rx
  obtain ⟨t',rfl⟩:=ry
  exact rule i j t t' s _ _ ⟨.int (g i j),H,I.tok _,⟨_,rfl⟩,q⟩
theorem opB0 {f:Value→Value→Sem Value} {g:Int→Int→Bool}
    (rule:∀ (i j:Int) (t u:Tok) (s:Shared) (Q:Value→Shared→Prop) (E:Value→Shared→Prop),Q (.bool (g i j)) s→wpAny (model X.prog X.w) X.A (f (.int i t) (.int j u)) Q E s) :
    OpR X f (rI0 fun i j=>.bl (g i j)):=by
  intro pins s σ H x y v u Q I rx ry h
  obtain ⟨i,j,rfl,rfl,q⟩:=h
  obtain ⟨t,rfl⟩:=rx
  obtain ⟨t',rfl⟩:=ry
  exact rule i j t t' s _ _ ⟨.bl (g i j),H,I,rfl,q⟩
def CDiv (i j:Int):Prop:=0 < j∧j < 1073741824
def CPow (i j:Int):Prop:=0≤j∧j≤1000000∧i.natAbs < 2 ^ 64
def CMul (i j:Int):Prop:=(-(2 ^ 64) < i∧i < 2 ^ 64)∨(-(2 ^ 64) < j∧j < 2 ^ 64)
theorem CMul.ok {i j:Int} (h:CMul i j):IntMulOk i j:=by
  rcases h with ⟨h1,h2⟩ | ⟨h1,h2⟩
  · exact .of_left (intBits_le_64 h1 h2)
  · exact .of_right (intBits_le_64 h1 h2)
theorem op_add:OpR X (binaryOp .Add) (rI0 fun i j=>.int (i + j)):=opI0 fun _ _ _ _ _ _ _ q=>add_int q
theorem op_sub:OpR X (binaryOp .Sub) (rI0 fun i j=>.int (i - j)):=opI0 fun _ _ _ _ _ _ _ q=>sub_int q
theorem op_mul:OpR X (binaryOp .Mult) (rI CMul fun i j=>.int (i * j)):=opI fun _ _ _ _ _ _ _ hc q=>mul_int q hc.ok
theorem op_fdiv:OpR X (binaryOp .FloorDiv) (rI CDiv fun i j=>.int (i / j)):=opI fun i j _ _ _ _ _ hc q=>by
  have h1:(0:Int) < j:=hc.1
  have h2:j < 1073741824:=hc.2
  exact floordiv_int (by omega) (by rw [Int.fdiv_eq_ediv_of_nonneg i (by omega)]; exact q) (.inl (PyProof.noPylong_small (by omega)))
theorem op_mod:OpR X (binaryOp .Mod) (rI (fun _ j=>0 < j) fun i j=>.int (i % j)):=opI fun i j _ _ _ _ _ hc q=>by
  have h1:(0:Int) < j:=hc
  exact mod_int' (by omega) (by rw [Int.fmod_eq_emod_of_nonneg i (by omega)]; exact q)
theorem op_pow:OpR X (binaryOp .Pow) (rI CPow fun i j=>.int (i ^ j.toNat)):=opI fun _ _ _ _ _ _ _ hc q=>pow_int_small hc.1 hc.2.1 hc.2.2 q
theorem unI {f:Value→Sem Value} {g:Int→Int}
    (rule:∀ (i:Int) (t:Tok) (s:Shared) (Q:Value→Shared→Prop) (E:Value→Shared→Prop),Q (.int (g i) s.toks) { s with toks:=s.toks + 1 }→wpAny (model X.prog X.w) X.A (f (.int i t)) Q E s) :
    UnR X f (rU fun i=>.int (g i)):=by
  intro pins s σ H x v Q I rx h
  obtain ⟨i,rfl,q⟩:=h
  obtain ⟨t,rfl⟩:=rx
  exact rule i t s _ _ ⟨.int (g i),H,I.tok _,⟨_,rfl⟩,q⟩
theorem un_neg:UnR X (unaryOp .USub) (rU fun i=>.int (-i)):=unI fun _ _ _ _ _ q=>neg_int q
end
def scal:V→V→Bool
  | .non,.non=>true | .non,.int _=>true | .int _,.non=>true | .non,.bl _=>true | .bl _,.non=>true | .non,.str _=>true | .str _,.non=>true
  | .int _,.int _=>true | .bl _,.bl _=>true | .str _,.str _=>true | .byt _,.byt _=>true
  | .int _,.str _=>true | .str _,.int _=>true | .bl _,.str _=>true | .str _,.bl _=>true
  | _,_=>false
def rEq:R2:=fun x y H Q=>scal x y=true∧Q (.bl (decide (x=y))) H
def rNe:R2:=fun x y H Q=>scal x y=true∧Q (.bl (!decide (x=y))) H
theorem dec_int {i j:Int}:decide (V.int i=V.int j)=(i == j):=by
  rw [Bool.eq_iff_iff]
  simp
theorem dec_bl {i j:Bool}:decide (V.bl i=V.bl j)=(i == j):=by
  rw [Bool.eq_iff_iff]
  simp
theorem dec_str {i j:Str}:decide (V.str i=V.str j)=(i == j):=by
  rw [Bool.eq_iff_iff]
  simp
theorem dec_byt {i j:Array UInt8}:decide (V.byt i=V.byt j)=(i.toList == j.toList):=by
  rw [Bool.eq_iff_iff]
  cases i
  cases j
  simp
section
variable {X:Cx} {a b c:Expr} {ta tb tc:TE} {pos:Pos}
theorem fin_bl {pins:List (Addr×Obj)} {σ:St} {H:Hp} {s:Shared} {Q:VK} {k k':Bool} (I:Inv X pins σ H s) (q:Q (.bl k) H) (e:k=k'):EP X pins σ Q (.bool k') s:=by
  subst e
  exact ⟨.bl k,H,I,rfl,q⟩
theorem op_eq:OpR X (compareOp .Eq) rEq:=by
  intro pins s σ H x y v u Q I rx ry h
  obtain ⟨hs,q⟩:=h
  cases x with
  | non =>
    cases rx
    cases y with
    | non=>cases ry; exact PySem.EqNone.eq_none_none (fin_bl I q (by simp))
    | bl j=>cases ry; exact PySem.EqNone.eq_none_bool (fin_bl I q (by simp))
    | int j=>obtain ⟨t',rfl⟩:=ry; exact PySem.EqNone.eq_none_int (fin_bl I q (by simp))
    | str j=>obtain ⟨t',rfl⟩:=ry; exact PySem.EqNone.eq_none_str (fin_bl I q (by simp))
    | _=>exact absurd (show false=true from hs) Bool.false_ne_true
  | bl i =>
    cases rx
    cases y with
    | non=>cases ry; exact PySem.EqNone.eq_bool_none (fin_bl I q (by simp))
    | bl j=>cases ry; exact eq_bool (fin_bl I q dec_bl)
    | str j=>obtain ⟨t',rfl⟩:=ry; exact PySem.EqMixed.eq_bool_str (fin_bl I q (by simp))
    | _=>exact absurd (show false=true from hs) Bool.false_ne_true
  | int i =>
    obtain ⟨t,rfl⟩:=rx
    cases y with
    | non=>cases ry; exact PySem.EqNone.eq_int_none (fin_bl I q (by simp))
    | int j=>obtain ⟨t',rfl⟩:=ry; exact eq_int (fin_bl I q dec_int)
    | str j=>obtain ⟨t',rfl⟩:=ry; exact PySem.EqMixed.eq_int_str (fin_bl I q (by simp))
    | _=>exact absurd (show false=true from hs) Bool.false_ne_true
  | str i =>
    obtain ⟨t,rfl⟩:=rx
    cases y with
    | non=>cases ry; exact PySem.EqNone.eq_str_none (fin_bl I q (by simp))
    | bl j=>cases ry; exact PySem.EqMixed.eq_str_bool (fin_bl I q (by simp))
    | int j=>obtain ⟨t',rfl⟩:=ry; exact PySem.EqMixed.eq_str_int (fin_bl I q (by simp))
    | str j=>obtain ⟨t',rfl⟩:=ry; exact eq_str (fin_bl I q dec_str)
    | _=>exact absurd (show false=true from hs) Bool.false_ne_true
  | byt i =>
    obtain ⟨t,rfl⟩:=rx
    cases y with
    | byt j=>obtain ⟨t',rfl⟩:=ry; exact PySem.W.eq_bytes (fin_bl I q dec_byt)
    | _=>exact absurd (show false=true from hs) Bool.false_ne_true
  | _=>cases y <;> exact absurd (show false=true from hs) Bool.false_ne_true
theorem op_ne:OpR X (compareOp .NotEq) rNe:=by
  intro pins s σ H x y v u Q I rx ry h
  obtain ⟨hs,q⟩:=h
  cases x with
  | non =>
    cases rx
    cases y with
    | non=>cases ry; exact PySem.EqNone.ne_none_none (fin_bl I q (by simp))
    | bl j=>cases ry; exact PySem.EqNone.ne_none_bool (fin_bl I q (by simp))
    | int j=>obtain ⟨t',rfl⟩:=ry; exact PySem.EqNone.ne_none_int (fin_bl I q (by simp))
    | str j=>obtain ⟨t',rfl⟩:=ry; exact PySem.EqNone.ne_none_str (fin_bl I q (by simp))
    | _=>exact absurd (show false=true from hs) Bool.false_ne_true
  | bl i =>
    cases rx
    cases y with
    | non=>cases ry; exact PySem.EqNone.ne_bool_none (fin_bl I q (by simp))
    | bl j=>cases ry; exact ne_bool (fin_bl I q (congrArg not dec_bl))
    | str j=>obtain ⟨t',rfl⟩:=ry; exact PySem.EqMixed.ne_bool_str (fin_bl I q (by simp))
    | _=>exact absurd (show false=true from hs) Bool.false_ne_true
  | int i =>
    obtain ⟨t,rfl⟩:=rx
    cases y with
    | non=>cases ry; exact PySem.EqNone.ne_int_none (fin_bl I q (by simp))
    | int j=>obtain ⟨t',rfl⟩:=ry; exact ne_int (fin_bl I q (congrArg not dec_int))
    | str j=>obtain ⟨t',rfl⟩:=ry; exact PySem.EqMixed.ne_int_str (fin_bl I q (by simp))
    | _=>exact absurd (show false=true from hs) Bool.false_ne_true
  | str i =>
    obtain ⟨t,rfl⟩:=rx
    cases y with
    | non=>cases ry; exact PySem.EqNone.ne_str_none (fin_bl I q (by simp))
    | bl j=>cases ry; exact PySem.EqMixed.ne_str_bool (fin_bl I q (by simp))
    | int j=>obtain ⟨t',rfl⟩:=ry; exact PySem.EqMixed.ne_str_int (fin_bl I q (by simp))
    | str j=>obtain ⟨t',rfl⟩:=ry; exact ne_str (fin_bl I q (congrArg not dec_str))
    | _=>exact absurd (show false=true from hs) Bool.false_ne_true
  | byt i =>
    obtain ⟨t,rfl⟩:=rx
    cases y with
    | byt j=>obtain ⟨t',rfl⟩:=ry; exact PySem.W.ne_bytes (fin_bl I q (congrArg not dec_byt))
    | _=>exact absurd (show false=true from hs) Bool.false_ne_true
  | _=>cases y <;> exact absurd (show false=true from hs) Bool.false_ne_true
theorem op_lt:OpR X (compareOp .Lt) (rI0 fun i j=>.bl (decide (i < j))):=opB0 fun _ _ _ _ _ _ _ q=>lt_int q
theorem op_gt:OpR X (compareOp .Gt) (rI0 fun i j=>.bl (decide (j < i))):=opB0 fun _ _ _ _ _ _ _ q=>gt_int q
theorem nomark (b:Expr) {op:CmpOp} (h:op≠.In:=by decide) (h2:op≠.NotIn:=by decide):behindInMarks op b=false:=by
  have e1:(op == CmpOp.In)=false:=by cases op <;> first | rfl | exact absurd rfl h
  have e2:(op == CmpOp.NotIn)=false:=by cases op <;> first | rfl | exact absurd rfl h2
  cases b <;> simp [behindInMarks,e1,e2]
theorem pe_cmpR {op:CmpOp} {r:R2} (ho:OpR X (compareOp op) r) (ha:PE X a ta) (hb:PE X b tb) (hm:behindInMarks op b=false):PE X (.Compare a [op] [b] pos) (tOp r ta tb):=by
  intro pins s σ H Q I h
  exact wpAny_Compare1 (binT ha hb I h fun v u s2 x y H2 I2 rx ry q=>ho pins s2 σ H2 x y v u Q I2 rx ry q) hm
def tTest (t:TE):TT:=fun σ H Q=>t σ H fun x H'=>∃ k,x=.bl k∧Q k H'
theorem pt_cmpR {op:CmpOp} {r:R2} (ho:OpR X (compareOp op) r) (ha:PE X a ta) (hb:PE X b tb) (hm:behindInMarks op b=false):PT X (.Compare a [op] [b] pos) (tTest (tOp r ta tb)):=by
  intro pins s σ H Q I h
  refine wpAny_isTrue_Compare1 (thn (ha pins s σ H _ I h) fun v s1 ⟨x,H1,I1,r1,q1⟩=>thn (hb pins s1 σ H1 _ I1 q1) fun u s2 ⟨y,H2,I2,r2,q2⟩ =>
    thn (ho pins s2 σ H2 x y v u _ I2 r1 r2 q2) fun c s3 ⟨z,H3,I3,r3,k,e,q3⟩=>?_) hm
  subst e
  cases r3
  exact wpAny_truthy_bool ⟨H3,I3,q3⟩
def TruV (K:PySem.W.Frag) (x:V) (H:Hp) (k:Bool):Prop :=
  match x with
  | .non=>k=false
  | .bl b=>k=b
  | .int i=>k=(i != 0)
  | .str y=>y.length≤sizeLine∧k=((y.length:Int) != 0)
  | .byt y=>y.size≤sizeLine∧k=((y.size:Int) != 0)
  | .ref p=>(∃ xs,SqL K H p xs∧k=!xs.isEmpty)∨(∃ xs,SqT K H p xs∧k=!xs.isEmpty)∨∃ kvs,H p=some (.dK kvs)∧k=!kvs.isEmpty
  | _=>False
theorem isEmpty_kv {κ:Type} {kvs:List (κ×V)} {vs:List (κ×Value)} (r:KV kvs vs):(!vs.isEmpty)=!kvs.isEmpty:=by
  cases r <;> rfl
theorem isEmpty_of {xs:List V} {its:List Value} (r:Vals xs its):(!its.toArray.isEmpty)=!xs.isEmpty:=by
  cases r <;> simp
theorem line63:(sizeLine:Nat) < 2 ^ 63:=by rw [sizeLine_eq]; decide
theorem tru_ok:TruR X (fun x H Q=>∃ k,TruV X.K x H k∧Q k H):=by
  intro pins s σ H x v Q I rx h
  obtain ⟨k,e,q⟩:=h
  have hl:=line63
  have hs:sizeLine=16777216:=sizeLine_eq
  cases x with
  | non =>
    cases rx
    have e':k=false:=e
    subst e'
    exact truthy_none ⟨H,I,q⟩
  | bl b =>
    cases rx
    have e':k=b:=e
    subst e'
    exact wpAny_truthy_bool ⟨H,I,q⟩
  | int i =>
    obtain ⟨t,rfl⟩:=rx
    have e':k=(i != 0):=e
    subst e'
    exact PySem.P.truthy_int ⟨H,I,q⟩
  | str y =>
    obtain ⟨t,rfl⟩:=rx
    obtain ⟨hy,e'⟩:y.length≤sizeLine∧k=((y.length:Int) != 0):=e
    subst e'
    exact PySem.P.truthy_str (by omega) ⟨H,I.tok _,q⟩
  | byt y =>
    obtain ⟨t,rfl⟩:=rx
    obtain ⟨hy,e'⟩:y.size≤sizeLine∧k=((y.size:Int) != 0):=e
    subst e'
    exact PySem.W.truthy_bytes (by omega) ⟨H,I.tok _,q⟩
  | ref p =>
    cases rx
    have e':(∃ xs,SqL X.K H p xs∧k=!xs.isEmpty)∨(∃ xs,SqT X.K H p xs∧k=!xs.isEmpty)∨∃ kvs,H p=some (.dK kvs)∧k=!kvs.isEmpty:=e
    rcases e' with ⟨xs,hx,e'⟩ | ⟨xs,hx,e'⟩ | ⟨kvs,hx,e'⟩
    · subst e'
      obtain ⟨its,r,pl,hz⟩:=I.list hx
      have hlen:=r.length
      exact wpAny_truthy_list pl.isList (by simp only [List.size_toArray]; omega) ⟨H,I.tok _,by rw [isEmpty_of r]; exact q⟩
    · subst e'
      obtain ⟨its,r,pl,hz⟩:=I.tuple hx
      have hlen:=r.length
      exact truthy_tuple pl (by simp only [List.size_toArray]; omega) ⟨H,I.tok _,by rw [isEmpty_of r]; exact q⟩
    · subst e'
      obtain ⟨hz,hS,vs,r,m⟩:kvs.length≤sizeLine∧(p == sysModules)=false∧∃ vs,KV kvs vs∧s.heap.DictOf (mixKind X.prog X.w) p vs:=I.hok p _ hx
      have hlen:kvs.length=vs.length:=Paired.length r
      exact wpAny_truthy_dict hS m (by omega) ⟨H,I.tok _,by rw [isEmpty_kv r]; exact q⟩
  | _=>exact (show False from e).elim
theorem pt_truth (ha:PE X a ta) (he:∀ whole,isTrue a X.env whole=(do let v ← whole; standAt a.pos; holding [v] (truthy v))) :
    PT X a (fun σ H Q=>ta σ H fun x H'=>∃ k,TruV X.K x H' k∧Q k H'):=by
  intro pins s σ H Q I h
  exact isTrue_plain (thn (ha pins s σ H _ I h) fun v s1 ⟨x,H1,I1,r1,q1⟩=>tru_ok pins s1 σ H1 x v Q I1 r1 q1) (he _)
theorem vals1 {x:V} {us:List Value} (r:Vals [x] us):∃ u,us=[u]∧RelV x u:=by
  cases r with
  | cons r1 r2=>cases r2; exact ⟨_,rfl,r1⟩
theorem vals2 {x y:V} {us:List Value} (r:Vals [x,y] us):∃ u w',us=[u,w']∧RelV x u∧RelV y w':=by
  cases r with
  | cons r1 r2 =>
    cases r2 with
    | cons r3 r4=>cases r4; exact ⟨_,_,rfl,r1,r3⟩
theorem call_max2 (hc:X.calm=true):CallR X (.builtin "max") (fun xs H Q=>∃ i j,xs=[.int i,.int j]∧Q (.int (if j > i then j else i)) H):=by
  intro pins s σ H xs us Q I r h
  obtain ⟨i,j,rfl,q⟩:=h
  obtain ⟨u,w',rfl,⟨t,rfl⟩,⟨t',rfl⟩⟩:=vals2 r
  refine max_two_ints (I.ok.hd hc) fun h' tk k=>⟨_,H,I.kept k,?_,q⟩
  by_cases hj:j > i
  · rw [if_pos hj,if_pos hj]; exact ⟨_,rfl⟩
  · rw [if_neg hj,if_neg hj]; exact ⟨_,rfl⟩
theorem call_min2 (hc:X.calm=true):CallR X (.builtin "min") (fun xs H Q=>∃ i j,xs=[.int i,.int j]∧Q (.int (if j < i then j else i)) H):=by
  intro pins s σ H xs us Q I r h
  obtain ⟨i,j,rfl,q⟩:=h
  obtain ⟨u,w',rfl,⟨t,rfl⟩,⟨t',rfl⟩⟩:=vals2 r
  refine min_two_ints (I.ok.hd hc) fun h' tk k=>⟨_,H,I.kept k,?_,q⟩
  by_cases hj:j < i
  · rw [if_pos hj,if_pos hj]; exact ⟨_,rfl⟩
  · rw [if_neg hj,if_neg hj]; exact ⟨_,rfl⟩
theorem call_int1:CallR X (.type "int") (fun xs H Q=>(∃ i,xs=[.int i]∧Q (.int i) H)∨∃ k,xs=[.bl k]∧Q (.int (if k then 1 else 0)) H):=by
  intro pins s σ H xs us Q I r h
  rcases h with ⟨i,rfl,q⟩ | ⟨k,rfl,q⟩
  · obtain ⟨u,rfl,t,rfl⟩:=vals1 r
    exact call_int_int ⟨.int i,H,I,⟨_,rfl⟩,q⟩
  · obtain ⟨u,rfl,r1⟩:=vals1 r
    cases r1
    exact call_int_bool ⟨.int (if k then 1 else 0),H,I.tok _,⟨_,rfl⟩,q⟩
end
end L2
namespace L2
open PySem PySem.Spec PyProof.Rows
structure ObjM (h:Heap) (x dx C:Addr) (mA:Str→Option Value):Prop where
  obj:h.get? x=some (PySem.W.instObj C dx)
  ns:h.Ns1 dx mA
  ne:dx≠x
theorem lookIn_ns {h:Heap} {dx:Addr} {mA:Str→Option Value} (n:h.Ns1 dx mA):∃ od,h.get? dx=some od∧∀ name,PySem.W.lookIn name od=some (mA name):=by
  obtain ⟨o,es,ep,ho,hd,hk,_,hm⟩:=n
  refine ⟨o,ho,fun name=>?_⟩
  have e:=hm name
  unfold nsFind findBy at e
  rw [← Array.find?_toList] at e
  unfold PySem.W.lookIn
  rw [hd]
  dsimp only
  split
  · rename_i y q
    rw [q] at e
    exact congrArg some e
  · rename_i q
    rw [q] at e
    have a:es.toList.any (·.refKey)=false:=by
      rw [List.any_eq_false]
      intro y hy
      obtain ⟨z,t,hkey⟩:=hk y (Array.mem_toList_iff.mp hy)
      simp [DictEntry.refKey,hkey]
    have a':¬ es.toList.any (·.refKey)=true:=by rw [a]; exact Bool.false_ne_true
    rw [if_neg a']
    exact congrArg some e
theorem ObjM.look {h:Heap} {x dx C:Addr} {mA:Str→Option Value} (I:ObjM h x dx C mA):∃ od,PySem.W.InstAt h x (PySem.W.instObj C dx) C (some od)∧∀ name,PySem.W.lookIn name od=some (mA name) :=
  let ⟨od,ho,hl⟩:=lookIn_ns I.ns
  ⟨od,⟨I.obj,rfl,rfl,ho⟩,hl⟩
section
variable {prog:Program} {w:World} {A:Around} {E:Value→Shared→Prop} {s:Shared} {K:PySem.W.Frag} {x dx C f:Addr} {mA:Str→Option Value} {name:Str} {v:Value}
theorem get_map {expr:Bool} {Q:Value→Shared→Prop} (X:K.In s.heap) (I:ObjM s.heap x dx C mA) (hg:PySem.W.plainGet K C name=true) (hh:PySem.W.hasDictIn K C=true)
    (ha:PySem.W.findIn K (.ref C) name=some none) (hv:mA name=some v) (hv':PySem.W.handedIn v=true) (h:Q v { s with toks:=s.toks + 1 }) :
    wpAny (model prog w) A (getAttr (.ref x) name expr) Q E s:=by
  obtain ⟨od,J,hl⟩:=I.look
  exact PySem.W.get_value X J (PySem.W.plainGet_of hg).1 (PySem.W.findObj_own hh ha rfl (by rw [hl,hv])) hv' h
theorem get_meth {pl:Sem Bool} {Q:Value×List Value→Shared→Prop} (X:K.In s.heap) (I:ObjM s.heap x dx C mA) (hg:PySem.W.plainGet K C name=true)
    (hf:PySem.W.findIn K (.ref C) name=some (some (.ref f))) (ht:PySem.W.isFn K (.ref f)=true) (hv:mA name=none) (h:Q (.ref f,[.ref x]) s) :
    wpAny (model prog w) A (getMethod (.ref x) name pl) Q E s:=by
  obtain ⟨od,J,hl⟩:=I.look
  exact PySem.W.method_fn X J (PySem.W.plainGet_of hg).1 (PySem.W.plainGet_of hg).2 hf (beq_iff_eq.mp ht) (by show (PySem.W.lookIn name od).map (·.isSome)=some false; rw [hl,hv]; rfl) h
theorem set_map {ns:List Str} {Q:Unit→Shared→Prop} (X:K.In s.heap) (I:ObjM s.heap x dx C mA)
    (hs:PySem.W.findIn K (.ref C) "__setattr__"=some (some (.builtin "object.__setattr__"))) (hp:PySem.W.plainOver K C=true) (ht:PySem.W.takerIn K C name=some none) (hh:PySem.W.hasDictIn K C=true)
    (hw:PySem.Within mA ns) (hsz:ns.length≤sizeLine)
    (h:∀ h',ObjM h' x dx C (fun y=>if y=name then some v else mA y)→Heap.SameBut dx s.heap h'→Q () { s with heap:=h',toks:=s.toks + 2 }) :
    wpAny (model prog w) A (setAttr (.ref x) name v) Q E s:=by
  obtain ⟨od,J,hl⟩:=I.look
  refine PySem.W.set_plain X J hs (PySem.W.osa_open (s:={ s with toks:=s.toks + 1 }) (r:=none) X J hp ht fun b=>?_)
  obtain ⟨cd,hc,hd'⟩:=PySem.W.any_some hh
  have hx:s.heap.get? x=some ⟨.ref C,some dx,.plain,#[]⟩:=I.obj
  refine wpAny_bind (wpAny_pure (wpAny_bind (wpAny_bind (wpAny_loadPart hx (wpAny_bind (PySem.W.Looks.here (s:={ s with toks:=s.toks + 1 }) (PySem.W.looks_clsIn X hc) ?_))))))
  rw [hd']
  refine wpAny_pure (a:=some dx) (wpAny_bind (wpAny_pure (wpAny_bind ?_)))
  refine wpAny_nsSet1 (s:={ s with toks:=s.toks + 1 }) I.ns fun h' hn2 hs2=>?_
  obtain ⟨oD,esD,epD,hoD,hdD,hcD⟩:=hn2.count (PySem.Within.cons name v hw)
  refine wpAny_bind (wpAny_lookBehind hoD (by rw [hdD]; exact pastItsLine_dict (Nat.le_trans hcD (by rw [List.length_cons]; omega))) ?_)
  exact wpAny_pure (h _ ⟨(hs2.2 _ (Ne.symm I.ne)).trans I.obj,hn2,I.ne⟩ hs2)
theorem make_map {R:Result→Shared→Prop} {vs:List Value} {kw:List (Str×Value)} (X:K.In s.heap) (hm:PySem.W.makesIn K C=true)
    (hi:PySem.W.findIn K (.ref C) "__init__"=some (some (.ref f))) (hf:PySem.W.typeIn K (.ref f)=some (.type "function"))
    (h:codeAny (model prog w) (A.under (.builtin "type.__call__" ⟨.ref C :: vs,kw⟩)) (.call (.ref f) ⟨.ref (s.heap.objs.size + 1) :: vs,kw⟩) (PySem.W.InitBack (s.heap.objs.size + 1) R)
      { s with heap:=(s.heap.push PySem.W.emptyDict).push (PySem.W.instObj C s.heap.objs.size) }) :
    codeAny (model prog w) A (.call (.ref C) ⟨vs,kw⟩) R s:=by
  obtain ⟨hh,g,d,t,os⟩:=s
  exact PySem.W.make_core (PySem.W.makes_of X hm) (PySem.W.looks_findIn X hi) (fun self=>PySem.W.bind_fn X self hf) (.inl rfl) h
end
def putF (f:Str) (v:V):List (Str×V)→List (Str×V)
  | []=>[(f,v)]
  | (g,x) :: r=>if g=f then (g,v) :: r else (g,x) :: putF f v r
theorem lookup_putF (f g:Str) (v:V):∀ fs:List (Str×V),(putF f v fs).lookup g=if g=f then some v else fs.lookup g
  | []=>by
    show List.lookup g [(f,v)]=_
    by_cases h:g=f
    · have hb:(g == f)=true:=beq_iff_eq.mpr h
      simp only [List.lookup,hb,if_pos h]
    · have hb:(g == f)=false:=beq_eq_false_iff_ne.mpr h
      simp only [List.lookup,hb,if_neg h]
  | (k,x) :: r=>by
    have ih:=lookup_putF f g v r
    rw [show putF f v ((k,x) :: r)=(if k=f then (k,v) :: r else (k,x) :: putF f v r) from rfl]
    by_cases hk:k=f
    · rw [if_pos hk]
      by_cases h:g=k
      · have hb:(g == k)=true:=beq_iff_eq.mpr h
        simp only [List.lookup,hb,if_pos (h.trans hk)]
      · have hb:(g == k)=false:=beq_eq_false_iff_ne.mpr h
        simp only [List.lookup,hb,if_neg (fun e:g=f=>h (e.trans hk.symm))]
    · rw [if_neg hk]
      by_cases h:g=k
      · have hb:(g == k)=true:=beq_iff_eq.mpr h
        simp only [List.lookup,hb,if_neg (fun e:g=f=>hk (h.symm.trans e))]
      · have hb:(g == k)=false:=beq_eq_false_iff_ne.mpr h
        simp only [List.lookup,hb]
        exact ih
theorem keys_putF (f:Str) (v:V):∀ fs:List (Str×V),f∈(putF f v fs).map (·.1)∧∀ g,g∈fs.map (·.1)→g∈(putF f v fs).map (·.1)
  | []=>⟨by simp [putF],fun g h=>by simp at h⟩
  | (k,x) :: r=>by
    obtain ⟨i1,i2⟩:=keys_putF f v r
    rw [show putF f v ((k,x) :: r)=(if k=f then (k,v) :: r else (k,x) :: putF f v r) from rfl]
    by_cases hk:k=f
    · rw [if_pos hk]
      subst hk
      exact ⟨by simp,fun g h=>by simpa using h⟩
    · rw [if_neg hk]
      refine ⟨?_,fun g h=>?_⟩
      · rw [List.map_cons]
        exact List.mem_cons_of_mem _ i1
      · rw [List.map_cons] at h ⊢
        rcases List.mem_cons.mp h with e | e
        · exact List.mem_cons.mpr (.inl e)
        · exact List.mem_cons_of_mem _ (i2 g e)
theorem length_putF (f:Str) (v:V):∀ fs:List (Str×V),(putF f v fs).length≤fs.length + 1
  | []=>by simp [putF]
  | (k,x) :: r=>by
    have ih:=length_putF f v r
    rw [show putF f v ((k,x) :: r)=(if k=f then (k,v) :: r else (k,x) :: putF f v r) from rfl]
    by_cases hk:k=f
    · rw [if_pos hk,List.length_cons,List.length_cons]; omega
    · rw [if_neg hk,List.length_cons,List.length_cons]; omega
theorem RelO.some_of {v:V} {o:Option Value} (r:RelO (some v) o):∃ u,o=some u∧RelV v u:=by
  cases o with
  | none=>exact (show False from r).elim
  | some u=>exact ⟨u,rfl,r⟩
theorem RelO.none_of {o:Option Value} (r:RelO none o):o=none:=by
  cases o with
  | none=>rfl
  | some u=>exact (show False from r).elim
theorem handed_of {v:V} {u:Value} (r:RelV v u):PySem.W.handedIn u=true:=by
  cases v with
  | non=>cases (show u=Value.none from r); rfl
  | bl b=>cases (show u=Value.bool b from r); rfl
  | int i=>obtain ⟨t,e⟩:=(show ∃ t,u=Value.int i t from r); cases e; rfl
  | str x=>obtain ⟨t,e⟩:=(show ∃ t,u=Value.str x t from r); cases e; rfl
  | byt b=>obtain ⟨t,e⟩:=(show ∃ t,u=Value.bytes b t from r); cases e; rfl
  | flt b=>obtain ⟨t,e⟩:=(show ∃ t,u=Value.float b t from r); cases e; rfl
  | ref a=>cases (show u=Value.ref a from r); rfl
  | ty n=>cases (show u=Value.type n from r); rfl
section
variable {P:Program} {w:World} {H H':Hp} {h h':Heap} {a C dx:Addr} {fs fs':List (Str×V)}
theorem ins_get (hok:HOk P w H h) (e:H a=some (.ins C dx fs)):∃ mA,ObjM h a dx C mA∧(∀ f,RelO (fs.lookup f) (mA f))∧PySem.Within mA (fs.map (·.1))∧fs.length≤1000∧H dx=some (.own a):=by
  obtain ⟨d,z,ne,ob,mA,n,r,q⟩:=(show ObjOk P w H h a (.ins C dx fs) from hok a _ e)
  exact ⟨mA,⟨ob,n,ne⟩,r,q,z,d⟩
end
structure Cls (K:PySem.W.Frag) (C:Addr):Prop where
  pg:PySem.W.plainGet K C Str.empty=true
  hd:PySem.W.hasDictIn K C=true
  po:PySem.W.plainOver K C=true
  sa:PySem.W.findIn K (.ref C) "__setattr__"=some (some (.builtin "object.__setattr__"))
theorem Cls.get {K:PySem.W.Frag} {C:Addr} (c:Cls K C) (f:Str):PySem.W.plainGet K C f=true:=c.pg
def NoAttr (K:PySem.W.Frag) (C:Addr) (f:Str):Prop:=PySem.W.findIn K (.ref C) f=some none
theorem NoAttr.taker {K:PySem.W.Frag} {C:Addr} {f:Str} (n:NoAttr K C f):PySem.W.takerIn K C f=some none:=by
  unfold PySem.W.takerIn
  rw [show PySem.W.findIn K (.ref C) f=some none from n]
  rfl
structure Meth (K:PySem.W.Frag) (C:Addr) (m:Str) (f:Addr):Prop where
  at_:PySem.W.findIn K (.ref C) m=some (some (.ref f))
  fn:PySem.W.isFn K (.ref f)=true
  kp:PySem.W.keepIn K (.ref f)=true
section
variable {X:Cx} {pins:List (Addr×Obj)} {σ:St} {H:Hp} {s:Shared} {a C dx:Addr} {fs:List (Str×V)} {f:Str} {v:V} {A:Around} {E:Value→Shared→Prop}
theorem getattr_ok {b:Bool} {Q:Value→Shared→Prop} (I:Inv X pins σ H s) (e:H a=some (.ins C dx fs)) (c:Cls X.K C) (n:NoAttr X.K C f) (l:fs.lookup f=some v)
    (h:∀ u s',Inv X pins σ H s'→RelV v u→Q u s'):wpAny (model X.prog X.w) A (getAttr (.ref a) f b) Q E s:=by
  obtain ⟨mA,O,r,_,_,_⟩:=ins_get I.hok e
  obtain ⟨u,hu,ru⟩:=RelO.some_of (v:=v) (o:=mA f) (by rw [← l]; exact r f)
  exact get_map I.kIn O (c.get f) c.hd n hu (handed_of ru) (h u _ (I.tok _) ru)
theorem getmeth_ok {m:Str} {g:Addr} {pl:Sem Bool} {Q:Value×List Value→Shared→Prop} (I:Inv X pins σ H s) (e:H a=some (.ins C dx fs)) (c:Cls X.K C) (k:Meth X.K C m g) (l:fs.lookup m=none)
    (h:Q (.ref g,[.ref a]) s):wpAny (model X.prog X.w) A (getMethod (.ref a) m pl) Q E s:=by
  obtain ⟨mA,O,r,_,_,_⟩:=ins_get I.hok e
  have hn:mA m=none:=RelO.none_of (by rw [← l]; exact r m)
  exact get_meth I.kIn O (c.get m) k.at_ k.fn hn h
theorem setattr_ok {y:V} {u:Value} {Q:Unit→Shared→Prop} (I:Inv X pins σ H s) (e:H a=some (.ins C dx fs)) (c:Cls X.K C) (n:NoAttr X.K C f) (hl:fs.length < 1000) (ry:RelV y u)
    (h:∀ s',Inv X pins σ (upd H a (.ins C dx (putF f y fs))) s'→Q () s'):wpAny (model X.prog X.w) A (setAttr (.ref a) f u) Q E s:=by
  obtain ⟨mA,O,r,wi,_,ho⟩:=ins_get I.hok e
  have hz:(fs.map (·.1)).length≤sizeLine:=by rw [List.length_map,sizeLine_eq]; omega
  refine set_map I.kIn O c.sa c.po n.taker c.hd wi hz fun h' O' sb=>h _ ?_
  have hd:∃ o,h'.get? dx=some o:=let ⟨o,_,_,e',_⟩:=O'.ns; ⟨o,e'⟩
  refine I.write (x:=a) (e:=dx) (by rw [e]; exact True.intro) (.inr ho) (fun b q hb z=>(sb.2 b hb).trans z) hd ?_
  refine ⟨by rw [upd_ne O.ne]; exact ho,?_,O.ne,O'.obj,_,O'.ns,fun g=>?_,fun g hg=>?_⟩
  · have:=length_putF f y fs; omega
  · show RelO ((putF f y fs).lookup g) (if g=f then some u else mA g)
    rw [lookup_putF]
    by_cases q:g=f
    · rw [if_pos q,if_pos q]; exact ry
    · rw [if_neg q,if_neg q]; exact r g
  · by_cases q:g=f
    · rw [q]; exact (keys_putF f y fs).1
    · refine (keys_putF f y fs).2 g (wi g fun z=>hg ?_)
      show (if g=f then some u else mA g)=none
      rw [if_neg q]; exact z
theorem Inv.made (I:Inv X pins σ H s):Inv X pins σ (upd (upd H s.heap.objs.size (.own (s.heap.objs.size + 1))) (s.heap.objs.size + 1) (.ins C s.heap.objs.size []))
    { s with heap:=(s.heap.push PySem.W.emptyDict).push (PySem.W.instObj C s.heap.objs.size) }:=by
  have e1:(s.heap.push PySem.W.emptyDict).get? s.heap.objs.size=some PySem.W.emptyDict:=Heap.get?_push_size s.heap rfl
  have e2:((s.heap.push PySem.W.emptyDict).push (PySem.W.instObj C s.heap.objs.size)).get? (s.heap.objs.size + 1)=some (PySem.W.instObj C s.heap.objs.size):=by
    have:=Heap.get?_push_size (s.heap.push PySem.W.emptyDict) (o:=PySem.W.instObj C s.heap.objs.size) rfl
    rwa [Heap.size_push] at this
  have e3:(s.heap.push PySem.W.emptyDict).Ns s.heap.objs.size (fun _=>none):=⟨PySem.W.emptyDict,#[],_,e1,rfl,(fun e he=>absurd he (by simp)),fun _=>rfl⟩
  have I1:=I.laid (a:=s.heap.objs.size) (o:=.own (s.heap.objs.size + 1)) (h':=s.heap.push PySem.W.emptyDict) (t':=s.toks) (fun b u q=>Heap.get?_push_of_some _ q) (Nat.le_refl _) ⟨_,e1⟩
  refine I1.laid (a:=s.heap.objs.size + 1) (o:=.ins C s.heap.objs.size []) (t':=s.toks) (fun b u q=>Heap.get?_push_of_some _ q) (Nat.le_of_eq (Heap.size_push _ _)) ?_
  have ne:s.heap.objs.size≠s.heap.objs.size + 1:=Nat.ne_of_lt (Nat.lt_succ_self _)
  refine ⟨by rw [upd_ne ne,upd_same],Nat.zero_le _,ne,e2,fun _=>none,(Heap.Ns1.of_empty e3).at fun o q=>Heap.get?_push_of_some _ q,fun _=>True.intro,fun y hy=>absurd rfl hy⟩
theorem attr_of {prog:Program} {w:World} {env:Env} {e:Expr} {f:Str} {pos:Pos} {s:Shared} {Q:Value→Shared→Prop} (hb:attributeBase e f env (eval e env)=eval e env)
    (h:wpAny (model prog w) A (eval e env) (fun o s₁=>wpAny (model prog w) A (getAttr o f true) Q E s₁) E s):wpAny (model prog w) A (eval (.Attribute e f pos) env) Q E s :=
  Attribute_any_ h (by rw [arm_eval_Attribute,hb])
end
def tFld (K:PySem.W.Frag) (ta:TE) (f:Str):TE:=fun σ H Q=>ta σ H fun x H1=>∃ a C dx fs v,x=.ref a∧H1 a=some (.ins C dx fs)∧Cls K C∧NoAttr K C f∧fs.lookup f=some v∧Q v H1
def sFld (K:PySem.W.Frag) (ta tv:TE) (f:Str):TS:=fun D σ H=>tv σ H fun y H1=>ta σ H1 fun x H2=>∃ a C dx fs,x=.ref a∧H2 a=some (.ins C dx fs)∧Cls K C∧NoAttr K C f∧fs.length < 1000 ∧
  D.nx σ (upd H2 a (.ins C dx (putF f y fs)))
section
variable {X:Cx} {o e value:Expr} {f:Str} {pos pos' tpos:Pos} {ta tv:TE}
theorem pe_fld (he:PE X e ta) (hb:attributeBase e f X.env (eval e X.env)=eval e X.env):PE X (.Attribute e f pos) (tFld X.K ta f):=by
  intro pins s σ H Q I h
  refine attr_of hb (thn (he pins s σ H _ I h) fun u s1 ⟨x,H1,I1,rx,a,C,dx,fs,v,ex,ea,c,n,l,q⟩=>?_)
  subst ex
  obtain rfl:u=Value.ref a:=rx
  exact getattr_ok I1 ea c n l fun u' s2 I2 ru=>⟨v,H1,I2,ru,q⟩
theorem ps_fld (ha:PE X o ta) (hv:PE X value tv) (hs:swapsWith value (some (.Attribute o f pos')) pos.line X.env=pure false):PS X (.Assign [.Attribute o f pos'] value pos) (sFld X.K ta tv f):=by
  intro pins s σ H D I h
  refine plainObj_wpAny_Assign_Attribute (thn (hv pins s σ H _ I h) fun u s1 ⟨y,H1,I1,ry,q⟩=>thn (ha pins s1 σ H1 _ I1 q) fun ov s2 ⟨x,H2,I2,rx,a,C,dx,fs,ex,ea,c,n,l,q2⟩=>?_) hs
  subst ex
  obtain rfl:ov=Value.ref a:=rx
  exact setattr_ok I2 ea c n l ry fun s3 I3=>⟨σ,_,I3,q2⟩
end
section
variable {X:Cx} {pins:List (Addr×Obj)} {σ:St} {H:Hp} {s:Shared} {A:Around} {E:Value→Shared→Prop} {Q:Value→Shared→Prop} {c:Value} {b:Bool}
inductive TyOf (K:PySem.W.Frag) (H:Hp):V→Value→Prop where
  | non:TyOf K H .non (.type "NoneType")
  | bl (x:Bool):TyOf K H (.bl x) (.type "bool")
  | int (i:Int):TyOf K H (.int i) (.type "int")
  | str (x:Str):TyOf K H (.str x) (.type "str")
  | flt (x:UInt64):TyOf K H (.flt x) (.type "float")
  | lst {a:Addr} {xs:List V} (e:H a=some (.lst xs)):TyOf K H (.ref a) (.type "list")
  | frz {a:Addr} {o:Obj} {xs:List V} (e:H a=some (.frz o (.lst xs))):TyOf K H (.ref a) (.type "list")
  | tup {a:Addr} {xs:List V} (e:H a=some (.tup xs)):TyOf K H (.ref a) (.type "tuple")
  | dK {a:Addr} {kvs:List (Key×V)} (e:H a=some (.dK kvs)):TyOf K H (.ref a) (.type "dict")
  | dT {a:Addr} {kvs:List (List Key×V)} (e:H a=some (.dT kvs)):TyOf K H (.ref a) (.type "dict")
  | ins {a C dx:Addr} {fs:List (Str×V)} (e:H a=some (.ins C dx fs)) (cl:Cls K C) (ha:PySem.W.findIn K (.ref C) "__class__"=some (some (.builtin "object.__class__")))
      (hn:PySem.W.specialIn K (.builtin "object.__class__") "__get__"=some (some (.builtin "getset_descriptor.__get__"))) (htk:PySem.W.takesIn K (.builtin "object.__class__")=some true)
      (hm:PySem.W.mroIn K C (.type "object")=some true):TyOf K H (.ref a) (.ref C)
theorem isinst_ok {x:V} {u t:Value} (I:Inv X pins σ H s) (rx:RelV x u) (ty:TyOf X.K H x t) (e:PySem.W.kitOne X.K t c=some b) (h:∀ tk,Q (.bool b) { s with toks:=tk }) :
    wpAny (model X.prog X.w) A (call (.builtin "isinstance") [u,c]) Q E s:=by
  cases ty with
  | non=>cases (show u=Value.none from rx); exact PySem.W.kia_one PySem.W.kitx_none I.kIn True.intro e (fun z=>nomatch z) h
  | bl y=>cases (show u=Value.bool y from rx); exact PySem.W.kia_one PySem.W.kitx_bool I.kIn True.intro e (fun z=>nomatch z) h
  | int i=>obtain ⟨t,q⟩:=(show ∃ t,u=Value.int i t from rx); cases q; exact PySem.W.kia_one PySem.W.kitx_int I.kIn True.intro e (fun z=>nomatch z) h
  | str y=>obtain ⟨t,q⟩:=(show ∃ t,u=Value.str y t from rx); cases q; exact PySem.W.kia_one PySem.W.kitx_str I.kIn True.intro e (fun z=>nomatch z) h
  | flt y=>obtain ⟨t,q⟩:=(show ∃ t,u=Value.float y t from rx); cases q; exact PySem.W.kia_one PySem.W.kitx_float I.kIn True.intro e (fun z=>nomatch z) h
  | @lst a xs ea =>
    cases (show u=Value.ref a from rx)
    obtain ⟨_,_,n,_,h1⟩:=(show ObjOk X.prog X.w H s.heap a (.lst xs) from I.hok a _ ea)
    exact PySem.W.kia_one PySem.W.kitx_list I.kIn ⟨_,h1,rfl⟩ e (fun z=>nomatch z) h
  | @frz a ob xs ea =>
    cases (show u=Value.ref a from rx)
    obtain ⟨_,_,_,n,_,h1⟩:=(show ObjOk X.prog X.w H s.heap a (.frz ob (.lst xs)) from I.hok a _ ea)
    exact PySem.W.kia_one PySem.W.kitx_list I.kIn ⟨_,h1,rfl⟩ e (fun z=>nomatch z) h
  | @tup a xs ea =>
    cases (show u=Value.ref a from rx)
    obtain ⟨_,_,_,p⟩:=(show ObjOk X.prog X.w H s.heap a (.tup xs) from I.hok a _ ea)
    obtain ⟨o,h1,h2,_⟩:=p
    exact PySem.W.kia_one PySem.W.kitx_tuple I.kIn ⟨o,h1,h2⟩ e (fun z=>nomatch z) h
  | @dK a kvs ea =>
    cases (show u=Value.ref a from rx)
    obtain ⟨_,_,vs,_,p⟩:=(show ObjOk X.prog X.w H s.heap a (.dK kvs) from I.hok a _ ea)
    obtain ⟨o,es,ep,h1,h2,_⟩:=p
    exact PySem.W.kia_one PySem.W.kitx_dict I.kIn ⟨o,h1,h2.1⟩ e (fun z=>nomatch z) h
  | @dT a kvs ea =>
    cases (show u=Value.ref a from rx)
    obtain ⟨_,_,xs,_,o,es,ep,h1,h2,_⟩:=(show ObjOk X.prog X.w H s.heap a (.dT kvs) from I.hok a _ ea)
    exact PySem.W.kia_one PySem.W.kitx_dict I.kIn ⟨o,h1,h2.1⟩ e (fun z=>nomatch z) h
  | @ins a C dx fs ea cl ha hn htk hm =>
    cases (show u=Value.ref a from rx)
    obtain ⟨mA,O,_⟩:=ins_get I.hok ea
    obtain ⟨od,J,_⟩:=O.look
    exact PySem.W.kia_one (PySem.W.kitx_own (cl.get _) cl.hd ha hn htk hm) I.kIn J e (fun z=>nomatch z) h
end
end L2
namespace L2
open PySem PySem.Spec PyProof.Rows
structure Room (k:Nat) (A:Around):Prop where
  hd:A.handled=none
  dp:A.depth + 3 * k + 5 < recursionLimit
  un:A.units + 16 * k + 200 < cLine
theorem Room.mono {j k:Nat} {A:Around} (r:Room k A) (h:j≤k):Room j A:=⟨r.hd,by have:=r.dp; omega,by have:=r.un; omega⟩
theorem Room.deeper {k:Nat} {A:Around} (r:Room (k + 1) A) (env:Env):Room k (A.deeper env) :=
  ⟨r.hd,by have:=r.dp; show A.depth + 1 + 3 * k + 5 < _; omega,by have:=r.un; show A.units + 3 + 16 * k + 200 < _; omega⟩
theorem make_depth {A:Around} {C:Addr} {us:List Value} {kw:List (Str×Value)}:(A.under (.builtin "type.__call__" ⟨.ref C :: us,kw⟩)).depth=A.depth + 1:=by
  first | rfl | simp [Around.under,Code.weight,Code.isCreation,Code.isGuard,Code.isCaller,Code.frames,Code.isFrame,guardIds]
theorem make_units {A:Around} {C:Addr} {us:List Value} {kw:List (Str×Value)}:(A.under (.builtin "type.__call__" ⟨.ref C :: us,kw⟩)).units=A.units + 1:=by
  first | rfl | simp [Around.under,Code.cUnits,Code.frames,Code.isFrame]
theorem Room.make {k:Nat} {A:Around} (r:Room (k + 1) A) (C:Addr) (us:List Value) (kw:List (Str×Value)):Room k (A.under (.builtin "type.__call__" ⟨.ref C :: us,kw⟩)) :=
  ⟨r.hd,by have:=r.dp; rw [make_depth]; omega,by have:=r.un; rw [make_units]; omega⟩
theorem Room.depth {k:Nat} {A:Around} (r:Room k A):A.depth < recursionLimit:=by have:=r.dp; omega
theorem Room.units {k:Nat} {A:Around} (r:Room k A):A.units + 64 < cLine:=by have:=r.un; omega
def tNil:TA:=fun _ H Q=>Q [] H
def tCons (ta:TE) (tr:TA):TA:=fun σ H Q=>ta σ H fun x H1=>tr σ H1 fun xs H2=>Q (x :: xs) H2
section
variable {X:Cx} {e:Expr} {es:List Expr} {te:TE} {t:TA} {pos:Pos}
theorem pa_nil:PA X [] tNil:=fun _ _ _ _ H Q I h=>Calls.spliced_nil ⟨[],H,I,.nil,h⟩
theorem pa_cons (ha:PE X e te) (hr:PA X es t) (hs:starEach (e :: es) X.env=(false,eval e X.env) :: starEach es X.env:=by rfl):PA X (e :: es) (tCons te t):=by
  intro pos pins s σ H Q I h
  rw [hs]
  show wpAny _ _ (spliced ((false,eval e X.env) :: backTo pos (starEach es X.env))) _ _ s
  refine Calls.spliced_cons (thn (ha pins s σ H _ I h) fun u s1 ⟨x,H1,I1,r1,q1⟩=>?_)
  exact thn (hr pos pins s1 σ H1 _ I1 q1) fun us s2 ⟨xs,H2,I2,r2,q2⟩=>⟨x :: xs,H2,I2,.cons r1 r2,q2⟩
def tTup (t:TA):TE:=fun σ H Q=>t σ H fun xs H1=>xs.length≤sizeLine∧∀ p,H1 p=none→Q (.ref p) (upd H1 p (.tup xs))
def tLst (t:TA):TE:=fun σ H Q=>t σ H fun xs H1=>xs.length≤sizeLine∧∀ p,H1 p=none→Q (.ref p) (upd H1 p (.lst xs))
theorem pe_tup {x1} (h:PA X es t):PE X (.Tuple es x1 pos) (tTup t):=by
  intro pins s σ H Q I hq
  refine wpAny_Tuple_spliced (thn (h pos pins s σ H _ I hq) fun us s1 ⟨xs,H1,I1,r,z,q⟩=>⟨by rw [← r.length]; exact z,?_⟩)
  have hf:H1 s1.heap.objs.size=none:=I1.hok.fresh (Nat.le_refl _)
  refine ⟨.ref s1.heap.objs.size,upd H1 s1.heap.objs.size (.tup xs),I1.laid (t':=s1.toks) (fun b u e=>Heap.get?_push_of_some _ e) (Nat.le_refl _) ?_,rfl,q _ hf⟩
  exact ⟨z,us,r,⟨_,Heap.get?_push_size _ rfl,rfl,_,rfl⟩⟩
theorem pe_lst (h:PA X es t):PE X (.List es pos) (tLst t):=by
  intro pins s σ H Q I hq
  refine wpAny_List_spliced (thn (h pos pins s σ H _ I hq) fun us s1 ⟨xs,H1,I1,r,z,q⟩=>⟨by rw [← r.length]; exact z,?_⟩)
  have hf:H1 s1.heap.objs.size=none:=I1.hok.fresh (Nat.le_refl _)
  refine ⟨.ref s1.heap.objs.size,upd H1 s1.heap.objs.size (.lst xs),I1.laid (t':=s1.toks) (fun b u e=>Heap.get?_push_of_some _ e) (Nat.le_refl _) ?_,rfl,q _ hf⟩
  exact ⟨z,us,0,r,Heap.get?_push_size _ rfl⟩
end
abbrev Sp:=List V→Hp→VK→XK→Prop
abbrev CXT:=List Env→Hp→Shared→XK→Value→Shared→Prop
structure Env0 (P:Program) (w:World) (K:PySem.W.Frag) (mg:Str→Option Value) (base:Heap) (A:Around) (outer:List Env) (s:Shared) (H:Hp):Prop where
  frames:A.frames=some outer
  mod:Mod K mg base
  bs:∀ b o,base.get? b=some o→s.heap.get? b=some o∧H b=none
  bsz:base.objs.size≤s.heap.objs.size
  funs:s.heap.FunFrames base outer
  frf:∀ b∈frs outer,H b=none
  hok:HOk P w H s.heap
  bare:AllBare s.gens
def CE (outer:List Env) (P:Program) (w:World) (H:Hp) (s:Shared) (Q:VK) (u:Value) (s':Shared):Prop :=
  ∃ v H',s'.os=s.os∧AllBare s'.gens∧Un (frs outer) [] H H' s.heap s'.heap∧HOk P w H' s'.heap∧RelV v u∧Q v H'
def CR (CX:CXT) (outer:List Env) (P:Program) (w:World) (H:Hp) (s:Shared) (Q:VK) (E:XK) (r:Result) (s':Shared):Prop :=
  match r with
  | .ok (.ret u)=>CE outer P w H s Q u s'
  | .ok _=>False
  | .error e=>CX outer H s E e s'
structure FnOk (P:Program) (w:World) (K:PySem.W.Frag) (mg:Str→Option Value) (base:Heap) (CX:CXT) (k:Nat) (f:Addr) (fd:FuncData) (ps:List Str) (sp:Sp):Prop where
  len:∀ vs H Q E,sp vs H Q E→vs.length=ps.length
  run:∀ (A:Around) (outer:List Env) (s:Shared) (H:Hp) (args:Args) (us:List Value) (vs:List V) (Q:VK) (E:XK),Room k A→Env0 P w K mg base A outer s H→BindsTo s fd args (ps.zip us)→Vals vs us→sp vs H Q E →
    codeAny (model P w) A (.call (.ref f) args) (CR CX outer P w H s Q E) s
theorem Env0.make {P:Program} {w:World} {K:PySem.W.Frag} {mg:Str→Option Value} {base:Heap} {A:Around} {outer:List Env} {s:Shared} {H:Hp} (e:Env0 P w K mg base A outer s H) (C:Addr) (us:List Value) (kw:List (Str×Value)) :
    Env0 P w K mg base (A.under (.builtin "type.__call__" ⟨.ref C :: us,kw⟩)) outer s H:=⟨by first | exact e.frames | (simpa [Around.under,Code.envs,Code.isFrame,pushEnvs] using e.frames),e.mod,e.bs,e.bsz,e.funs,e.frf,e.hok,e.bare⟩
section
variable {X:Cx} {pins:List (Addr×Obj)} {σ:St} {H:Hp} {s s':Shared}
theorem Inv.env0 (I:Inv X pins σ H s):Env0 X.prog X.w X.K X.mg X.base X.A X.stack s H :=
  ⟨I.ok.frames,I.ok.mod,I.bs,Nat.le_trans I.ok.bsz I.sz,I.stack,I.stkFree,I.hok,I.bare⟩
theorem Inv.after {Q:VK} {u:Value} (I:Inv X pins σ H s) (h:CE X.stack X.prog X.w H s Q u s'):EP X pins σ Q u s':=by
  obtain ⟨v,H',os,bare,un,hok,r,q⟩:=h
  obtain ⟨hh,g,d,t,os'⟩:=s'
  obtain rfl:os'=s.os:=os
  exact ⟨v,H',I.call (h':=hh) (g':=g) (d':=d) (t':=t) (ch:=[]) un hok bare (fun b z=>absurd z (by simp)),r,q⟩
end
def tCall (sp:Sp) (dvs:List V) (E:XK) (t:TA):TE:=fun σ H Q=>t σ H fun vs H1=>sp (vs++dvs) H1 Q E
def tMeth (C:Addr) (m:Str) (sp:Sp) (dvs:List V) (E:XK) (ta:TE) (t:TA):TE:=fun σ H Q=>ta σ H fun x H1=>∃ a dx fs,x=.ref a∧H1 a=some (.ins C dx fs)∧fs.lookup m=none ∧
  t σ H1 fun vs H2=>sp (x :: (vs++dvs)) H2 Q E
def tMake (C:Addr) (sp:Sp) (dvs:List V) (E:XK) (t:TA):TE:=fun σ H Q=>t σ H fun vs H1=>∀ x dx,H1 x=none→H1 dx=none→dx≠x →
  sp (.ref x :: (vs++dvs)) (upd (upd H1 dx (.own x)) x (.ins C dx [])) (fun v H2=>v=.non∧Q (.ref x) H2) E
def Binds (K:PySem.W.Frag) (fd:FuncData) (ps:List Str) (ds:List Value):Prop :=
  ∀ (s:Shared) (us:List Value),K.In s.heap→(us++ds).length=ps.length→BindsTo s fd ⟨us,[]⟩ (ps.zip (us++ds))
theorem Binds.all {K:PySem.W.Frag} {fd:FuncData} {ps:List Str} (h:∀ us:List Value,us.length=ps.length→bindArgs fd ⟨us,[]⟩=pure (ps.zip us)):Binds K fd ps []:=fun s us _ hl=>by
  rw [List.append_nil] at hl ⊢
  exact .of_eq (h us hl)
def Passes (CX:CXT) (X:Cx) (E:XK):Prop:=∀ (pins:List (Addr×Obj)) (σ:St) (H:Hp) (s:Shared) (e:Value) (s':Shared),Inv X pins σ H s→CX X.stack H s E e s'→X.xe e s'
section
variable {X:Cx} {CX:CXT} {k:Nat} {f C:Addr} {fd:FuncData} {ps:List Str} {sp:Sp} {dvs:List V} {ds:List Value} {E:XK} {x m:Str} {p pos apos:Pos} {e o:Expr} {es:List Expr} {ta:TE} {t:TA}
theorem run_fn {pins:List (Addr×Obj)} {σ:St} {H:Hp} {s:Shared} {Q:VK} {us:List Value} {vs:List V} (F:FnOk X.prog X.w X.K X.mg X.base CX k f fd ps sp) (hr:Room k X.A) (hb:Binds X.K fd ps ds) (hd:Vals dvs ds) (hx:Passes CX X E)
    (I:Inv X pins σ H s) (r:Vals vs us) (h:sp (vs++dvs) H Q E):wpAny (model X.prog X.w) X.A (call (.ref f) us) (EP X pins σ Q) X.xe s:=by
  have r2:Vals (vs++dvs) (us++ds):=r.append hd
  have hl:(us++ds).length=ps.length:=by rw [← r2.length]; exact F.len _ _ _ _ h
  refine wpAny_call (codeAny_mono (F.run X.A X.stack s H ⟨us,[]⟩ (us++ds) (vs++dvs) Q E hr I.env0 (hb s us I.kIn hl) r2 h) fun r s' hq=>?_)
  cases r with
  | error e=>exact hx pins σ H s e s' I hq
  | ok fl =>
    cases fl with
    | ret u=>exact I.after hq
    | next=>exact False.elim hq
    | brk=>exact False.elim hq
    | cont=>exact False.elim hq
theorem pe_call (F:FnOk X.prog X.w X.K X.mg X.base CX k f fd ps sp) (hr:Room k X.A) (hg:Gl X x) (hm:X.mg x=some (.ref f)) (hk:PySem.W.keepIn X.K (.ref f)=true) (hb:Binds X.K fd ps ds) (hd:Vals dvs ds) (hx:Passes CX X E)
    (ha:PA X (e :: es) t) (hdb:(x == ("__debug__":Str))=false:=by decide) (he:starEach (e :: es) X.env=(false,eval e X.env) :: starEach es X.env:=by rfl) (hpl:(backTo pos (starEach es X.env)).any (·.1)=false:=by rfl) :
    PE X (.Call (.Name x p) (e :: es) [] pos) (tCall sp dvs E t):=by
  intro pins s σ H Q I h
  refine wpAny_Call_Name_kw (ld_glob I hg hm ?_ hdb)
  refine PySem.W.callWith_K (h₀:=X.base) I.ok.mod.kin hk (thn (ha pos pins s σ H _ I h) fun us s1 ⟨vs,H1,I1,r,q⟩=>⟨I1.kIn,?_⟩) he hpl
  exact run_fn F hr hb hd hx I1 r q
theorem pe_meth {pl:Sem Bool} (he:PE X o ta) (c:Cls X.K C) (hm:Meth X.K C m f) (F:FnOk X.prog X.w X.K X.mg X.base CX k f fd ps sp) (hr:Room k X.A) (hb:Binds X.K fd ps ds) (hd:Vals dvs ds) (hx:Passes CX X E) (ha:PA X (e :: es) t)
    (hst:starEach (e :: es) X.env=(false,eval e X.env) :: starEach es X.env:=by rfl) (hpl:(backTo pos (starEach es X.env)).any (·.1)=false:=by rfl)
    (ht:eval (.Call (.Attribute o m apos) (e :: es) [] pos) X.env=(do
      let ov ← eval o X.env
      standAt apos.atName
      let (f,first) ← holding [ov] (getMethod ov m pl)
      callWith pos f first (backTo pos (starEach (e :: es) X.env)) (backToKw pos (keywordEach [] X.env))):=by rfl) :
    PE X (.Call (.Attribute o m apos) (e :: es) [] pos) (tMeth C m sp dvs E ta t):=by
  intro pins s σ H Q I h
  refine PySem.W.methodCall_KW (pl:=pl) (thn (he pins s σ H _ I h) fun u s1 ⟨x,H1,I1,rx,a,dx,fs,ex,ea,l,q⟩=>?_) ht
  subst ex
  obtain rfl:u=Value.ref a:=rx
  refine getmeth_ok I1 ea c hm l ?_
  refine PySem.W.callWith_K (first:=[.ref a]) (h₀:=X.base) I.ok.mod.kin hm.kp (thn (ha pos pins s1 σ H1 _ I1 q) fun us s2 ⟨vs,H2,I2,r,q2⟩=>⟨I2.kIn,?_⟩) hst hpl
  exact run_fn (us:=.ref a :: us) (vs:=.ref a :: vs) F hr hb hd hx I2 (.cons rfl r) q2
theorem pe_meth0 {pl:Sem Bool} (he:PE X o ta) (c:Cls X.K C) (hm:Meth X.K C m f) (F:FnOk X.prog X.w X.K X.mg X.base CX k f fd ps sp) (hr:Room k X.A) (hb:Binds X.K fd ps ds) (hd:Vals dvs ds) (hx:Passes CX X E)
    (ht:eval (.Call (.Attribute o m apos) [] [] pos) X.env=(do
      let ov ← eval o X.env
      standAt apos.atName
      let (f,first) ← holding [ov] (getMethod ov m pl)
      callWith pos f first (backTo pos (starEach [] X.env)) (backToKw pos (keywordEach [] X.env))):=by rfl) :
    PE X (.Call (.Attribute o m apos) [] [] pos) (tMeth C m sp dvs E ta tNil):=by
  intro pins s σ H Q I h
  refine PySem.W.methodCall_KW (pl:=pl) (thn (he pins s σ H _ I h) fun u s1 ⟨x,H1,I1,rx,a,dx,fs,ex,ea,l,q⟩=>?_) ht
  subst ex
  obtain rfl:u=Value.ref a:=rx
  refine getmeth_ok I1 ea c hm l ?_
  exact PySem.W.callWith_K0 (first:=[.ref a]) I1.kIn hm.kp (run_fn (us:=[.ref a]) (vs:=[.ref a]) F hr hb hd hx I1 (.cons rfl .nil) q)
structure Mk (K:PySem.W.Frag) (C f:Addr):Prop where
  makes:PySem.W.makesIn K C=true
  init:PySem.W.findIn K (.ref C) "__init__"=some (some (.ref f))
  fn:PySem.W.isFn K (.ref f)=true
  kp:PySem.W.keepIn K (.ref C)=true
theorem run_make {pins:List (Addr×Obj)} {σ:St} {H:Hp} {s:Shared} {Q:VK} {us:List Value} {vs:List V} (M:Mk X.K C f) (F:FnOk X.prog X.w X.K X.mg X.base CX k f fd ps sp) (hr:Room (k + 1) X.A) (hb:Binds X.K fd ps ds) (hd:Vals dvs ds)
    (hx:Passes CX X E) (I:Inv X pins σ H s) (r:Vals vs us)
    (h:∀ x dx,H x=none→H dx=none→dx≠x→sp (.ref x :: (vs++dvs)) (upd (upd H dx (.own x)) x (.ins C dx [])) (fun v H2=>v=.non∧Q (.ref x) H2) E) :
    wpAny (model X.prog X.w) X.A (call (.ref C) us) (EP X pins σ Q) X.xe s:=by
  have hq:=h (s.heap.objs.size + 1) s.heap.objs.size (I.hok.fresh (Nat.le_succ _)) (I.hok.fresh (Nat.le_refl _)) (Nat.ne_of_lt (Nat.lt_succ_self _))
  have I2:=Inv.made (C:=C) I
  have r2:Vals (V.ref (s.heap.objs.size + 1) :: (vs++dvs)) (Value.ref (s.heap.objs.size + 1) :: (us++ds)):=.cons rfl (r.append hd)
  have hl:(Value.ref (s.heap.objs.size + 1) :: us++ds).length=ps.length:=by
    have e:=r2.length
    rw [F.len _ _ _ _ hq] at e
    exact e.symm
  refine wpAny_call (make_map (f:=f) I.kIn M.makes M.init (beq_iff_eq.mp M.fn) (codeAny_mono (F.run _ X.stack _ _ ⟨Value.ref (s.heap.objs.size + 1) :: us,[]⟩ (Value.ref (s.heap.objs.size + 1) :: (us++ds)) _ _ E (hr.make C us [])
    (I2.env0.make C us []) (hb _ (Value.ref (s.heap.objs.size + 1) :: us) I2.kIn hl) r2 hq) fun r s' hq'=>?_))
  cases r with
  | error e=>exact hx pins σ _ _ e s' I2 hq'
  | ok fl =>
    cases fl with
    | ret u =>
      obtain ⟨v,H',I3,rv,ev,q3⟩:=I2.after hq'
      subst ev
      exact ⟨rv,⟨V.ref (s.heap.objs.size + 1),H',I3,rfl,q3⟩⟩
    | next=>exact False.elim hq'
    | brk=>exact False.elim hq'
    | cont=>exact False.elim hq'
theorem pe_make (M:Mk X.K C f) (F:FnOk X.prog X.w X.K X.mg X.base CX k f fd ps sp) (hr:Room (k + 1) X.A) (hg:Gl X x) (hm:X.mg x=some (.ref C)) (hb:Binds X.K fd ps ds) (hd:Vals dvs ds) (hx:Passes CX X E)
    (ha:PA X (e :: es) t) (hdb:(x == ("__debug__":Str))=false:=by decide) (he:starEach (e :: es) X.env=(false,eval e X.env) :: starEach es X.env:=by rfl) (hpl:(backTo pos (starEach es X.env)).any (·.1)=false:=by rfl) :
    PE X (.Call (.Name x p) (e :: es) [] pos) (tMake C sp dvs E t):=by
  intro pins s σ H Q I h
  refine wpAny_Call_Name_kw (ld_glob I hg hm ?_ hdb)
  refine PySem.W.callWith_K (h₀:=X.base) I.ok.mod.kin M.kp (thn (ha pos pins s σ H _ I h) fun us s1 ⟨vs,H1,I1,r,q⟩=>⟨I1.kIn,?_⟩) he hpl
  exact run_make M F hr hb hd hx I1 r q
end
section
variable {X:Cx} {CX:CXT} {k:Nat} {f C:Addr} {fd:FuncData} {ps ks:List Str} {sp:Sp} {E:XK} {x m:Str} {p pos apos kpos:Pos} {e o:Expr} {es:List Expr} {kws:List Keyword} {te ta:TE} {t tk:TA} {nm:Option Str}
variable {g:List Value→List Value→List Value} {gV:List V→List V→List V}
end
structure FnScope (N P:List Str) (sc:Scope):Prop where
  kind:sc.kind=.function
  co:sc.isCoroutine=false
  gen:sc.isGenerator=false
  nd:N.Nodup
  pre:N.take P.length=P
  par:∀ x∈P,sc.names.lookup x=some .local∨sc.names.lookup x=some .cell
  nofree:∀ y∈sc.names,y.2≠.free
theorem bindL_out {kindOf:Str→Option NameKind} {x:Str}:∀ {binds:List (Str×Value)} {m:Str→Option Value},(∀ v,(x,v)∉binds)→bindL kindOf binds m x=m x
  | [],_,_=>rfl
  | (n,v) :: r,m,h=>by
    unfold bindL
    rw [bindL_out fun w hw=>h w (List.mem_cons_of_mem _ hw)]
    split
    · have:x≠n:=by rintro rfl; exact h v List.mem_cons_self
      simp [this]
    · rfl
theorem bindC_out {kindOf:Str→Option NameKind} {x:Str}:∀ {binds:List (Str×Value)} {m:Str→Option Value},(∀ v,(x,v)∉binds)→bindC kindOf binds m x=m x
  | [],_,_=>rfl
  | (n,v) :: r,m,h=>by
    unfold bindC
    rw [bindC_out fun w hw=>h w (List.mem_cons_of_mem _ hw)]
    split
    · rfl
    · have:x≠n:=by rintro rfl; exact h v List.mem_cons_self
      simp [this]
theorem bindL_get {kindOf:Str→Option NameKind} {x:Str} {v:Value}:∀ {P:List Str} {vs:List Value} {i:Nat} {m:Str→Option Value},P.Nodup→P[i]?=some x→vs[i]?=some v→kindOf x=some .local →
    bindL kindOf (P.zip vs) m x=some v
  | [],_,_,_,_,h,_,_=>by simp at h
  | _ :: _,[],_,_,_,_,h,_=>by simp at h
  | p :: P,w :: vs,0,m,nd,h1,h2,hk=>by
    simp at h1 h2; subst h1; subst h2
    show bindL kindOf ((p,w) :: P.zip vs) m p=_
    unfold bindL
    rw [bindL_out fun v hv=>(List.nodup_cons.mp nd).1 (List.of_mem_zip hv).1,if_pos hk]
    simp
  | p :: P,w :: vs,i + 1,m,nd,h1,h2,hk=>by
    show bindL kindOf ((p,w) :: P.zip vs) m x=_
    unfold bindL
    exact bindL_get (i:=i) (List.nodup_cons.mp nd).2 (by simpa using h1) (by simpa using h2) hk
theorem bindC_get {kindOf:Str→Option NameKind} {x:Str} {v:Value}:∀ {P:List Str} {vs:List Value} {i:Nat} {m:Str→Option Value},P.Nodup→P[i]?=some x→vs[i]?=some v→kindOf x≠some .local →
    bindC kindOf (P.zip vs) m x=some v
  | [],_,_,_,_,h,_,_=>by simp at h
  | _ :: _,[],_,_,_,_,h,_=>by simp at h
  | p :: P,w :: vs,0,m,nd,h1,h2,hk=>by
    simp at h1 h2; subst h1; subst h2
    show bindC kindOf ((p,w) :: P.zip vs) m p=_
    unfold bindC
    rw [bindC_out fun v hv=>(List.nodup_cons.mp nd).1 (List.of_mem_zip hv).1,if_neg hk]
    simp
  | p :: P,w :: vs,i + 1,m,nd,h1,h2,hk=>by
    show bindC kindOf ((p,w) :: P.zip vs) m x=_
    unfold bindC
    exact bindC_get (i:=i) (List.nodup_cons.mp nd).2 (by simpa using h1) (by simpa using h2) hk
def start (N:List Str) (vs:List V):St:=vs.map some++List.replicate (N.length - vs.length) none
def cxOf (CX:CXT) (P:Program) (w:World) (K:PySem.W.Frag) (mg:Str→Option Value) (base:Heap) (N:List Str) (qual:Str) (scope:Scope) (f:Addr) (cd:Value) (A:Around) (outer:List Env) (s:Shared) (H:Hp) (E:XK):Cx where
  prog:=P
  w:=w
  K:=K
  mg:=mg
  base:=base
  A:=A.deeper (envOfC qual scope s.heap.objs.size f cd)
  N:=N
  s₀:=s
  H₀:=H
  env:=envOfC qual scope s.heap.objs.size f cd
  outer:=outer
  stack:=envOfC qual scope s.heap.objs.size f cd :: outer
  ex:=[]
  calm:=true
  fn:=fun _=>true
  pn:=[]
  xe:=fun e s'=>wpAny (model P w) (A.deeper (envOfC qual scope s.heap.objs.size f cd)) (leaving (envOfC qual scope s.heap.objs.size f cd) e) (fun _ s''=>CX outer H s E e s'') (fun e' s''=>CX outer H s E e' s'') s'
theorem cell_has {sc:Scope} {n:Nat} {x:Str} (h:sc.names.lookup x=some .cell):∃ c,(cellsFrom n sc.names []).lookup x=some c:=by
  have q:=PySem.W.cellsFrom_some sc.names n [] (.inl h)
  exact Option.isSome_iff_exists.mp q
theorem inv_start {CX:CXT} {P:Program} {w:World} {K:PySem.W.Frag} {mg:Str→Option Value} {base:Heap} {N ps:List Str} {qual:Str} {scope:Scope} {f:Addr} {cd:Value} {A:Around} {outer:List Env} {s s1:Shared} {H:Hp} {E:XK} {us:List Value} {vs:List V}
    (S:FnScope N ps scope) (hd:A.handled=none) (e0:Env0 P w K mg base A outer s H) (hl:vs.length=ps.length) (r:Vals vs us)
    (x:InCallC s s.heap.objs.size (bindL (envOfC qual scope s.heap.objs.size f cd).kindOf (ps.zip us) fun _=>none) (cellsFrom (s.heap.objs.size + 1) scope.names []) (bindC (envOfC qual scope s.heap.objs.size f cd).kindOf (ps.zip us) fun _=>none) s1) :
    Inv (cxOf CX P w K mg base N qual scope f cd A outer s H E) [] (start N vs) H s1:=by
  have hpl:ps.length≤N.length:=by have:=congrArg List.length S.pre; rw [List.length_take] at this; omega
  obtain ⟨h1,tk,rfl,hk⟩:=x.done
  have noA:∀ b:Addr,b∉(cxOf CX P w K mg base N qual scope f cd A outer s H E).ex:=fun b z=>absurd (show b∈([]:List Addr) from z) (by simp)
  refine ⟨⟨e0.mod,S.kind,rfl,rfl,Nat.le_refl _,fun y z c h1 h2=>?_,fun y hy=>?_,fun y c _ h=>?_,fun _=>hd,Around.frames_deeper e0.frames,.inr ⟨rfl,rfl⟩,fun b z=>absurd z (noA b),e0.bs,e0.bsz,fun b _ _=>noA b,fun b z=>absurd z (noA b),e0.funs,e0.frf⟩,
    rfl,e0.bare,Un.kept hk,⟨_,x.toInCall.ns,fun i y v h1 h2 h3=>?_⟩,fun y c h=>⟨_,x.cell y c h⟩,e0.hok.fresh (Nat.le_refl _),fun y c h=>?_,fun p hp=>absurd (show p∈([]:List (Addr×Obj)) from hp) (by simp),e0.hok.kept hk,?_⟩
  · exact name_of_addr x.apart (PySem.mem_of_lookup h1) (PySem.mem_of_lookup h2)
  · have hy:scope.names.lookup y=some .cell∨scope.names.lookup y=some .free:=hy
    rcases hy with hy | hy
    · exact cell_has hy
    · exact absurd rfl (S.nofree _ (PySem.mem_of_lookup hy))
  · exact Nat.le_of_lt (x.above y c (PySem.mem_of_lookup h))
  · have hi:i < vs.length:=by
      unfold start at h2
      by_cases hi:i < vs.length
      · exact hi
      · rw [List.getElem?_append_right (by simpa using hi)] at h2
        rw [List.getElem?_replicate] at h2
        split at h2 <;> cases h2
    have ha:vs[i]?=some v:=by
      unfold start at h2
      rw [List.getElem?_append_left (by simpa using hi),List.getElem?_map] at h2
      cases e:vs[i]? with
      | none=>rw [e] at h2; cases h2
      | some a=>rw [e] at h2; cases h2; rfl
    obtain ⟨u,hu,rv⟩:=r.get ha
    have hp:ps[i]?=some y:=by
      rw [← S.pre,List.getElem?_take_of_lt (by omega)]; exact h1
    have ndP:ps.Nodup:=by rw [← S.pre]; exact S.nd.sublist (List.take_sublist _ _)
    refine ⟨u,rv,?_⟩
    rcases S.par y (List.mem_of_getElem? hp) with k | k
    · exact .inl ⟨k,bindL_get ndP hp hu k⟩
    · obtain ⟨c,e⟩:=cell_has (n:=s.heap.objs.size + 1) k
      refine .inr ⟨.inl k,c,e,?_⟩
      have q:=x.cell y c e
      rw [bindC_get ndP hp hu (by show scope.names.lookup y≠_; rw [k]; decide)] at q
      exact q
  · exact e0.hok.fresh (Nat.le_of_lt (x.above y c (PySem.mem_of_lookup h)))
  · unfold start
    show _=N.length
    rw [List.length_append,List.length_map,List.length_replicate]
    omega
theorem fn_of {CX:CXT} {P:Program} {w:World} {K:PySem.W.Frag} {mg:Str→Option Value} {base:Heap} {k:Nat} {f:Addr} {name qual:Str} {params:Arguments} {body:List Stmt} {scope:Scope} {dV kV doc pm cdv ct oc:Value} {an od:Option Addr}
    {osl:Array (Option Value)} {N ps:List Str} {sp:Sp} (lk:K.lookup f=some ⟨oc,od,.func (PySem.W.fnOf name qual params body scope dV kV doc pm an cdv ct),osl⟩) (hcd:PySem.W.codeIn K cdv qual=true) (S:FnScope N ps scope)
    (len:∀ vs H Q E,sp vs H Q E→vs.length=ps.length)
    (hbody:∀ (A:Around) (outer:List Env) (s:Shared) (H:Hp) (vs:List V) (Q:VK) (E:XK),Room k (A.deeper (envOfC qual scope s.heap.objs.size f cdv))→sp vs H Q E →
      ∃ t,PSs (cxOf CX P w K mg base N qual scope f cdv A outer s H E) body t∧t { nx:=fun _ H'=>Q .non H',rt:=Q } (start N vs) H) :
    FnOk P w K mg base CX (k + 1) f (PySem.W.fnOf name qual params body scope dV kV doc pm an cdv ct) ps sp:=by
  refine ⟨len,fun A outer s H args us vs Q E hr e0 hb r hsp=>?_⟩
  have hl:=len _ _ _ _ hsp
  have KX:K.In s.heap:=e0.mod.kin.keeps fun b o e=>(e0.bs b o e).1
  have lim:s.heap.NoLimit:=e0.mod.nolimit.keeps fun b o e=>(e0.bs b o e).1
  have hkind:∀ y∈ps.zip us,scope.names.lookup y.1=some .local∨(scope.names.lookup y.1=some .cell∧((cellsFrom (s.heap.objs.size + 1) scope.names []).lookup y.1).isSome=true):=fun ⟨n,v⟩ hy=>by
    rcases S.par n (List.of_mem_zip hy).1 with q | q
    · exact .inl q
    · exact .inr ⟨q,PySem.W.cellsFrom_some _ _ _ (.inl q)⟩
  refine codeAny_call_function hr.depth (KX _ _ lk) rfl S.co S.gen rfl (PySem.W.codeRec_of KX hcd) (hb _ _ _ _ ?_)
  refine wpAny_newFunctionEnv_cells S.kind hkind fun env he s1 x=>?_
  subst he
  refine ⟨lim.keeps x.toInCall.keep,codeAny_func ?_⟩
  obtain ⟨t,ht,hq⟩:=hbody A outer s H vs Q E (hr.deeper _) hsp
  have I:Inv (cxOf CX P w K mg base N qual scope f cdv A outer s H E) [] (start N vs) H s1:=inv_start S hr.hd e0 hl r x
  refine wpAny_mono (ht [] s1 (start N vs) H _ I hq) (fun fl s' hs=>?_) fun e s' hs=>hs
  have fin:∀ {σ':St} {H':Hp} {v:V} {u:Value},Inv (cxOf CX P w K mg base N qual scope f cdv A outer s H E) [] σ' H' s'→RelV v u→Q v H'→CE outer P w H s Q u s' :=
    fun {σ' H' v u} J rv q=>⟨v,H',J.os,J.bare,J.base,J.hok,rv,q⟩
  cases fl with
  | ret u =>
    obtain ⟨v,σ',H',J,rv,q⟩:=hs
    exact fin J rv q
  | next =>
    obtain ⟨σ',H',J,q⟩:=hs
    exact fin (v:=V.non) (u:=Value.none) J rfl q
  | brk =>
    obtain ⟨_,_,_,q⟩:=hs
    exact False.elim q
  | cont =>
    obtain ⟨_,_,_,q⟩:=hs
    exact False.elim q
end L2
namespace L2
open PySem PySem.Spec PyProof.Rows
section
variable {X:Cx} {x:Str} {p pos:Pos} {e:Expr} {es:List Expr} {t:TA} {id T:String} {r:List V→Hp→VK→Prop}
def tCB (r:List V→Hp→VK→Prop) (t:TA):TE:=fun σ H Q=>t σ H fun vs H1=>r vs H1 Q
theorem pe_callB (hc:CallR X (.builtin id) r) (hg:Gl X x) (hm:X.mg x=none) (hv:bootBuiltins x=some (.builtin id)) (ha:PA X (e :: es) t) (hn:x≠"__name__":=by decide) (hdb:(x == ("__debug__":Str))=false:=by decide)
    (he:starEach (e :: es) X.env=(false,eval e X.env) :: starEach es X.env:=by rfl) (hpl:(backTo pos (starEach es X.env)).any (·.1)=false:=by rfl):PE X (.Call (.Name x p) (e :: es) [] pos) (tCB r t):=by
  intro pins s σ H Q I h
  refine wpAny_Call_Name_kw (ld_blt I hg hm hv ?_ hn hdb)
  exact PyProof.Rows.callWith_builtin1 (thn (ha pos pins s σ H _ I h) fun us s1 ⟨vs,H1,I1,r1,q1⟩=>hc pins s1 σ H1 vs us Q I1 r1 q1) he hpl
theorem pe_callTy (hc:CallR X (.type T) r) (hg:Gl X x) (hm:X.mg x=none) (hv:bootBuiltins x=some (.type T)) (ha:PA X (e :: es) t) (hn:x≠"__name__":=by decide) (hdb:(x == ("__debug__":Str))=false:=by decide)
    (he:starEach (e :: es) X.env=(false,eval e X.env) :: starEach es X.env:=by rfl) (hpl:(backTo pos (starEach es X.env)).any (·.1)=false:=by rfl):PE X (.Call (.Name x p) (e :: es) [] pos) (tCB r t):=by
  intro pins s σ H Q I h
  refine wpAny_Call_Name_kw (ld_blt I hg hm hv ?_ hn hdb)
  exact PyProof.Rows.callWith_type1 (thn (ha pos pins s σ H _ I h) fun us s1 ⟨vs,H1,I1,r1,q1⟩=>hc pins s1 σ H1 vs us Q I1 r1 q1) he hpl
end
end L2
namespace L2
open PySem PySem.Spec PyProof.Rows
section
variable {κ:Type} [DecidableEq κ]
def valV (kvs:List (κ×V)) (k:κ):Option V:=(kvs.find? fun kv=>decide (kv.1=k)).map (·.2)
def putK (kvs:List (κ×V)) (k:κ) (v:V):List (κ×V) :=
  if (kvs.any fun kv=>decide (kv.1=k))=true then kvs.map (fun kv=>if kv.1=k then (kv.1,v) else kv) else kvs++[(k,v)]
theorem valV_pos {p:κ×V} {r:List (κ×V)} {k:κ} (e:p.1=k):valV (p :: r) k=some p.2:=by simp [valV,List.find?_cons,e]
theorem valV_neg {p:κ×V} {r:List (κ×V)} {k:κ} (e:¬ p.1=k):valV (p :: r) k=valV r k:=by simp [valV,List.find?_cons,e]
theorem valV_any (k:κ):∀ kvs:List (κ×V),(kvs.any fun kv=>decide (kv.1=k))=(valV kvs k).isSome
  | []=>rfl
  | p :: r=>by
    rw [List.any_cons]
    by_cases e:p.1=k
    · simp only [valV_pos e,decide_eq_true e,Bool.true_or,Option.isSome_some]
    · rw [valV_neg e,decide_eq_false e,Bool.false_or]; exact valV_any k r
theorem valV_map (k j:κ) (y:V):∀ kvs:List (κ×V),valV (kvs.map fun kv=>if kv.1=k then (kv.1,y) else kv) j=(valV kvs j).map fun x=>if j=k then y else x
  | []=>rfl
  | p :: r=>by
    have ih:=valV_map k j y r
    rw [List.map_cons]
    by_cases h:p.1=k
    · rw [if_pos h]
      by_cases e:p.1=j
      · rw [valV_pos (p:=(p.1,y)) e,valV_pos e,Option.map_some,if_pos (e.symm.trans h)]
      · rw [valV_neg (p:=(p.1,y)) e,valV_neg e,ih]
    · rw [if_neg h]
      by_cases e:p.1=j
      · rw [valV_pos (p:=p) e,valV_pos e,Option.map_some,if_neg (fun z=>h (e.trans z))]
      · rw [valV_neg (p:=p) e,valV_neg e,ih]
theorem valV_snoc (k j:κ) (y:V):∀ kvs:List (κ×V),valV kvs k=none→valV (kvs++[(k,y)]) j=if j=k then some y else valV kvs j
  | [],_=>by
    by_cases e:k=j
    · rw [if_pos e.symm]; exact valV_pos (p:=(k,y)) e
    · rw [if_neg (fun z=>e z.symm)]; exact valV_neg (p:=(k,y)) e
  | p :: r,hn=>by
    rw [List.cons_append]
    have hk:¬ p.1=k:=fun z=>by rw [valV_pos z] at hn; cases hn
    rw [valV_neg hk] at hn
    have ih:=valV_snoc k j y r hn
    by_cases e:p.1=j
    · rw [valV_pos e,valV_pos e,if_neg (fun z=>hk (e.trans z))]
    · rw [valV_neg e,valV_neg e,ih]
theorem valV_put (kvs:List (κ×V)) (k j:κ) (y:V):valV (putK kvs k y) j=if j=k then some y else valV kvs j:=by
  unfold putK
  by_cases a:(kvs.any fun kv=>decide (kv.1=k))=true
  · rw [if_pos a,valV_map]
    rw [valV_any] at a
    by_cases e:j=k
    · obtain ⟨x,hx⟩:=Option.isSome_iff_exists.mp a
      rw [if_pos e,e,hx,Option.map_some,if_pos rfl]
    · rw [if_neg e]
      cases valV kvs j with
      | none=>rfl
      | some x=>rw [Option.map_some,if_neg e]
  · rw [if_neg a]
    refine valV_snoc k j y kvs ?_
    rw [valV_any] at a
    cases q:valV kvs k with
    | none=>rfl
    | some x=>rw [q] at a; exact (a rfl).elim
theorem length_putK (kvs:List (κ×V)) (k:κ) (v:V):(putK kvs k v).length≤kvs.length + 1:=by
  unfold putK
  split
  · rw [List.length_map]; omega
  · rw [List.length_append,List.length_cons,List.length_nil]; omega
theorem putK_new {kvs:List (κ×V)} {k:κ} (v:V) (h:valV kvs k=none):putK kvs k v=kvs++[(k,v)]:=by
  unfold putK
  rw [valV_any,h]
  exact if_neg (by decide)
theorem RelO.isSome_eq {o:Option V} {u:Option Value} (r:RelO o u):o.isSome=u.isSome:=by
  cases o with
  | none=>cases u with
    | none=>rfl
    | some _=>exact (show False from r).elim
  | some _=>cases u with
    | none=>exact (show False from r).elim
    | some _=>rfl
theorem RelO.getD {o:Option V} {u:Option Value} {d:V} {d':Value} (r:RelO o u) (rd:RelV d d'):RelV (o.getD d) (u.getD d'):=by
  cases o with
  | none=>cases u with
    | none=>exact rd
    | some _=>exact (show False from r).elim
  | some _=>cases u with
    | none=>exact (show False from r).elim
    | some _=>exact r
theorem KV.val {kvs:List (κ×V)} {vs:List (κ×Value)} (r:KV kvs vs) (k:κ):RelO (valV kvs k) (valueAt vs k):=by
  unfold KV at r
  induction r with
  | nil=>exact True.intro
  | @cons p q ps qs h t ih =>
    obtain ⟨h1,h2⟩:=h
    by_cases e:p.1=k
    · have e':q.1=k:=h1.symm.trans e
      have b:valueAt (q :: qs) k=some q.2:=by simp [valueAt,List.find?_cons,e']
      rw [valV_pos e,b]; exact h2
    · have e':¬ q.1=k:=fun z=>e (h1.trans z)
      have b:valueAt (q :: qs) k=valueAt qs k:=by simp [valueAt,List.find?_cons,e']
      rw [valV_neg e,b]; exact ih
theorem KV.any {kvs:List (κ×V)} {vs:List (κ×Value)} (r:KV kvs vs) (k:κ):(kvs.any fun kv=>decide (kv.1=k))=vs.any fun kv=>decide (kv.1=k):=by
  unfold KV at r
  induction r with
  | nil=>rfl
  | cons h t ih=>rw [List.any_cons,List.any_cons,ih,h.1]
theorem KV.repl {kvs:List (κ×V)} {vs:List (κ×Value)} (r:KV kvs vs) (k:κ) {y:V} {u:Value} (ry:RelV y u) :
    KV (kvs.map fun kv=>if kv.1=k then (kv.1,y) else kv) (vs.map fun kv=>if kv.1=k then (kv.1,u) else kv):=by
  unfold KV at r ⊢
  induction r with
  | nil=>exact .nil
  | @cons p q ps qs h t ih =>
    rw [List.map_cons,List.map_cons]
    refine .cons ?_ ih
    obtain ⟨h1,h2⟩:=h
    by_cases e:p.1=k
    · rw [if_pos e,if_pos (h1.symm.trans e)]; exact ⟨h1,ry⟩
    · rw [if_neg e,if_neg (fun z=>e (h1.trans z))]; exact ⟨h1,h2⟩
theorem KV.put {kvs:List (κ×V)} {vs:List (κ×Value)} (r:KV kvs vs) (k:κ) {y:V} {u:Value} (ry:RelV y u):KV (putK kvs k y) (stored vs k u):=by
  unfold putK stored
  rw [r.any k]
  by_cases e:(vs.any fun kv=>decide (kv.1=k))=true
  · rw [if_pos e,if_pos e]; exact r.repl k ry
  · rw [if_neg e,if_neg e]; exact Paired.snoc r ⟨rfl,ry⟩
theorem KV.length {kvs:List (κ×V)} {vs:List (κ×Value)} (r:KV kvs vs):kvs.length=vs.length:=Paired.length r
end
theorem kV_is {P:Program} {w:World} {k:Key} {u:Value} (r:RelV (kV k) u):(mixKind P w).is k u=true:=by
  cases k with
  | inl i=>obtain ⟨t,e⟩:=(show ∃ t,u=Value.int i t from r); subst e; exact mixKind_int P w i t
  | inr x=>obtain ⟨t,e⟩:=(show ∃ t,u=Value.str x t from r); subst e; exact mixKind_str P w x t
theorem items_are {P:Program} {w:World}:∀ {ks:List Key} {us:List Value},Vals (ks.map kV) us→ItemsAre (mixKind P w) ks us
  | [],_,r=>by rw [List.map_nil] at r; cases r; exact .nil
  | k :: ks,_,r=>by
    rw [List.map_cons] at r
    cases r with
    | cons h t=>exact .cons (kV_is h) (items_are t)
abbrev KT (H:Hp):List (List Key×V)→List (List Key×Addr×Value)→Prop:=Paired fun p q=>p.1=q.1∧H q.2.1=some (.tup (p.1.map kV))∧RelV p.2 q.2.2
theorem KT.val {H:Hp} {kvs:List (List Key×V)} {xs:List (List Key×Addr×Value)} (r:KT H kvs xs) (k:List Key):RelO (valV kvs k) ((atKey xs k).map (·.2)):=by
  induction r with
  | nil=>exact True.intro
  | @cons p q ps qs h t ih =>
    obtain ⟨h1,_,h2⟩:=h
    by_cases e:p.1=k
    · have e':q.1=k:=h1.symm.trans e
      have b:atKey (q :: qs) k=some q.2:=by simp [atKey,List.find?_cons,e']
      rw [valV_pos e,b]; exact h2
    · have e':¬ q.1=k:=fun z=>e (h1.trans z)
      have b:atKey (q :: qs) k=atKey qs k:=by simp [atKey,List.find?_cons,e']
      rw [valV_neg e,b]; exact ih
theorem KT.repl {H:Hp} {kvs:List (List Key×V)} {xs:List (List Key×Addr×Value)} (r:KT H kvs xs) (k:List Key) {y:V} {u:Value} (ry:RelV y u) :
    KT H (kvs.map fun kv=>if kv.1=k then (kv.1,y) else kv) (xs.map (putAt k u)):=by
  induction r with
  | nil=>exact .nil
  | @cons p q ps qs h t ih =>
    rw [List.map_cons,List.map_cons]
    refine .cons ?_ ih
    obtain ⟨h1,h2,h3⟩:=h
    unfold putAt
    by_cases e:p.1=k
    · rw [if_pos e,if_pos (h1.symm.trans e)]; exact ⟨h1,h2,ry⟩
    · rw [if_neg e,if_neg (fun z=>e (h1.trans z))]; exact ⟨h1,h2,h3⟩
theorem KT.put {H:Hp} {kvs:List (List Key×V)} {xs:List (List Key×Addr×Value)} (r:KT H kvs xs) (k:List Key) {b:Addr} {y:V} {u:Value} (hb:H b=some (.tup (k.map kV))) (ry:RelV y u) :
    KT H (putK kvs k y) (storedH xs k b u):=by
  have e:(kvs.any fun kv=>decide (kv.1=k))=(atKey xs k).isSome:=by
    rw [valV_any,(r.val k).isSome_eq,Option.isSome_map]
  unfold putK storedH
  rw [e]
  by_cases q:(atKey xs k).isSome=true
  · rw [if_pos q,if_pos q]; exact r.repl k ry
  · rw [if_neg q,if_neg q]; exact Paired.snoc r ⟨rfl,hb,ry⟩
theorem KT.keeps {H H':Hp} {kvs:List (List Key×V)} {xs:List (List Key×Addr×Value)} (r:KT H kvs xs) (ht:∀ b ys,H b=some (.tup ys)→H' b=some (.tup ys)):KT H' kvs xs :=
  Paired.mapP r fun _ _ z=>⟨z.1,ht _ _ z.2.1,z.2.2⟩
section
variable {P:Program} {w:World} {H:Hp} {h:Heap} {a:Addr}
theorem rd_of {u:HO} (ok:HOk P w H h) (e:Rd H a u):ObjOk P w H h a u:=e.ok ok
theorem dk_rd {kvs:List (Key×V)} (ok:HOk P w H h) (e:Rd H a (.dK kvs)):kvs.length≤sizeLine∧(a == sysModules)=false∧∃ vs,KV kvs vs∧h.DictOf (mixKind P w) a vs :=
  show ObjOk P w H h a (.dK kvs) from rd_of ok e
theorem dk_of {kvs:List (Key×V)} (ok:HOk P w H h) (e:H a=some (.dK kvs)):kvs.length≤sizeLine∧(a == sysModules)=false∧∃ vs,KV kvs vs∧h.DictOf (mixKind P w) a vs:=dk_rd ok (.inl e)
theorem key_of {ks:List Key} (ok:HOk P w H h) (e:H a=some (.tup (ks.map kV))):(tupleKind (mixKind P w)).is h ks a:=by
  obtain ⟨_,its,r,o,h1,h2,n,h3⟩:=(show ObjOk P w H h a (.tup (ks.map kV)) from ok a _ e)
  exact ⟨o,its.toArray,n,h1,h2,h3,by simpa using items_are r⟩
theorem dt_rd {kvs:List (List Key×V)} (ok:HOk P w H h) (e:Rd H a (.dT kvs)):kvs.length≤sizeLine∧(a == sysModules)=false ∧
    ∃ xs,KT H kvs xs∧h.DictOfH (tupleKind (mixKind P w)) a xs:=by
  obtain ⟨z,y,xs,r,o,es,ep,h1,h2,h3,h4,h5⟩:=(show ObjOk P w H h a (.dT kvs) from rd_of ok e)
  refine ⟨z,y,xs,r,o,es,ep,h1,h2,h3,h4,fun x hx=>?_,h5⟩
  have all:∀ {l:List (List Key×V)} {m:List (List Key×Addr×Value)},KT H l m→∀ x∈m,(tupleKind (mixKind P w)).is h x.1 x.2.1:=by
    intro l m q
    induction q with
    | nil=>intro x hx; exact nomatch hx
    | @cons p q ps qs hq t ih =>
      intro x hx
      rcases List.mem_cons.mp hx with e | hx
      · subst e
        exact key_of ok (by rw [← hq.1]; exact hq.2.1)
      · exact ih x hx
  exact all r x hx
theorem dt_of {kvs:List (List Key×V)} (ok:HOk P w H h) (e:H a=some (.dT kvs)):kvs.length≤sizeLine∧(a == sysModules)=false ∧
    ∃ xs,KT H kvs xs∧h.DictOfH (tupleKind (mixKind P w)) a xs:=dt_rd ok (.inl e)
end
def DGet (H:Hp) (a:Addr) (y:V) (r:Option V):Prop :=
  (∃ kvs k,Rd H a (.dK kvs)∧y=kV k∧r=valV kvs k)∨∃ kvs k b,Rd H a (.dT kvs)∧y=.ref b∧H b=some (.tup (k.map kV))∧r=valV kvs k
def DPut (H:Hp) (a:Addr) (y v:V) (H':Hp):Prop :=
  (∃ kvs k,H a=some (.dK kvs)∧y=kV k∧kvs.length < sizeLine∧H'=upd H a (.dK (putK kvs k v))) ∨
  ∃ kvs k b,H a=some (.dT kvs)∧y=.ref b∧H b=some (.tup (k.map kV))∧kvs.length < sizeLine∧H'=upd H a (.dT (putK kvs k v))
theorem DGet.k {H:Hp} {a:Addr} {kvs:List (Key×V)} {k:Key} (e:H a=some (.dK kvs)):DGet H a (kV k) (valV kvs k):=.inl ⟨kvs,k,.inl e,rfl,rfl⟩
theorem DGet.t {H:Hp} {a b:Addr} {kvs:List (List Key×V)} {k:List Key} (e:H a=some (.dT kvs)) (eb:H b=some (.tup (k.map kV))):DGet H a (.ref b) (valV kvs k):=.inr ⟨kvs,k,b,.inl e,rfl,eb,rfl⟩
theorem DPut.k {H:Hp} {a:Addr} {kvs:List (Key×V)} {k:Key} {v:V} (e:H a=some (.dK kvs)) (hl:kvs.length < sizeLine):DPut H a (kV k) v (upd H a (.dK (putK kvs k v))):=.inl ⟨kvs,k,e,rfl,hl,rfl⟩
theorem DPut.t {H:Hp} {a b:Addr} {kvs:List (List Key×V)} {k:List Key} {v:V} (e:H a=some (.dT kvs)) (eb:H b=some (.tup (k.map kV))) (hl:kvs.length < sizeLine) :
    DPut H a (.ref b) v (upd H a (.dT (putK kvs k v))):=.inr ⟨kvs,k,b,e,rfl,eb,hl,rfl⟩
section
variable {X:Cx} {pins:List (Addr×Obj)} {σ:St} {H:Hp} {s:Shared} {a:Addr} {y v:V} {u r:Value} {o:Option V} {A:Around} {E:Value→Shared→Prop}
theorem Inv.big (I:Inv X pins σ H s):sysModules < s.heap.objs.size:=by
  have h:mainGlobals < s.heap.objs.size:=(I.mod.glob.keeps I.bk).lt
  exact Nat.lt_trans (by decide) h
theorem d_getItem {Q:Value→Shared→Prop} (hu:A.units + 1 < cLine) (I:Inv X pins σ H s) (g:DGet H a y (some v)) (ry:RelV y u) (h:∀ w' s',Inv X pins σ H s'→RelV v w'→Q w' s') :
    wpAny (model X.prog X.w) A (getItem (.ref a) u) Q E s:=by
  rcases g with ⟨kvs,k,e,ey,l⟩ | ⟨kvs,k,b,e,ey,eb,l⟩
  · subst ey
    obtain ⟨z,hd,vs,rel,dd⟩:=dk_rd I.hok e
    obtain ⟨w',hw,rw'⟩:=RelO.some_of (v:=v) (o:=valueAt vs k) (by rw [l]; exact rel.val k)
    exact wpAny_getItem_of (kV_is ry) dd.mapOf hw (h w' _ (I.tok _) rw')
  · subst ey
    cases (show u=Value.ref b from ry)
    obtain ⟨z,hd,xs,rel,dd⟩:=dt_rd I.hok e
    obtain ⟨w',hw,rw'⟩:=RelO.some_of (v:=v) (o:=(atKey xs k).map (·.2)) (by rw [l]; exact rel.val k)
    obtain ⟨p,hp,hp2⟩:=Option.map_eq_some_iff.mp hw
    refine wpAny_getItem_heap (tupleKind_room_in1 hu) (key_of I.hok eb) dd hp ?_
    rw [hp2]
    exact h w' _ (I.tok _) rw'
theorem d_in {Q:Value→Shared→Prop} (hu:A.units + 1 < cLine) (I:Inv X pins σ H s) (g:DGet H a y o) (ry:RelV y u) (h:∀ s',Inv X pins σ H s'→Q (.bool o.isSome) s') :
    wpAny (model X.prog X.w) A (compareOp .In u (.ref a)) Q E s:=by
  rcases g with ⟨kvs,k,e,ey,l⟩ | ⟨kvs,k,b,e,ey,eb,l⟩
  · subst ey
    obtain ⟨z,hd,vs,rel,dd⟩:=dk_rd I.hok e
    refine wpAny_in_of (kV_is ry) hd dd.mapOf ?_
    rw [← (rel.val k).isSome_eq,← l]
    exact h _ (I.tok _)
  · subst ey
    cases (show u=Value.ref b from ry)
    obtain ⟨z,hd,xs,rel,dd⟩:=dt_rd I.hok e
    refine wpAny_in_heap (tupleKind_room_in1 hu) (key_of I.hok eb) hd dd ?_
    have q:=(rel.val k).isSome_eq
    rw [Option.isSome_map] at q
    rw [← q,← l]
    exact h _ (I.tok _)
theorem d_notIn {Q:Value→Shared→Prop} (hu:A.units + 1 < cLine) (I:Inv X pins σ H s) (g:DGet H a y o) (ry:RelV y u) (h:∀ s',Inv X pins σ H s'→Q (.bool (!o.isSome)) s') :
    wpAny (model X.prog X.w) A (compareOp .NotIn u (.ref a)) Q E s:=by
  rcases g with ⟨kvs,k,e,ey,l⟩ | ⟨kvs,k,b,e,ey,eb,l⟩
  · subst ey
    obtain ⟨z,hd,vs,rel,dd⟩:=dk_rd I.hok e
    refine wpAny_notIn_of (kV_is ry) hd dd.mapOf ?_
    rw [← (rel.val k).isSome_eq,← l]
    exact h _ (I.tok _)
  · subst ey
    cases (show u=Value.ref b from ry)
    obtain ⟨z,hd,xs,rel,dd⟩:=dt_rd I.hok e
    refine wpAny_notIn_heap (tupleKind_room_in1 hu) (key_of I.hok eb) hd dd ?_
    have q:=(rel.val k).isSome_eq
    rw [Option.isSome_map] at q
    rw [← q,← l]
    exact h _ (I.tok _)
theorem d_write {h':Heap} {t':Nat} {ob:HO} (I:Inv X pins σ H s) (mu:Mut (H a)) (hs:Heap.SameBut a s.heap h') (he:∃ q,h'.get? a=some q) (new:ObjOk X.prog X.w (upd H a ob) h' a ob) :
    Inv X pins σ (upd H a ob) { s with heap:=h',toks:=t' } :=
  I.write (x:=a) (e:=a) mu (.inl rfl) (fun b q hb z=>(hs.2 b hb).trans z) he new
theorem dk_new {P:Program} {w:World} {H':Hp} {h':Heap} {kvs:List (Key×V)} {vs:List (Key×Value)} (z:kvs.length≤sizeLine) (hd:(a == sysModules)=false) (rel:KV kvs vs) (dd:h'.DictOf (mixKind P w) a vs) :
    ObjOk P w H' h' a (.dK kvs):=⟨z,hd,vs,rel,dd⟩
theorem d_setItem {H':Hp} {Q:Unit→Shared→Prop} (hu:A.units + 1 < cLine) (I:Inv X pins σ H s) (g:DPut H a y v H') (ry:RelV y u) (rv:RelV v r) (h:∀ s',Inv X pins σ H' s'→Q () s') :
    wpAny (model X.prog X.w) A (setItem (.ref a) u r) Q E s:=by
  rcases g with ⟨kvs,k,e,ey,l,eH⟩ | ⟨kvs,k,b,e,ey,eb,l,eH⟩
  · subst ey eH
    obtain ⟨z,hd,vs,rel,dd⟩:=dk_of I.hok e
    have hz:vs.length≤sizeLine:=by rw [← rel.length]; exact z
    have hl:(putK kvs k v).length≤sizeLine:=by have:=length_putK kvs k v; omega
    refine wpAny_setItem_pairs (hsz:=hz) (kV_is ry) dd fun h' dd' hs=>h _ ?_
    have he:∃ q,h'.get? a=some q:=let ⟨q,_,_,hq,_⟩:=dd'; ⟨q,hq⟩
    exact d_write I (by rw [e]; exact True.intro) hs he (dk_new hl hd (rel.put k rv) dd')
  · subst ey eH
    cases (show u=Value.ref b from ry)
    obtain ⟨z,hd,xs,rel,dd⟩:=dt_of I.hok e
    have hz:xs.length≤sizeLine:=by rw [← Paired.length rel]; exact z
    have hl:(putK kvs k v).length≤sizeLine:=by have:=length_putK kvs k v; omega
    refine wpAny_setItem_heap (hsz:=hz) (tupleKind_room_in1 hu) (key_of I.hok eb) dd fun h' dd' hs=>h _ ?_
    obtain ⟨q,es,ep,hq,h2,h3,h4,_,h5⟩:=dd'
    refine d_write I (by rw [e]; exact True.intro) hs ⟨q,hq⟩ ⟨hl,hd,_,(rel.put k eb rv).keeps fun c ys ec=>?_,q,es,ep,hq,h2,h3,h4,h5⟩
    rw [upd_ne (ne_of ec e (fun z=>nomatch z))]
    exact ec
end
section
variable {X:Cx} {pins:List (Addr×Obj)} {σ:St} {H:Hp} {s:Shared} {a:Addr} {kvs:List (Key×V)} {k:Key} {u:Value} {A:Around} {E:Value→Shared→Prop}
theorem d_len {Q:Value→Shared→Prop} (I:Inv X pins σ H s) (e:Rd H a (.dK kvs)) (h:∀ t s',Inv X pins σ H s'→Q (.int kvs.length t) s'):wpAny (model X.prog X.w) A (call (.builtin "len") [.ref a]) Q E s:=by
  obtain ⟨z,hd,vs,rel,dd⟩:=dk_rd I.hok e
  refine call_len_dict hd dd (by rw [← rel.length]; rw [sizeLine_eq] at z; omega) ?_
  rw [← rel.length]
  exact h _ _ (I.tok _)
end
def NoSl (i:Expr):Prop:=∀ ov iv,subscripted i false ov iv=operate [ov,iv] (getItem ov iv)
theorem subD_of {prog:Program} {w:World} {A:Around} {E:Value→Shared→Prop} {s:Shared} {env:Env} {value slice:Expr} {pos:Pos} {T id:String} {Q:Value→Shared→Prop}
    (hl:typeLookup (.type T) "__getitem__"=pure (some (.builtin id))) (hs:NoSl slice)
    (h:wpAny (model prog w) A (eval value env) (fun o s₁=>wpAny (model prog w) A (eval slice env) (fun i s₂=>s₂.TypeIs o T∧wpAny (model prog w) A (getItem o i) Q E s₂) E s₁) E s) :
    wpAny (model prog w) A (eval (.Subscript value slice pos) env) Q E s:=by
  refine Subscript_ (wpAny_mono h (fun o s₁ h₁=>wpAny_mono h₁ (fun i s₂ h₂=>?_) fun _ _ x=>x) fun _ _ x=>x)
  obtain ⟨hT,h₂⟩:=h₂
  unfold subscriptTail
  refine wpAny_bind ?_
  rw [getitemInPython_of_ne hT.not_modules]
  refine wpAny_bind (wpAny_specialOf hT hl ?_)
  have fin:wpAny (model prog w) A (subscripted slice false o i) (fun r s₃=>wpAny (model prog w) A (letTemporaryGo value o r >>= fun _=>pure r) Q E s₃) E s₂:=by
    rw [hs o i]
    exact wpAny_operating (wpAny_mono h₂ (fun r s₃ h₃=>wpAny_bind (wpAny_letTemporaryGo (wpAny_pure h₃))) fun _ _ x=>x)
  first
    | exact wpAny_pure (wpAny_bind fin)
    | exact wpAny_bind (wpAny_pure (wpAny_bind fin))
    | exact wpAny_bind fin
theorem dict_typeIs {X:Cx} {pins:List (Addr×Obj)} {σ:St} {H:Hp} {s:Shared} {a:Addr} {y:V} {o:Option V} (I:Inv X pins σ H s) (g:DGet H a y o):s.TypeIs (.ref a) "dict":=by
  rcases g with ⟨kvs,k,e,_,_⟩ | ⟨kvs,k,b,e,_,_,_⟩
  · obtain ⟨_,_,vs,_,dd⟩:=dk_rd I.hok e
    exact dd.typeIs
  · obtain ⟨_,_,xs,_,dd⟩:=dt_rd I.hok e
    exact dd.typeIs
def tDGet (td ty:TE):TE:=fun σ H Q=>td σ H fun x H1=>ty σ H1 fun y H2=>∃ a v,x=.ref a∧DGet H2 a y (some v)∧Q v H2
def tDIn (ty td:TE):TE:=fun σ H Q=>ty σ H fun y H1=>td σ H1 fun x H2=>∃ a o,x=.ref a∧DGet H2 a y o∧Q (.bl o.isSome) H2
def tDNotIn (ty td:TE):TE:=fun σ H Q=>ty σ H fun y H1=>td σ H1 fun x H2=>∃ a o,x=.ref a∧DGet H2 a y o∧Q (.bl (!o.isSome)) H2
def sDPut (td ty tv:TE):TS:=fun D σ H=>tv σ H fun v H1=>td σ H1 fun x H2=>ty σ H2 fun y H3=>∃ a H4,x=.ref a∧DPut H3 a y v H4∧D.nx σ H4
section
variable {X:Cx} {o i e value:Expr} {pos pos' tpos:Pos} {td ty tv:TE}
theorem pe_dget (hu:X.A.units + 1 < cLine) (ho:PE X o td) (hi:PE X i ty) (hs:NoSl i):PE X (.Subscript o i pos) (tDGet td ty):=by
  intro pins s σ H Q I h
  refine subD_of PySem.F.slot_dict_getitem.lookup hs (thn (ho pins s σ H _ I h) fun u s1 ⟨x,H1,I1,rx,q1⟩=>thn (hi pins s1 σ H1 _ I1 q1) fun iv s2 ⟨y,H2,I2,ry,a,v,ex,g,q2⟩=>?_)
  subst ex
  obtain rfl:u=Value.ref a:=rx
  exact ⟨dict_typeIs I2 g,d_getItem hu I2 g ry fun w' s3 I3 rw'=>⟨v,H2,I3,rw',q2⟩⟩
theorem pc_din (hu:X.A.units + 1 < cLine) (hi:PE X i ty) (ho:PE X o td):PC X .In i o (tDIn ty td):=by
  intro pins s σ H Q I h
  refine thn (hi pins s σ H _ I h) fun iv s1 ⟨y,H1,I1,ry,q1⟩=>thn (ho pins s1 σ H1 _ I1 q1) fun u s2 ⟨x,H2,I2,rx,a,ov,ex,g,q2⟩=>?_
  subst ex
  obtain rfl:u=Value.ref a:=rx
  exact d_in hu I2 g ry fun s3 I3=>⟨.bl ov.isSome,H2,I3,rfl,q2⟩
theorem pc_dnotin (hu:X.A.units + 1 < cLine) (hi:PE X i ty) (ho:PE X o td):PC X .NotIn i o (tDNotIn ty td):=by
  intro pins s σ H Q I h
  refine thn (hi pins s σ H _ I h) fun iv s1 ⟨y,H1,I1,ry,q1⟩=>thn (ho pins s1 σ H1 _ I1 q1) fun u s2 ⟨x,H2,I2,rx,a,ov,ex,g,q2⟩=>?_
  subst ex
  obtain rfl:u=Value.ref a:=rx
  exact d_notIn hu I2 g ry fun s3 I3=>⟨.bl (!ov.isSome),H2,I3,rfl,q2⟩
theorem ps_dput (hu:X.A.units + 1 < cLine) (ho:PE X o td) (hi:PE X i ty) (hv:PE X value tv) (hs:swapsWith value (some (.Subscript o i pos')) pos.line X.env=pure false) :
    PS X (.Assign [.Subscript o i pos'] value pos) (sDPut td ty tv):=by
  intro pins s σ H D I h
  refine wpAny_Assign_Subscript (thn (hv pins s σ H _ I h) fun r s1 ⟨v,H1,I1,rv,q1⟩=>thn (ho pins s1 σ H1 _ I1 q1) fun u s2 ⟨x,H2,I2,rx,q2⟩=>thn (hi pins s2 σ H2 _ I2 q2) fun iv s3 ⟨y,H3,I3,ry,a,H4,ex,g,q3⟩=>?_) hs
  subst ex
  obtain rfl:u=Value.ref a:=rx
  exact d_setItem hu I3 g ry rv fun s4 I4=>⟨σ,H4,I4,q3⟩
end
theorem dk_empty {P:Program} {w:World} {H:Hp} (h:Heap) (hb:sysModules < h.objs.size):ObjOk P w H (h.push { cls:=.type "dict",data:=.dict #[] }) h.objs.size (.dK []) :=
  ⟨Nat.zero_le _,beq_eq_false_iff_ne.mpr (Ne.symm (Nat.ne_of_lt hb)),[],.nil,Heap.DictOf.new h⟩
theorem dt_empty {P:Program} {w:World} {H:Hp} (h:Heap) (hb:sysModules < h.objs.size):ObjOk P w H (h.push { cls:=.type "dict",data:=.dict #[] }) h.objs.size (.dT []) :=
  ⟨Nat.zero_le _,beq_eq_false_iff_ne.mpr (Ne.symm (Nat.ne_of_lt hb)),[],.nil,_,#[],0,Heap.get?_push_size _ rfl,⟨rfl,rfl,rfl⟩,rfl,rfl,List.nodup_nil⟩
def tDNewK:TE:=fun _ H Q=>∀ p,H p=none→Q (.ref p) (upd H p (.dK []))
def tDNewT:TE:=fun _ H Q=>∀ p,H p=none→Q (.ref p) (upd H p (.dT []))
section
variable {X:Cx} {pos:Pos}
theorem pe_dnewK:PE X (.Dict [] [] pos) tDNewK:=fun pins s σ H Q I h =>
  wpAny_Dict_empty ⟨.ref s.heap.objs.size,_,I.laid (a:=s.heap.objs.size) (o:=.dK []) (t':=s.toks) (fun _ _ q=>Heap.get?_push_of_some _ q) (Nat.le_refl _) (dk_empty s.heap I.big),rfl,h _ (I.hok.fresh (Nat.le_refl _))⟩
theorem pe_dnewT:PE X (.Dict [] [] pos) tDNewT:=fun pins s σ H Q I h =>
  wpAny_Dict_empty ⟨.ref s.heap.objs.size,_,I.laid (a:=s.heap.objs.size) (o:=.dT []) (t':=s.toks) (fun _ _ q=>Heap.get?_push_of_some _ q) (Nat.le_refl _) (dt_empty s.heap I.big),rfl,h _ (I.hok.fresh (Nat.le_refl _))⟩
end
abbrev VV:List (V×V)→List (Value×Value)→Prop:=Paired fun p q=>RelV p.1 q.1∧RelV p.2 q.2
structure M2 (X:Cx) (o:Expr) (m:Str) (apos:Pos) (e f:Expr) (cpos:Pos):Prop where
  base:attributeBase o m X.env (eval o X.env)=eval o X.env
  few:((backTo cpos (starEach [e,f] X.env)).all (fun x=>!x.1) && (backToKw cpos (keywordEach [] X.env)).all (fun x=>x.1.isSome)
    && decide (([e,f]:List Expr).length + ([]:List Keyword).length + (if ([]:List Keyword).isEmpty then 0 else 1) < 30))=true
  line:(apos.endLine == cpos.line)=true
  trees:backTo cpos (starEach [e,f] X.env)=[(false,eval e X.env),(false,eval f X.env)]
def IsD (H:Hp) (a:Addr):Prop:=(∃ kvs,Rd H a (.dK kvs))∨∃ kvs,Rd H a (.dT kvs)
theorem isD_at {X:Cx} {pins:List (Addr×Obj)} {σ:St} {H:Hp} {s:Shared} {a:Addr} (I:Inv X pins σ H s) (d:IsD H a) :
    s.TypeIs (.ref a) "dict"∧(∀ b,Value.ref a=.ref b→∃ ob,s.heap.get? b=some ob∧ob.dict=none)∧(a == sysModules)=false:=by
  rcases d with ⟨kvs,e⟩ | ⟨kvs,e⟩
  · obtain ⟨_,hd,vs,_,dd⟩:=dk_rd I.hok e
    refine ⟨dd.typeIs,fun b q=>?_,hd⟩
    cases q
    obtain ⟨ob,_,_,h1,h2,_⟩:=dd
    exact ⟨ob,h1,h2.2.1⟩
  · obtain ⟨_,hd,xs,_,dd⟩:=dt_rd I.hok e
    refine ⟨dd.typeIs,fun b q=>?_,hd⟩
    cases q
    obtain ⟨ob,_,_,h1,h2,_⟩:=dd
    exact ⟨ob,h1,h2.2.1⟩
section
variable {X:Cx} {pins:List (Addr×Obj)} {σ:St} {H:Hp} {s:Shared} {a:Addr} {y d:V} {u r:Value} {o:Option V} {A:Around} {E:Value→Shared→Prop}
theorem d_get2 {Q:Value→Shared→Prop} (hu:A.units + 1 < cLine) (I:Inv X pins σ H s) (g:DGet H a y o) (ry:RelV y u) (rd:RelV d r) (h:∀ w' s',Inv X pins σ H s'→RelV (o.getD d) w'→Q w' s') :
    wpAny (model X.prog X.w) A (call (.builtin "dict.get") [.ref a,u,r]) Q E s:=by
  rcases g with ⟨kvs,k,e,ey,l⟩ | ⟨kvs,k,b,e,ey,eb,l⟩
  · subst ey
    obtain ⟨z,hd,vs,rel,dd⟩:=dk_rd I.hok e
    refine call_meetsIn PySem.F.slot_dict_get dd.typeIs PySem.F.entry_dict_get (PySem.F.args_dict_get_3 _ _ _) (meets_dict_get_default (mixKind X.prog X.w) a (kV_is ry) hd r) ⟨_,dd.mapOf,h _ _ (I.tok _) ?_⟩
    rw [l]
    exact (rel.val k).getD rd
  · subst ey
    cases (show u=Value.ref b from ry)
    obtain ⟨z,hd,xs,rel,dd⟩:=dt_rd I.hok e
    refine call_meetsIn PySem.F.slot_dict_get dd.typeIs PySem.F.entry_dict_get (PySem.F.args_dict_get_3 _ _ _) (meetsH_dict_get_default (tupleKind (mixKind X.prog X.w)) a b hd r) ⟨tupleKind_room_in1 hu,k,xs,key_of I.hok eb,dd,h _ _ (I.tok _) ?_⟩
    rw [l]
    exact (rel.val k).getD rd
end
def tDGet2 (td ty tx:TE):TE:=fun σ H Q=>td σ H fun x H1=>∃ a,x=.ref a∧IsD H1 a∧ty σ H1 fun y H2=>tx σ H2 fun z H3=>∃ o,DGet H3 a y o∧Q (o.getD z) H3
section
variable {X:Cx} {o e f:Expr} {apos cpos:Pos} {td ty tx:TE}
theorem pe_dget2 (hu:X.A.units + 1 < cLine) (ho:PE X o td) (he:PE X e ty) (hf:PE X f tx) (m:M2 X o "get" apos e f cpos):PE X (.Call (.Attribute o "get" apos) [e,f] [] cpos) (tDGet2 td ty tx):=by
  intro pins s σ H Q I h
  refine wpAny_Call_method m.base m.few m.line PySem.F.plainAttrs_dict PySem.F.slot_dict_get PySem.F.type_dict_get (thn (ho pins s σ H _ I h) fun u s1 ⟨x,H1,I1,rx,a,ex,d,q1⟩=>?_)
  subst ex
  obtain rfl:u=Value.ref a:=rx
  obtain ⟨t1,t2,_⟩:=isD_at I1 d
  refine ⟨t1,t2,?_⟩
  rw [m.trees]
  refine Calls.callWith_builtin rfl (Calls.evalArgs_plain (Calls.spliced_cons (thn (he pins s1 σ H1 _ I1 q1) fun iv s2 ⟨y,H2,I2,ry,q2⟩ =>
    Calls.spliced_cons (thn (hf pins s2 σ H2 _ I2 q2) fun fv s3 ⟨z,H3,I3,rz,ov,g,q3⟩=>Calls.spliced_nil ?_))))
  exact d_get2 hu I3 g ry rz fun w' s4 I4 rw'=>⟨_,H3,I4,rw',q3⟩
end
section
variable {X:Cx} {pins:List (Addr×Obj)} {σ:St} {H:Hp} {s:Shared} {a:Addr} {kvs:List (Key×V)} {A:Around} {E:Value→Shared→Prop}
end
section
variable {X:Cx} {pins:List (Addr×Obj)} {σ:St} {H:Hp} {s:Shared} {a:Addr} {y:V} {u:Value} {A:Around} {E:Value→Shared→Prop}
end
end L2
namespace HT
open PySem PyProof.Rows
def lexLt:List Int→List Int→Bool
  | [],[]=>false
  | [],_ :: _=>true
  | _ :: _,[]=>false
  | x :: xs,y :: ys=>if x=y then lexLt xs ys else decide (x < y)
theorem lexLt_cons (x y:Int) (xs ys:List Int):lexLt (x :: xs) (y :: ys)=if x=y then lexLt xs ys else decide (x < y):=rfl
theorem lexLt_nil_nil:lexLt [] []=false:=rfl
section
open PySem.SeqAt
open PySem.AutoSeq1 (wpAny_loadPart')
open PySem.MeetsSeq PySem.MeetsSeq2 PySem.MeetsSeq3
end
section
variable {prog:Program} {w:World} {A:Around} {E:Value→Shared→Prop} {s:Shared}
def sIx (n d:Nat):Option Int→Nat
  | none=>d
  | some v=>if v < 0 then (v + (n:Int)).toNat else min v.toNat n
end
end HT
namespace L2
open PySem PySem.Spec PyProof.Rows
abbrev TO:=St→Hp→(Option Int→Hp→Prop)→Prop
def PO (X:Cx) (e:Option Expr) (t:TO):Prop :=
  ∀ (pins:List (Addr×Obj)) (s:Shared) (σ:St) (H:Hp) (Q:Option Int→Hp→Prop),Inv X pins σ H s→t σ H Q →
    wpAny (model X.prog X.w) X.A (evalPart e X.env) (fun u s'=>∃ o H',Inv X pins σ H' s'∧IsPart u o∧Q o H') X.xe s
def tPart (t:TE):TO:=fun σ H Q=>t σ H fun x H1=>∃ i,x=.int i∧Q (some i) H1
theorem intsAre_of {ns:List Int}:∀ {us:List Value},Vals (ns.map V.int) us→IntsAre us ns:=by
  induction ns with
  | nil=>intro us r; rw [List.map_nil] at r; cases r; exact .nil
  | cons n ns ih =>
    intro us r
    rw [List.map_cons] at r
    cases r with
    | cons r1 r2 =>
      obtain ⟨t,e⟩:=r1
      subst e
      exact .cons n t (ih r2)
section
variable {X:Cx} {e:Expr} {te:TE} {lo hi:Option Expr} {tl th:TO} {pos p2:Pos}
theorem po_some (h:PE X e te):PO X (some e) (tPart te):=by
  intro pins s σ H Q I hw
  rw [evalPart_some]
  refine thn (h pins s σ H _ I hw) fun u s1 ⟨x,H1,I1,r1,q1⟩=>?_
  obtain ⟨i,rfl,q⟩:=q1
  obtain ⟨t,rfl⟩:=r1
  exact ⟨some i,H1,I1,.int i t,q⟩
def SlR (X:Cx) (r:V→Option Int→Option Int→Hp→VK→Prop):Prop :=
  ∀ (pins:List (Addr×Obj)) (s:Shared) (σ:St) (H:Hp) (x:V) (v vl vu:Value) (lo hi:Option Int) (sl:Addr) (Q:VK),Inv X pins σ H s→RelV x v→s.heap.IsSliceOf sl vl vu .none→IsPart vl lo→IsPart vu hi→r x lo hi H Q →
    ∃ T id,typeLookup (.type T) "__getitem__"=pure (some (.builtin id))∧s.TypeIs v T∧wpAny (model X.prog X.w) X.A (getItem v (.ref sl)) (EP X pins σ Q) X.xe s
def tSl (r:V→Option Int→Option Int→Hp→VK→Prop) (te:TE) (tl th:TO):TE:=fun σ H Q=>te σ H fun x H1=>tl σ H1 fun l H2=>th σ H2 fun u H3=>r x l u H3 Q
theorem pe_slice {r:V→Option Int→Option Int→Hp→VK→Prop} (hr:SlR X r) (he:PE X e te) (hl:PO X lo tl) (hu:PO X hi th):PE X (.Subscript e (.Slice lo hi none p2) pos) (tSl r te tl th):=by
  intro pins s σ H Q I h
  refine Subscript_ (thn (he pins s σ H _ I h) fun v s1 ⟨x,H1,I1,r1,q1⟩=>?_)
  refine wpAny_Slice (thn (hl pins s1 σ H1 _ I1 q1) fun vl s2 ⟨l,H2,I2,pl,q2⟩=>thn (hu pins s2 σ H2 _ I2 q2) fun vu s3 ⟨u,H3,I3,pu,q3⟩=>?_)
  rw [evalPart_none]
  refine wpAny_pure ?_
  have I4:Inv X pins σ H3 { s3 with heap:=s3.heap.push { cls:=.type "slice",data:=.fields #[vl,vu,.none] } }:=I3.kept (t':=s3.toks) fun b ob q=>Heap.get?_push_of_some _ q
  obtain ⟨T,id,hT,ht,hg⟩:=hr pins { s3 with heap:=s3.heap.push { cls:=.type "slice",data:=.fields #[vl,vu,.none] } } σ H3 x v vl vu l u s3.heap.objs.size Q I4 r1 (Heap.IsSliceOf.new ..) pl pu q3
  show wpAny (model X.prog X.w) X.A (subscriptTail e (.Slice lo hi none p2) v (.ref s3.heap.objs.size)) (EP X pins σ Q) X.xe { s3 with heap:=s3.heap.push { cls:=.type "slice",data:=.fields #[vl,vu,.none] } }
  exact tail_any (ops:=[.ref s3.heap.objs.size,v]) ht hT hg (by with_unfolding_all rfl)
def cutV (xs:List V) (lo hi:Option Int):List V:=(xs.drop (HT.sIx xs.length 0 lo)).take (HT.sIx xs.length xs.length hi - HT.sIx xs.length 0 lo)
theorem cutV_length (xs:List V) (lo hi:Option Int):(cutV xs lo hi).length≤xs.length:=by
  unfold cutV
  rw [List.length_take,List.length_drop]
  omega
end
end L2
namespace L2
open PySem PySem.Spec PyProof.Rows
def ixN (n:Nat) (i:Int):Option Nat:=if 0≤i then (if i < n then some i.toNat else none) else if -(n:Int)≤i then some (i + n).toNat else none
def atI {α:Type} (xs:List α) (i:Int):Option α:=(ixN xs.length i).bind fun j=>xs[j]?
theorem ixN_seq {n:Nat} {i:Int} {j:Nat} (h:ixN n i=some j):seqIndex? i n=some j∧j < n∧-(n:Int)≤i∧i < n:=by
  unfold ixN at h
  by_cases h0:0≤i
  · rw [if_pos h0] at h
    by_cases h1:i < n
    · rw [if_pos h1] at h
      have e:i.toNat=j:=Option.some.inj h
      exact ⟨by rw [seqIndex_of h0 h1,e],by omega,by omega,h1⟩
    · rw [if_neg h1] at h; cases h
  · rw [if_neg h0] at h
    by_cases h1:-(n:Int)≤i
    · rw [if_pos h1] at h
      have e:(i + n).toNat=j:=Option.some.inj h
      exact ⟨by rw [seqIndex_neg (by omega) h1,e],by omega,h1,by omega⟩
    · rw [if_neg h1] at h; cases h
theorem atI_get {α:Type} {xs:List α} {i:Int} {v:α} (h:atI xs i=some v):∃ j,seqIndex? i xs.length=some j∧xs[j]?=some v∧j < xs.length∧-(xs.length:Int)≤i∧i < xs.length:=by
  unfold atI at h
  cases e:ixN xs.length i with
  | none=>rw [e] at h; cases h
  | some j =>
    rw [e] at h
    obtain ⟨h1,h2,h3,h4⟩:=ixN_seq e
    exact ⟨j,h1,h,h2,h3,h4⟩
theorem atI_nat {α:Type} {xs:List α} {j:Nat} {v:α} (h:xs[j]?=some v):atI xs (j:Int)=some v:=by
  have hj:j < xs.length:=(List.getElem?_eq_some_iff.mp h).1
  have e:ixN xs.length (j:Int)=some j:=by
    unfold ixN
    rw [if_pos (by omega),if_pos (by omega)]; simp
  unfold atI; rw [e]; exact h
def PlainIx (b:Expr):Prop:=∀ o i,subscripted b false o i=operate [o,i] (getItem o i)
def IxR (X:Cx) (r:R2):Prop :=
  ∀ (value slice:Expr) (pins:List (Addr×Obj)) (s:Shared) (σ:St) (H:Hp) (x y:V) (v u:Value) (Q:VK),Inv X pins σ H s→RelV x v→RelV y u→r x y H Q →
    subscripted slice false v u=operate [v,u] (getItem v u)→wpAny (model X.prog X.w) X.A (subscriptTail value slice v u) (EP X pins σ Q) X.xe s
def MtR (X:Cx) (id:String) (r:V→List V→Hp→VK→Prop):Prop :=
  ∀ (pins:List (Addr×Obj)) (s:Shared) (σ:St) (H:Hp) (x:V) (xs:List V) (v:Value) (us:List Value) (Q:VK),Inv X pins σ H s→RelV x v→Vals xs us→r x xs H Q →
    wpAny (model X.prog X.w) X.A (call (.builtin id) (v :: us)) (EP X pins σ Q) X.xe s
section
variable {X:Cx} {a b:Expr} {ta tb:TE} {pos:Pos}
theorem pe_ix {r:R2} (hr:IxR X r) (ha:PE X a ta) (hb:PE X b tb) (hs:PlainIx b):PE X (.Subscript a b pos) (tOp r ta tb):=by
  intro pins s σ H Q I h
  exact Subscript_ (binT ha hb I h fun v u s2 x y H2 I2 rx ry q=>hr a b pins s2 σ H2 x y v u Q I2 rx ry q (hs _ _))
def rIxL (K:PySem.W.Frag):R2:=fun x y H Q=>∃ p xs i v,x=.ref p∧y=.int i∧SqL K H p xs∧atI xs i=some v∧Q v H
def rIxT (K:PySem.W.Frag):R2:=fun x y H Q=>∃ p xs i v,x=.ref p∧y=.int i∧SqT K H p xs∧atI xs i=some v∧Q v H
theorem ix_list:IxR X (rIxL X.K):=by
  intro value slice pins s σ H x y v u Q I rx ry h hs
  obtain ⟨p,xs,i,z,rfl,rfl,hq,he,q⟩:=h
  cases rx
  obtain ⟨t,rfl⟩:=ry
  obtain ⟨its,r,pl,hz⟩:=I.list hq
  obtain ⟨j,h1,h2,h3,h4,h5⟩:=atI_get he
  obtain ⟨w,ew,rw'⟩:=r.get h2
  have hl:=r.length
  have hn:=line63
  have fin:EP X pins σ Q w s:=⟨z,H,I,rw',q⟩
  by_cases h0:0≤i
  · have hj:i.toNat=j:=by
      rw [seqIndex_of h0 h5] at h1
      exact Option.some.inj h1
    exact item_listR pl.isList h0 (by omega) (by rw [hj]; simpa using ew) fin hs
  · have hj:(i + (its.toArray.size:Int)).toNat=j:=by
      rw [seqIndex_neg (by omega) h4] at h1
      rw [List.size_toArray,← hl]
      exact Option.some.inj h1
    exact subscriptTail_builtinR (x:=w) pl.isList.typeIs slot_list_getitem.lookup
      (wpAny_getItem_list_neg (Q:=fun r s'=>r=w∧EP X pins σ Q r s') pl.isList (by omega) (by rw [List.size_toArray] <;> omega) (by omega) (by rw [hj]; simpa using ew) ⟨rfl,fin⟩) hs
theorem ix_tup:IxR X (rIxT X.K):=by
  intro value slice pins s σ H x y v u Q I rx ry h hs
  obtain ⟨p,xs,i,z,rfl,rfl,hq,he,q⟩:=h
  cases rx
  obtain ⟨t,rfl⟩:=ry
  obtain ⟨its,r,pl,hz⟩:=I.tuple hq
  obtain ⟨j,h1,h2,h3,h4,h5⟩:=atI_get he
  obtain ⟨w,ew,rw'⟩:=r.get h2
  have hl:=r.length
  have hn:=line63
  have fin:EP X pins σ Q w s:=⟨z,H,I,rw',q⟩
  exact subscriptTail_builtinR (x:=w) pl.typeIs slot_tuple_getitem.lookup
    (getItem_tuple (j:=j) (Q:=fun r s'=>r=w∧EP X pins σ Q r s') pl (by omega) (by omega) (by rw [List.size_toArray,← hl]; exact h1) (by simpa using ew) ⟨rfl,fin⟩) hs
theorem slice_bounds (lo hi:Option Int) (n:Nat):(sliceBounds lo hi none n).1=((HT.sIx n 0 lo:Nat):Int)∧(sliceBounds lo hi none n).2.1=((HT.sIx n n hi:Nat):Int)∧(sliceBounds lo hi none n).2.2=1:=by
  refine ⟨?_,?_,rfl⟩
  · cases lo with
    | none=>simp [sliceBounds,HT.sIx]
    | some i =>
      simp only [sliceBounds,HT.sIx,Option.getD_none,show (1:Int) > 0 by decide,if_true]
      by_cases h:i < 0
      · simp only [h,if_true] <;> omega
      · simp only [h,if_false] <;> omega
  · cases hi with
    | none=>simp [sliceBounds,HT.sIx]
    | some i =>
      simp only [sliceBounds,HT.sIx,Option.getD_none,show (1:Int) > 0 by decide,if_true]
      by_cases h:i < 0
      · simp only [h,if_true] <;> omega
      · simp only [h,if_false] <;> omega
theorem slicePick_cut (its:List Value) (lo hi:Option Int):slicePick its.toArray lo hi none=((its.drop (HT.sIx its.length 0 lo)).take (HT.sIx its.length its.length hi - HT.sIx its.length 0 lo)).toArray:=by
  obtain ⟨h1,h2,h3⟩:=slice_bounds lo hi its.toArray.size
  unfold slicePick
  rw [h1,h2,h3]
  simp only [sliceRange_one,pick_run,List.size_toArray] <;> rfl
def rSlL (K:PySem.W.Frag):V→Option Int→Option Int→Hp→VK→Prop:=fun x lo hi H Q=>∃ a xs,x=.ref a∧SqL K H a xs∧∀ p,H p=none→Q (.ref p) (upd H p (.lst (cutV xs lo hi)))
theorem sl_list:SlR X (rSlL X.K):=by
  intro pins s σ H x v vl vu lo hi sl Q I rx hs pl pu h
  obtain ⟨a,xs,rfl,hx,q⟩:=h
  cases rx
  obtain ⟨its,r,ht,hz⟩:=I.list hx
  have hlen:=r.length
  refine ⟨"list",_,slot_list_getitem.lookup,ht.isList.typeIs,?_⟩
  refine wpAny_getItem_list_slice ht.isList hs pl pu .none (by simp) ?_ (by rw [List.size_toArray] <;> omega)
  rw [slicePick_cut,← hlen]
  refine ⟨.ref s.heap.objs.size,_,I.laid (t':=s.toks) (o:=.lst (cutV xs lo hi)) (fun b ob q=>Heap.get?_push_of_some _ q) (Nat.le_refl _) ?_,rfl,q _ (I.hok.fresh (Nat.le_refl _))⟩
  exact ⟨Nat.le_trans (cutV_length xs lo hi) hz,_,0,(r.drop (HT.sIx xs.length 0 lo)).take (HT.sIx xs.length xs.length hi - HT.sIx xs.length 0 lo),Heap.get?_push_size _ rfl⟩
theorem call_len_seq:CallR X (.builtin "len") (fun xs H Q=>∃ p ys,xs=[.ref p]∧(SqL X.K H p ys∨SqT X.K H p ys)∧Q (.int ys.length) H):=by
  intro pins s σ H xs us Q I r h
  obtain ⟨p,ys,rfl,hq,q⟩:=h
  obtain ⟨u,rfl,rx⟩:=vals1 r
  cases rx
  have hn:=line63
  rcases hq with hq | hq
  · obtain ⟨its,r',pl,hz⟩:=I.list hq
    have hlen:=r'.length
    exact Calls.call_len_list pl.isList (by simp only [List.size_toArray] <;> omega) ⟨.int ys.length,H,I.tok _,⟨s.toks + 1,by rw [List.size_toArray,hlen]⟩,q⟩
  · obtain ⟨its,r',pl,hz⟩:=I.tuple hq
    have hlen:=r'.length
    exact len_tuple pl (by simp only [List.size_toArray] <;> omega) ⟨.int ys.length,H,I.tok _,⟨s.toks + 1,by rw [List.size_toArray,hlen]⟩,q⟩
theorem call_list_of:CallR X (.type "list") (fun xs H Q=>∃ p ys,xs=[.ref p]∧(SqL X.K H p ys∨SqT X.K H p ys)∧∀ l,H l=none→Q (.ref l) (upd H l (.lst ys))):=by
  intro pins s σ H xs us Q I r h
  obtain ⟨p,ys,rfl,hq,q⟩:=h
  obtain ⟨u,rfl,rx⟩:=vals1 r
  cases rx
  have fin:∀ (its:List Value),Vals ys its→ys.length≤sizeLine→∀ (h':Heap) (c':Nat),(∀ b o',s.heap.get? b=some o'→h'.get? b=some o') →
      h'.get? s.heap.objs.size=some { cls:=.type "list",dict:=none,data:=.seq its.toArray c',slots:=#[] }→EP X pins σ Q (.ref s.heap.objs.size) { s with heap:=h' }:=fun its r' hz h' c' kp e =>
    ⟨.ref s.heap.objs.size,_,I.laid (t':=s.toks) kp (Nat.le_refl _) (show ObjOk X.prog X.w _ h' _ (.lst ys) from ⟨hz,its,c',r',e⟩),rfl,q _ (I.hok.fresh (Nat.le_refl _))⟩
  rcases hq with hq | hq
  · obtain ⟨its,r',pl,hz⟩:=I.list hq
    have hlen:=r'.length
    obtain ⟨o,ho,hc,n,hd⟩:=pl.isList
    exact call_list_seq p (.inl rfl) ho hc hd (fun h' c' kp e=>fin its r' hz h' c' kp e) (by simp only [List.size_toArray] <;> omega)
  · obtain ⟨its,r',pl,hz⟩:=I.tuple hq
    have hlen:=r'.length
    obtain ⟨o,ho,hc,n,hd⟩:=pl
    exact call_list_seq p (.inr rfl) ho hc hd (fun h' c' kp e=>fin its r' hz h' c' kp e) (by simp only [List.size_toArray] <;> omega)
theorem call_tuple_of:CallR X (.type "tuple") (fun xs H Q=>∃ p ys,xs=[.ref p]∧((SqL X.K H p ys∧∀ l,H l=none→Q (.ref l) (upd H l (.tup ys)))∨(SqT X.K H p ys∧Q (.ref p) H))):=by
  intro pins s σ H xs us Q I r h
  obtain ⟨p,ys,rfl,h⟩:=h
  obtain ⟨u,rfl,rx⟩:=vals1 r
  cases rx
  rcases h with ⟨hq,q⟩ | ⟨hq,q⟩
  · obtain ⟨its,r',pl,hz⟩:=I.list hq
    have hlen:=r'.length
    refine call_tuple_list pl.isList (fun h' kp=>?_) (by simp only [List.size_toArray] <;> omega)
    have I1:Inv X pins σ H { s with heap:=h' }:=I.kept (t':=s.toks) kp
    have I2:Inv X pins σ (upd H h'.objs.size (.tup ys)) { s with heap:=h'.push { cls:=.type "tuple",data:=.seq its.toArray } } :=
      I1.laid (t':=s.toks) (fun b o e=>Heap.get?_push_of_some _ e) (Nat.le_refl _) (show ObjOk X.prog X.w _ _ _ (.tup ys) from ⟨hz,its,r',IsTup.new _ _⟩)
    exact ⟨.ref h'.objs.size,_,I2,rfl,q _ (I1.hok.fresh (Nat.le_refl _))⟩
  · obtain ⟨its,r',pl,hz⟩:=I.tuple hq
    exact call_tuple_same pl ⟨.ref p,H,I,rfl,q⟩
def tyV (K:PySem.W.Frag) (T:String) (x:V) (H:Hp):Prop:=match x with
  | .str _=>T="str"
  | .int _=>T="int"
  | .ref p=>(T="list"∧∃ xs,SqL K H p xs)∨(T="tuple"∧∃ o,K.lookup p=some o∧o.cls=.type "tuple"∧o.dict=none) ∨
      (T="dict"∧((∃ kvs,H p=some (.dK kvs))∨∃ kvs,H p=some (.dT kvs)))∨(T="set"∧∃ S n,H p=some (.set S n))
  | _=>False
theorem tyV_is {pins:List (Addr×Obj)} {σ:St} {H:Hp} {s:Shared} {T:String} {x:V} {v:Value} (I:Inv X pins σ H s) (r:RelV x v) (ty:tyV X.K T x H) :
    s.TypeIs v T∧∀ a,v=.ref a→∃ ob,s.heap.get? a=some ob∧ob.dict=none:=by
  cases x with
  | str z =>
    obtain ⟨t,rfl⟩:=r
    cases (show T="str" from ty)
    exact ⟨typeIs_str s z t,fun _ e=>nomatch e⟩
  | int i =>
    obtain ⟨t,rfl⟩:=r
    cases (show T="int" from ty)
    exact ⟨typeIs_int s i t,fun _ e=>nomatch e⟩
  | ref p =>
    cases r
    rcases ty with ⟨rfl,xs,hq⟩ | ⟨rfl,o,hk,hc,hd⟩ | ⟨rfl,hk⟩ | ⟨rfl,S,n,hk⟩
    · obtain ⟨its,_,pl,_⟩:=I.list hq
      refine ⟨pl.isList.typeIs,fun a e=>?_⟩
      cases e
      obtain ⟨o,n,e,c,hd,_⟩:=pl
      exact ⟨o,e,hd⟩
    · refine ⟨⟨o,I.kIn p o hk,hc⟩,fun a e=>?_⟩
      cases e
      exact ⟨o,I.kIn _ o hk,hd⟩
    · have z:∃ o,s.heap.get? p=some o∧o.ExactDict:=by
        rcases hk with ⟨kvs,hk⟩ | ⟨kvs,hk⟩
        · obtain ⟨_,_,_,_,o,_,_,e,ex,_⟩:=I.hok p _ hk
          exact ⟨o,e,ex⟩
        · obtain ⟨_,_,_,_,o,_,_,e,ex,_⟩:=I.hok p _ hk
          exact ⟨o,e,ex⟩
      obtain ⟨o,e,ex⟩:=z
      refine ⟨⟨o,e,ex.1⟩,fun a e2=>?_⟩
      cases e2
      exact ⟨o,e,ex.2.1⟩
    · obtain ⟨o,_,_,_,e,ex,_⟩:=I.hok p _ hk
      refine ⟨⟨o,e,ex.1⟩,fun a e2=>?_⟩
      cases e2
      exact ⟨o,e,ex.2.1⟩
  | _=>exact False.elim ty
def tBM0 (K:PySem.W.Frag) (T:String) (r:V→List V→Hp→VK→Prop) (to:TE):TE:=fun σ H Q=>to σ H fun x H1=>tyV K T x H1∧r x [] H1 Q
def tBM (K:PySem.W.Frag) (T:String) (r:V→List V→Hp→VK→Prop) (to:TE) (t:TA):TE:=fun σ H Q=>to σ H fun x H1=>tyV K T x H1∧t σ H1 fun xs H2=>r x xs H2 Q
variable {o e:Expr} {es:List Expr} {to:TE} {t:TA} {name:Str} {apos cpos:Pos} {T id:String} {r:V→List V→Hp→VK→Prop}
theorem pe_bm0 (pa:PlainAttrs T) (slot:Slot T name id) (hty:typeOf (.builtin id)=pure (.type "method_descriptor")) (hm:MtR X id r) (ho:PE X o to)
    (hbase:attributeBase o name X.env (eval o X.env)=eval o X.env:=by rfl) (hline:(apos.endLine == cpos.line)=true:=by rfl):PE X (.Call (.Attribute o name apos) [] [] cpos) (tBM0 X.K T r to):=by
  intro pins s σ H Q I h
  refine wpAny_Call_method0_late hbase hline (thn (ho pins s σ H _ I h) fun v s1 ⟨x,H1,I1,r1,ty,q1⟩=>?_)
  obtain ⟨h1,h2⟩:=tyV_is I1 r1 ty
  exact ⟨T,id,pa,slot,hty,h1,h2,Calls.callWith_builtin rfl (PySem.evalArgs_none (hm pins s1 σ H1 x [] v [] Q I1 r1 .nil q1))⟩
theorem pe_bm (pa:PlainAttrs T) (slot:Slot T name id) (hty:typeOf (.builtin id)=pure (.type "method_descriptor")) (hm:MtR X id r) (ho:PE X o to) (ha:PA X (e :: es) t)
    (hbase:attributeBase o name X.env (eval o X.env)=eval o X.env:=by rfl)
    (hfew:((backTo cpos (starEach (e :: es) X.env)).all (fun x=>!x.1) && (backToKw cpos (keywordEach [] X.env)).all (fun x=>x.1.isSome)
      && decide ((e :: es).length + ([]:List Keyword).length + (if ([]:List Keyword).isEmpty then 0 else 1) < 30))=true:=by rfl)
    (hline:(apos.endLine == cpos.line)=true:=by rfl) (hs:starEach (e :: es) X.env=(false,eval e X.env) :: starEach es X.env:=by rfl) (hplain:(backTo cpos (starEach es X.env)).any (·.1)=false:=by rfl) :
    PE X (.Call (.Attribute o name apos) (e :: es) [] cpos) (tBM X.K T r to t):=by
  intro pins s σ H Q I h
  refine wpAny_Call_method_late hbase hfew hline rfl (thn (ho pins s σ H _ I h) fun v s1 ⟨x,H1,I1,r1,ty,q1⟩=>?_)
  obtain ⟨h1,h2⟩:=tyV_is I1 r1 ty
  refine ⟨T,id,pa,slot,hty,h1,h2,?_⟩
  have hA:=ha cpos pins s1 σ H1 _ I1 q1
  rw [hs] at hA ⊢
  refine Calls.callWith_builtin (by show (false || (backTo cpos (starEach es X.env)).any (·.1))=false; rw [hplain] <;> rfl) (Calls.evalArgs_plain ?_)
  exact thn hA fun us s2 ⟨vs,H2,I2,r2,q2⟩=>hm pins s2 σ H2 x vs v us Q I2 r1 r2 q2
end
end L2
namespace L2
open PySem PySem.Spec PyProof.Rows
def MtM (X:Cx) (id:String) (r:V→List V→Hp→VK→Prop):Prop :=
  ∀ (pins:List (Addr×Obj)) (s:Shared) (σ:St) (H:Hp) (x:V) (xs:List V) (v:Value) (us:List Value) (Q:VK),Inv X pins σ H s→RelV x v→Vals xs us→r x xs H Q →
    wpAny (model X.prog X.w) X.A (call (.builtin id) (v :: us)) (EP X pins σ Q) X.xe s
theorem Vals.one:∀ {x:V} {us:List Value},Vals [x] us→∃ u,us=[u]∧RelV x u
  | _,_,.cons r .nil=>⟨_,rfl,r⟩
theorem Vals.zero:∀ {us:List Value},Vals [] us→us=[]
  | _,.nil=>rfl
theorem Vals.dropLast {xs:List V} {us:List Value} (h:Vals xs us):Vals xs.dropLast us.dropLast:=by
  induction h with
  | nil=>exact .nil
  | cons r t ih =>
    cases t with
    | nil=>exact .nil
    | cons q t'=>exact .cons r ih
theorem Vals.eraseIdx:∀ {xs:List V} {us:List Value} (i:Nat),Vals xs us→Vals (xs.eraseIdx i) (us.eraseIdx i)
  | _,_,_,.nil=>.nil
  | _,_,0,.cons _ t=>t
  | _,_,i + 1,.cons r t=>.cons r (Vals.eraseIdx i t)
theorem erase_last {α:Type} (l:List α):l.eraseIdx (l.length - 1)=l.dropLast:=by
  induction l with
  | nil=>rfl
  | cons a r ih =>
    cases r with
    | nil=>rfl
    | cons b r =>
      have e:(a :: b :: r).length - 1=((b :: r).length - 1) + 1:=by
        have h1:(a :: b :: r).length=r.length + 2:=rfl
        have h2:(b :: r).length=r.length + 1:=rfl
        omega
      rw [e,List.eraseIdx_cons_succ,ih]
      all_goals rfl
theorem len_erase {α:Type}:∀ (l:List α) (i:Nat),(l.eraseIdx i).length≤l.length
  | [],_=>Nat.le_refl _
  | _ :: _,0=>Nat.le_succ _
  | _ :: r,i + 1=>Nat.succ_le_succ (len_erase r i)
section
variable {X:Cx} {pins:List (Addr×Obj)} {σ:St} {H:Hp} {s:Shared} {l b:Addr} {xs ys zs:List V}
theorem Inv.lset {its its':List Value} {n:Nat} {f:Array Value→Array Value} {t':Nat} (I:Inv X pins σ H s) (hH:H l=some (.lst xs))
    (e:s.heap.get? l=some { cls:=.type "list",data:=.seq its.toArray n }) (hf:f its.toArray=its'.toArray) (hv:Vals ys its') (hz:ys.length≤sizeLine) :
    Inv X pins σ (upd H l (.lst ys)) { s with heap:=s.heap.update l (Obj.mapSeq f),toks:=t' }:=by
  have q:=PySem.IsL.update e f
  rw [hf] at q
  refine I.write (x:=l) (e:=l) (by rw [hH]; exact trivial) (.inl rfl) (fun b' u hb hu=>(Heap.get?_update_other s.heap (Obj.mapSeq f) (Ne.symm hb)).trans hu) ⟨_,q⟩ ?_
  exact ⟨hz,its',_,hv,q⟩
theorem Inv.lnew {its:List Value} {t':Nat} (I:Inv X pins σ H s) (hv:Vals ys its) (hz:ys.length≤sizeLine) :
    Inv X pins σ (upd H s.heap.objs.size (.lst ys)) { s with heap:=s.heap.push { cls:=.type "list",data:=.seq its.toArray },toks:=t' } :=
  I.laid (fun _ _ q=>Heap.get?_push_of_some _ q) (Nat.le_refl _) ⟨hz,its,0,hv,Heap.get?_push_size _ rfl⟩
theorem Inv.fresh (I:Inv X pins σ H s):H s.heap.objs.size=none:=I.hok.fresh (Nat.le_refl _)
theorem Inv.lstM (I:Inv X pins σ H s) (hH:H l=some (.lst xs)):xs.length≤sizeLine∧∃ (its:List Value) (n:Nat),Vals xs its∧xs.length=its.length∧s.heap.get? l=some { cls:=.type "list",data:=.seq its.toArray n }:=by
  obtain ⟨z,its,n,r,e⟩:=I.hok l _ hH
  exact ⟨z,its,n,r,r.length,e⟩
theorem notLongL {n:Nat} (h:n≤sizeLine):Builtin.List.listTooLong n=false:=by
  unfold Builtin.List.listTooLong
  exact decide_eq_false (by omega)
end
section
variable {X:Cx}
def rAppend:V→List V→Hp→VK→Prop:=fun x vs H Q=>∃ l xs y,x=.ref l∧vs=[y]∧H l=some (.lst xs)∧xs.length < sizeLine∧Q .non (upd H l (.lst (xs++[y])))
theorem mt_append:MtM X "list.append" rAppend:=by
  intro pins s σ H x vs v us Q I rx rv h
  obtain ⟨l,xs,y,rfl,rfl,hH,hz,q⟩:=h
  cases rx
  obtain ⟨u,rfl,ru⟩:=rv.one
  obtain ⟨z,its,n,r,hl,e⟩:=I.lstM hH
  refine call_meets F.slot_list_append ⟨_,e,rfl⟩ F.entry_list_append (F.args_list_append_2 _ _) (PySem.list_append l its.toArray n u (by rw [List.size_toArray]; omega)) ⟨e,?_⟩
  refine ⟨.non,_,I.lset (its':=its++[u]) hH e (by simp) (r.append (.cons ru .nil)) ?_,rfl,q⟩
  rw [List.length_append,List.length_singleton]
  omega
def rExtend:V→List V→Hp→VK→Prop:=fun x vs H Q=>∃ l b xs zs,x=.ref l∧vs=[.ref b]∧H l=some (.lst xs)∧H b=some (.lst zs)∧xs.length + zs.length≤sizeLine∧Q .non (upd H l (.lst (xs++zs)))
theorem mt_extend:MtM X "list.extend" rExtend:=by
  intro pins s σ H x vs v us Q I rx rv h
  obtain ⟨l,b,xs,zs,rfl,rfl,hH,hB,hz,q⟩:=h
  cases rx
  obtain ⟨u,rfl,ru⟩:=rv.one
  cases ru
  obtain ⟨z,its,n,r,hl,e⟩:=I.lstM hH
  obtain ⟨z2,its2,n2,r2,hl2,e2⟩:=I.lstM hB
  have hsz:its.toArray.size + its2.toArray.size≤sizeLine:=by rw [List.size_toArray,List.size_toArray]; omega
  have hlong:¬ (!its.toArray.isEmpty && Builtin.List.listTooLong (its.toArray.size + its2.toArray.size))=true:=by
    rw [notLongL hsz,Bool.and_false]
    exact Bool.false_ne_true
  refine call_meets F.slot_list_extend ⟨_,e,rfl⟩ F.entry_list_extend (F.args_list_extend_2 _ _)
    (AutoSeq1.list_extend_list_list_0 l its.toArray n b its2.toArray n2 hlong (by rw [List.size_toArray]; omega) (by omega)) ⟨e,e2,?_⟩
  refine ⟨.non,_,I.lset (its':=its++its2) hH e (by simp) (r.append r2) ?_,rfl,q⟩
  rw [List.length_append]
  omega
def rPop:V→List V→Hp→VK→Prop:=fun x vs H Q=>∃ l xs y,x=.ref l∧vs=[]∧H l=some (.lst xs)∧xs[xs.length - 1]?=some y∧Q y (upd H l (.lst xs.dropLast))
theorem mt_pop:MtM X "list.pop" rPop:=by
  intro pins s σ H x vs v us Q I rx rv h
  obtain ⟨l,xs,y,rfl,rfl,hH,hy,q⟩:=h
  cases rx
  have hus:=rv.zero
  subst hus
  obtain ⟨z,its,n,r,hl,e⟩:=I.lstM hH
  obtain ⟨u,hu,ru⟩:=r.get hy
  have hy':its.toArray[its.toArray.size - 1]?=some u:=by
    show its.toArray[its.length - 1]?=some u
    rw [← Array.getElem?_toList,← hl]
    exact hu
  refine call_meets F.slot_list_pop ⟨_,e,rfl⟩ F.entry_list_pop (F.args_list_pop_1 _) (MeetsSeq.list_pop_last l its.toArray n u hy' (by rw [List.size_toArray]; omega)) ⟨e,?_⟩
  refine ⟨y,_,I.lset (its':=its.dropLast) hH e ?_ r.dropLast ?_,ru,q⟩
  · show its.toArray.eraseIdxIfInBounds (its.toArray.size - 1)=its.dropLast.toArray
    rw [List.size_toArray,List.eraseIdxIfInBounds_toArray,erase_last]
  · rw [List.length_dropLast]
    omega
def rPopAt:V→List V→Hp→VK→Prop:=fun x vs H Q=>∃ l xs i k y,x=.ref l∧vs=[.int i]∧H l=some (.lst xs)∧-(2 ^ 63)≤i∧i < 2 ^ 63∧seqIndex? i xs.length=some k∧xs[k]?=some y∧Q y (upd H l (.lst (xs.eraseIdx k)))
theorem mt_popAt:MtM X "list.pop" rPopAt:=by
  intro pins s σ H x vs v us Q I rx rv h
  obtain ⟨l,xs,i,k,y,rfl,rfl,hH,h1,h2,hk,hy,q⟩:=h
  cases rx
  obtain ⟨u,rfl,ru⟩:=rv.one
  obtain ⟨t,rfl⟩:=ru
  obtain ⟨z,its,n,r,hl,e⟩:=I.lstM hH
  obtain ⟨w,hw,rw'⟩:=r.get hy
  refine call_meets F.slot_list_pop ⟨_,e,rfl⟩ F.entry_list_pop (F.args_list_pop_2 _ _)
    (MeetsSeq.list_pop_at l its.toArray n i t k w (fitsIndex_both h1 h2) (by rw [List.size_toArray,← hl]; exact hk) (by rw [← Array.getElem?_toList]; exact hw) (by rw [List.size_toArray]; omega)) ⟨e,?_⟩
  refine ⟨y,_,I.lset (its':=its.eraseIdx k) hH e ?_ (r.eraseIdx k) ?_,rw',q⟩
  · show its.toArray.eraseIdxIfInBounds k=(its.eraseIdx k).toArray
    rw [List.eraseIdxIfInBounds_toArray]
  · have:=len_erase xs k
    omega
def rCat:R2:=fun x y H Q=>∃ l b xs zs,x=.ref l∧y=.ref b∧H l=some (.lst xs)∧H b=some (.lst zs)∧xs.length + zs.length≤sizeLine∧∀ p,H p=none→Q (.ref p) (upd H p (.lst (xs++zs)))
theorem op_cat:OpR X (binaryOp .Add) rCat:=by
  intro pins s σ H x y v u Q I rx ry h
  obtain ⟨l,b,xs,zs,rfl,rfl,hH,hB,hz,q⟩:=h
  cases rx
  cases ry
  obtain ⟨z,its,n,r,hl,e⟩:=I.lstM hH
  obtain ⟨z2,its2,n2,r2,hl2,e2⟩:=I.lstM hB
  refine PySem.P.add_list e e2 ?_ (by rw [List.size_toArray,List.size_toArray]; omega)
  have ea:its.toArray++its2.toArray=(its++its2).toArray:=by simp
  rw [ea]
  exact ⟨.ref _,_,I.lnew (t':=s.toks) (r.append r2) (by rw [List.length_append]; omega),rfl,q _ I.fresh⟩
end
section
variable {prog:Program} {w:World} {A:Around} {E:Value→Shared→Prop} {s:Shared}
end
section
variable {X:Cx}
end
end L2
namespace Att
open PySem PySem.W PySem.Calls PyProof.Rows
theorem ints_of_wellAll {P:Params} {h:Heap}:∀ (ns:List Int) (vs:List Value),WellAll P h vs (ns.map WData.int)→IntsAre vs ns:=by
  intro ns
  induction ns with
  | nil =>
    intro vs w
    rw [List.map_nil] at w
    cases w
    exact .nil
  | cons n ns ih =>
    intro vs w
    rw [List.map_cons] at w
    cases w with
    | cons a b =>
      cases a
      exact .cons _ _ (ih _ b)
theorem script_of {l:OpenLaw} {n:Nat} (hn:l.most=some n) {P:Params} {h:Heap} {args:List WData} {vals:List Value}
    (hpre:l.row.toRowW.claim.pre args=true) (hwl:WellAll P h vals args) :
    ∃ a vs ns,vals=[Value.ref a]∧args=[WData.list (ns.map WData.int)]∧h.get? a=some { cls:=.type "list",data:=.seq vs.toArray }∧IntsAre vs ns∧ns.length≤n:=by
  have hsh:WShape.hasAll [] args [.list .int]=true:=(pre_splitW hpre).1
  have hc:l.pre.holds [] { args:=args }=true:=(pre_splitW hpre).2
  obtain ⟨d,r,rfl,h1,h2⟩:=hasAllW_cons hsh
  obtain rfl:=hasAllW_nil h2
  obtain ⟨xs,rfl,h3⟩:=hasW_list h1
  obtain ⟨ns,rfl⟩:=items_int h3
  have hlen:ns.length≤n:=by
    unfold OpenLaw.pre at hc
    have h4:(WTm.not (.lt (.lit (.int (n:Int))) (.len (.arg 0)))).holds [] { args:=[.list (ns.map .int)] }=true:=by
      have h4:=(holds_andW hc).1
      rw [hn] at h4
      exact h4
    have h5:=condW_of h4 (w_not (w_lt w_lit (w_len_list (w_arg rfl))))
    rw [List.length_map] at h5
    refine Nat.le_of_not_lt fun q=>?_
    have q':(n:Int) < ((ns.length:Nat):Int):=by omega
    first
      | (rw [decide_eq_true q'] at h5; exact absurd h5 (by decide))
      | (simp at h5; omega)
  cases hwl with
  | cons w1 w2 =>
    cases w2
    cases w1 with
    | list ho hall=>exact ⟨_,_,ns,rfl,rfl,ho,ints_of_wellAll ns _ hall,hlen⟩
theorem post_true (l:OpenLaw) (args:List WData):l.row.toRowW.claim.post args (.bool true) args=true :=
  postW_of (r:=l.row.toRowW) (X:=(true == true))
    (show WShape.has [] (.bool true) .bool=true by first | rfl | decide | simp [WShape.has,WShape.arms,WShape.armsAll])
    (show (WTm.eq .res (.lit (.bool true))).value [] { args:=args,res:=some (.bool true),after:=args }=some (.bool (true == true)) from w_eq_bool (w_res rfl) w_lit) rfl
theorem attach_call {l:OpenLaw} {n:Nat} {q:Program} {loose:List Str} {XP:(Str→Option Value)→Heap→Prop} {YP:World→Heap→Prop} {d:DefRec}
    (hn:l.most=some n) (hdf:d.params.defaults=[])
    (call:∀ (w:World) (s₀ s₁:Shared) (mg mb:Str→Option Value) (fa:Addr) (o:Obj) (pm cd doc:Value) (a:Addr) (vs:List Value) (ns:List Int),
      Ground q loose [] XP w s₀ mg mb s₁.heap→YP w s₁.heap →
      s₁.heap.get? fa=some o→o.data=.func (docDef d.name d.params d.body d.scope pm cd doc)→s₁.heap.CodeRec cd d.name→mg d.name=some (.ref fa) →
      s₁.heap.get? a=some { cls:=.type "list",data:=.seq vs.toArray }→IntsAre vs ns→ns.length≤n→s₁.gens=#[] →
      codeAny (model l.prog w) callerA (.call (.ref fa) ⟨[.ref a],[]⟩) (fun r s'=>r=.ok (.ret (.bool true))∧OldK s₁.heap s'.heap∧s'.os=s₁.os∧AllBare s'.gens) s₁) :
    WalkO q loose XP YP l.row.toRowW d [] (fun f vs=>PySem.call f vs):=by
  intro w s₀ s₁ mg mb G Y fa o pm cd doc dV kV ho hd hcd hD hmg hg args vals as hpre hlay hrd hwl hlo
  obtain rfl:dV=.none:=Dflts.none hD hdf
  obtain rfl:kV=.none:=Dflts.noKw hD
  obtain ⟨a,vs,ns,rfl,rfl,hobj,hints,hlen⟩:=script_of hn hpre hwl
  refine enter_call (codeAny_mono (call w s₀ s₁ mg mb fa o pm cd doc a vs ns G Y ho (fd_plain hd) hcd hmg hobj hints hlen hg) fun r s' hq=>?_)
  obtain ⟨rfl,h2,h3,h4⟩:=hq
  exact ⟨.inl ⟨.bool true,.bool true,[],rfl,fun _=>rfl,.bool true,post_true l _,fun _=>⟨List.Pairwise.nil,fun _ hm=>(nomatch hm)⟩⟩,h2,h3,h4⟩
section
variable {prog:Program} {w:World} {A:Around} {E:Value→Shared→Prop} {s:Shared} {K:Frag}
def ledger (h:Heap) (L d:Addr):List (Addr×Obj):=(List.range h.objs.size).filterMap fun a=>if a=L∨a=d then none else (h.get? a).map fun o=>(a,o)
end
end Att
namespace L2
open PySem PySem.Spec PyProof.Rows
theorem vals_ints:∀ {vs:List Value} {ns:List Int},IntsAre vs ns→Vals (ns.map V.int) vs
  | _,_,.nil=>.nil
  | _,_,.cons n t h=>.cons ⟨t,rfl⟩ (vals_ints h)
def Only (H:Hp):Prop:=∀ b,H b=none∨∃ o xs,H b=some (.frz o (.lst xs))
theorem law_call {P:Program} {w:World} {K:PySem.W.Frag} {mg mb:Str→Option Value} {CX:CXT} {k:Nat} {fa a:Addr} {fd:FuncData} {x:Str} {sp:Sp} {s₁:Shared} {vs:List Value} {ns:List Int}
    (KX:K.In s₁.heap) (hns:s₁.heap.Ns mainGlobals mg) (hb:s₁.heap.Ns builtinsNs mb) (hbb:∀ x:Str,x≠"__name__"→mb x=bootBuiltins x) (hlim:s₁.heap.NoLimit) (hg:s₁.gens=#[])
    (ha:s₁.heap.get? a=some { cls:=.type "list",data:=.seq vs.toArray }) (hi:IntsAre vs ns) (hl:ns.length≤sizeLine) (hr:Room k callerA)
    (F:∀ base:Heap,K.In base→base.Ns mainGlobals mg→FnOk P w K mg base CX k fa fd [x] sp) (hbind:∀ (s:Shared) (u:Value),BindsTo s fd ⟨[u],[]⟩ [(x,u)])
    (hsp:∀ H:Hp,Only H→SqL K H a (ns.map V.int)→sp [.ref a] H (fun v _=>v=.bl true) fun _ _ _=>False)
    (hCX:∀ H e s',CX [] H s₁ (fun _ _ _=>False) e s'→False) :
    codeAny (model P w) callerA (.call (.ref fa) ⟨[.ref a],[]⟩) (fun r s'=>r=.ok (.ret (.bool true))∧OldK s₁.heap s'.heap∧s'.os=s₁.os∧AllBare s'.gens) s₁:=by
  have rv:=vals_ints hi
  have lenV:=hi.length
  have core:∀ H:Hp,Only H→SqL K H a (ns.map V.int)→HOk P w H s₁.heap→(∀ b,H b≠none→b=a)→(H a≠none→K.lookup a=none) →
      codeAny (model P w) callerA (.call (.ref fa) ⟨[.ref a],[]⟩) (fun r s'=>r=.ok (.ret (.bool true))∧OldK s₁.heap s'.heap∧s'.os=s₁.os∧AllBare s'.gens) s₁:=by
    intro H hO hS hok hA hK
    have base_of:∀ {b:Addr} {o:Obj},s₁.heap.get? b=some o→H b=none→(hidT s₁.heap H).get? b=some o:=fun e n=>hidT_get e n
    have noA:∀ {b:Addr} {o:Obj} {es:Array DictEntry} {ep:Nat},s₁.heap.get? b=some o→o.data=.dict es ep→H b=none:=fun {b o es ep} e d=>by
      cases q:H b with
      | none=>rfl
      | some u =>
        have e':b=a:=hA b (by rw [q]; simp)
        subst e'
        rw [ha] at e; cases e
        have d':Data.seq vs.toArray _=Data.dict es ep:=d
        cases d'
    have nsK:∀ {b:Addr} {m:Str→Option Value},s₁.heap.Ns b m→(hidT s₁.heap H).Ns b m:=fun {b m} ⟨o,es,ep,e,d,r⟩=>⟨o,es,ep,base_of e (noA e d),d,r⟩
    have hKb:K.In (hidT s₁.heap H):=fun b o e=>base_of (KX b o e) (by
      cases q:H b with
      | none=>rfl
      | some u =>
        have e':b=a:=hA b (by rw [q]; simp)
        subst e'
        rw [hK (by rw [q]; simp)] at e; cases e)
    have hM:Mod K mg (hidT s₁.heap H):=⟨hKb,nsK hns,⟨mb,nsK hb,hbb⟩,let ⟨mc,h1,h2⟩:=hlim; ⟨mc,nsK h1,h2⟩⟩
    have e0:Env0 P w K mg (hidT s₁.heap H) callerA [] s₁ H:=⟨rfl,hM,fun b o e=>of_hidT e,Nat.le_of_eq (hidT_size _ _),trivial,fun b hb=>absurd (show b∈([]:List Addr) from hb) (by simp),hok,.of_eq hg⟩
    refine codeAny_mono ((F _ hKb (nsK hns)).run callerA [] s₁ H ⟨[.ref a],[]⟩ [.ref a] [.ref a] _ _ hr e0 (hbind s₁ (.ref a)) (.cons rfl .nil) (hsp H hO hS)) fun r s' h=>?_
    cases r with
    | error e=>exact (hCX H e s' h).elim
    | ok fl =>
      cases fl with
      | next=>exact False.elim h
      | brk=>exact False.elim h
      | cont=>exact False.elim h
      | ret u =>
        obtain ⟨v,H',os,bare,un,hok',r',q⟩:=h
        have q':v=.bl true:=q
        subst q'
        obtain rfl:u=Value.bool true:=r'
        refine ⟨rfl,OldK.of_keep fun b o e=>?_,os,bare⟩
        cases q:H b with
        | none=>exact un.keep b o e q (by intro z; exact absurd (show b∈([]:List Addr) from z) (by simp)) (by simp)
        | some u =>
          rcases hO b with z | ⟨ob,xs,z⟩
          · rw [q] at z; cases z
          · have z2:=un.frzs b ob _ z
            obtain ⟨e1,_⟩:=hok b _ z
            obtain ⟨e2,_⟩:=hok' b _ z2
            rw [e] at e1; cases e1
            exact e2
  cases hk:K.lookup a with
  | some o =>
    have e:=KX a o hk
    rw [ha] at e
    cases e
    refine core (fun _=>none) (fun _=>.inl rfl) (.inr ⟨_,vs.toArray,_,hk,rfl,rfl,rfl,by rw [List.size_toArray,lenV]; exact hl,by simpa using rv⟩) (fun b u z=>by have z':(none:Option HO)=some u:=z; cases z') (fun b z=>absurd rfl z) fun z=>absurd rfl z
  | none =>
    refine core (fun b=>if b=a then some (.frz { cls:=.type "list",data:=.seq vs.toArray } (.lst (ns.map V.int))) else none) (fun b=>?_) (.inl (.inr ⟨{ cls:=.type "list",data:=.seq vs.toArray },if_pos rfl⟩)) (fun b u z=>?_) (fun b z=>?_) fun _=>hk
    · by_cases hb:b=a
      · exact .inr ⟨_,_,if_pos hb⟩
      · exact .inl (if_neg hb)
    · by_cases hb:b=a
      · have z':=(if_pos hb).symm.trans z
        cases z'
        subst hb
        exact ⟨ha,by rw [List.length_map]; exact hl,vs,_,rv,ha⟩
      · have z':=(if_neg hb).symm.trans z
        cases z'
    · by_cases hb:b=a
      · exact hb
      · exact absurd (if_neg hb) z
end L2
namespace L2
open PySem PySem.Spec PyProof.Rows
abbrev KOf {K:PySem.W.Frag} {h:Heap} (_:K.In h):PySem.W.Frag:=K
theorem walk_of {l:PySem.W.OpenLaw} {n k:Nat} {q:Program} {loose:List Str} {XP:(Str→Option Value)→Heap→Prop} {YP:World→Heap→Prop} {d:DefRec} {K:Params→PySem.W.Frag} {CX:World→CXT} {sp:World→Sp} {x:Str}
    (hn:l.most=some n) (hn2:n≤sizeLine) (hdf:d.params.defaults=[]) (hr:Room k callerA)
    (hY:∀ (w:World) (h:Heap),YP w h→(K w.params).In h)
    (F:∀ (w:World) (mg:Str→Option Value) (fa:Addr) (h:Heap),(K w.params).In h→h.Ns mainGlobals mg→mg d.name=some (.ref fa) →
      ∃ fd:FuncData,(∀ (s:Shared) (u:Value),BindsTo s fd ⟨[u],[]⟩ [(x,u)]) ∧
        ∀ base:Heap,(K w.params).In base→base.Ns mainGlobals mg→FnOk l.prog w (K w.params) mg base (CX w) k fa fd [x] (sp w))
    (hsp:∀ (w:World) (H:Hp) (a:Addr) (ns:List Int),ns.length≤n→Only H→SqL (K w.params) H a (ns.map V.int)→sp w [.ref a] H (fun v _=>v=.bl true) fun _ _ _=>False)
    (hCX:∀ (w:World) (H:Hp) (s:Shared) (e:Value) (s':Shared),CX w [] H s (fun _ _ _=>False) e s'→False) :
    PySem.W.WalkO q loose XP YP l.row.toRowW d [] (fun f vs=>PySem.call f vs):=by
  refine Att.attach_call hn hdf fun w s₀ s₁ mg mb fa o pm cd doc a vs ns G Y ho hd hcd hmg hobj hints hlen hg=>?_
  have KX:=hY w _ Y
  obtain ⟨fd,hb,hF⟩:=F w mg fa _ KX G.T.g hmg
  exact law_call KX G.T.g G.T.b G.T.builtins G.T.nolimit hg hobj hints (Nat.le_trans hlen hn2) hr hF hb (fun H hO hS=>hsp w H a ns hlen hO hS) fun H e s'=>hCX w H s₁ e s'
end L2
namespace L2
open PySem PySem.Spec PyProof.Rows
def inClass (s:Stmt) (j:Nat):Stmt:=match s with
  | .ClassDef _ _ _ body _ _ _ _ _ _ _=>body.getD j (.Pass ⟨0,0,0,0⟩)
  | _=>.Pass ⟨0,0,0,0⟩
def defArgs (s:Stmt):Arguments:=match s with
  | .FunctionDef _ a _ _ _ _ _ _ _ _=>a
  | _=>{ posonlyargs:=[],args:=[],vararg:=none,kwonlyargs:=[],kw_defaults:=[],kwarg:=none,defaults:=[] }
def defBody (s:Stmt):List Stmt:=match s with
  | .FunctionDef _ _ b _ _ _ _ _ _ _=>b
  | _=>[]
def defScope (s:Stmt):Scope:=match s with
  | .FunctionDef _ _ _ _ _ _ sc _ _ _=>sc
  | _=>{ kind:=.function,names:=[],isGenerator:=false,isCoroutine:=false }
abbrev CX0:CXT:=fun _ _ _ _ _ _=>False
abbrev E0:XK:=fun _ _ _=>False
theorem pass0 {X:Cx}:Passes CX0 X E0:=fun _ _ _ _ _ _ _ h=>h.elim
structure Fun (K:PySem.W.Frag) (x qual:Str) (st:Stmt) (f:Addr) (fd:FuncData):Prop where
  ex:∃ (oc:Value) (od:Option Addr) (kV doc pm:Value) (an:Option Addr) (cdv ct:Value) (osl:Array (Option Value)),
    fd=PySem.W.fnOf x qual (defArgs st) (defBody st) (defScope st) .none kV doc pm an cdv ct∧K.lookup f=some ⟨oc,od,.func fd,osl⟩∧PySem.W.codeIn K cdv qual=true
  kp:PySem.W.keepIn K (.ref f)=true
section
variable {P:Program} {w:World} {K:PySem.W.Frag} {mg:Str→Option Value} {base:Heap}
theorem Fun.ok {x qual:Str} {st:Stmt} {f:Addr} {fd:FuncData} {N ps:List Str} {k:Nat} {sp:Sp} (F:Fun K x qual st f fd) (S:FnScope N ps (defScope st)) (len:∀ vs H Q E,sp vs H Q E→vs.length=ps.length)
    (hbody:∀ (cdv:Value) (A:Around) (outer:List Env) (s:Shared) (H:Hp) (vs:List V) (Q:VK) (E:XK),Room k (A.deeper (envOfC qual (defScope st) s.heap.objs.size f cdv))→sp vs H Q E →
      ∃ t,PSs (cxOf CX0 P w K mg base N qual (defScope st) f cdv A outer s H E).nox (defBody st) t∧t { nx:=fun _ H'=>Q .non H',rt:=Q } (start N vs) H):FnOk P w K mg base CX0 (k + 1) f fd ps sp:=by
  obtain ⟨oc,od,kV,doc,pm,an,cdv,ct,osl,rfl,lk,hcd⟩:=F.ex
  refine fn_of lk hcd S len fun A outer s H vs Q E hr hsp=>?_
  obtain ⟨t,h,q⟩:=hbody cdv A outer s H vs Q E hr hsp
  exact ⟨t,h.nox,q⟩
theorem Fun.binds {x qual:Str} {st:Stmt} {f:Addr} {fd:FuncData} {ps:List Str} (F:Fun K x qual st f fd)
    (h:∀ (kV doc pm:Value) (an:Option Addr) (cdv ct:Value) (us:List Value),us.length=ps.length→bindArgs (PySem.W.fnOf x qual (defArgs st) (defBody st) (defScope st) .none kV doc pm an cdv ct) ⟨us,[]⟩=pure (ps.zip us)):Binds K fd ps []:=by
  obtain ⟨oc,od,kV,doc,pm,an,cdv,ct,osl,rfl,lk,hcd⟩:=F.ex
  exact .all (h kV doc pm an cdv ct)
end
theorem hu_of {A:Around} {k:Nat} (hr:Room k A):A.units + 1 < cLine:=Nat.lt_of_le_of_lt (Nat.add_le_add_left (by decide:1≤64) _) hr.units
theorem small1000 {n:Nat} (h:n≤1000):n < sizeLine:=Nat.lt_of_le_of_lt h (by decide)
section
variable {X:Cx}
theorem pv (i:Nat) {x:Str} {pos:Pos} (hN:X.N[i]?=some x:=by rfl) (hv:Vis X.env.scope x:=by first | exact Or.inl rfl | exact Or.inr (Or.inl rfl) | exact Or.inr (Or.inr rfl)) (hd:(x == ("__debug__":Str))=false:=by decide)
    (hcd:(x == ("__classdict__":Str))=false:=by decide):PE X (.Name x pos) (tVar i):=pe_var hN hv hd hcd
theorem call_lenD:CallR X (.builtin "len") (fun xs H Q=>∃ a kvs,xs=[V.ref a]∧H a=some (.dK kvs)∧Q (.int kvs.length) H):=by
  intro pins s σ H xs us Q I r h
  obtain ⟨a,kvs,rfl,ha,q⟩:=h
  obtain ⟨u,rfl,ru⟩:=vals1 r
  cases ru
  exact d_len I (.inl ha) fun t s' I'=>⟨.int kvs.length,H,I',⟨t,rfl⟩,q⟩
end
theorem iteF {A B:Prop} (h:B):if false=true then A else B:=by
  rw [if_neg Bool.false_ne_true]
  exact h
theorem iteT {A B:Prop} (h:A):if true=true then A else B:=by
  rw [if_pos rfl]
  exact h
theorem ite2 {c A B:Prop} [Decidable c] (h1:c→A) (h2:¬ c→B):if c then A else B:=by
  by_cases h:c
  · rw [if_pos h]
    exact h1 h
  · rw [if_neg h]
    exact h2 h
def Same (H H':Hp):Prop:=∀ b o,H b=some o→H' b=some o
section
variable {κ:Type} [DecidableEq κ]
end
end L2
set_option maxHeartbeats 4000000
namespace FX
open PySem PySem.Spec PyProof.Rows L2
set_option linter.all false
inductive RepT (K:PySem.W.Frag) (H:Hp):V→PyData→Prop
  | non:RepT K H .non .none
  | bl (b:Bool):RepT K H (.bl b) (.bool b)
  | int (i:Int):RepT K H (.int i) (.int i)
  | str (x:Str):RepT K H (.str x) (.str x)
  | tup {a:Addr} {xs:List V} {ds:List PyData}:SqT K H a xs→xs.length=ds.length→(∀ (j:Nat) (x:V) (d:PyData),xs[j]?=some x→ds[j]?=some d→RepT K H x d)→RepT K H (.ref a) (.tuple ds)
inductive Rep (K:PySem.W.Frag) (H:Hp):V→PyData→Prop
  | one {x:V} {d:PyData}:RepT K H x d→Rep K H x d
  | lst {a:Addr} {xs:List V} {ds:List PyData}:SqL K H a xs→Paired (RepT K H) xs ds→Rep K H (.ref a) (.list ds)
theorem paired_get {α β:Type} {R:α→β→Prop}:∀ {xs:List α} {ys:List β},Paired R xs ys→∀ (j:Nat) (x:α) (y:β),xs[j]?=some x→ys[j]?=some y→R x y
  | _,_,.nil,j,x,y,h,_=>by simp at h
  | _,_,.cons r t,0,x,y,h,h'=>by simp at h h'; subst h; subst h'; exact r
  | _,_,.cons r t,j + 1,x,y,h,h'=>paired_get t j x y (by simpa using h) (by simpa using h')
theorem paired_of {α β:Type} {R:α→β→Prop}:∀ {xs:List α} {ys:List β},xs.length=ys.length→(∀ (j:Nat) (x:α) (y:β),xs[j]?=some x→ys[j]?=some y→R x y)→Paired R xs ys
  | [],[],_,_=>.nil
  | x :: xs,y :: ys,hl,h=>.cons (h 0 x y rfl rfl) (paired_of (by simpa using hl) fun j a b e1 e2=>h (j + 1) a b (by simpa using e1) (by simpa using e2))
  | [],_ :: _,hl,_=>by simp at hl
  | _ :: _,[],hl,_=>by simp at hl
theorem RepT.tupP {K:PySem.W.Frag} {H:Hp} {a:Addr} {xs:List V} {ds:List PyData} (h:SqT K H a xs) (r:Paired (RepT K H) xs ds):RepT K H (.ref a) (.tuple ds) :=
  .tup h (Paired.length r) fun j x d e1 e2=>paired_get r j x d e1 e2
structure KeepT (H H':Hp):Prop where
  tup:∀ a xs,H a=some (.tup xs)→H' a=some (.tup xs)
  frz:∀ a o u,H a=some (.frz o u)→H' a=some (.frz o u)
theorem KeepT.refl (H:Hp):KeepT H H:=⟨fun _ _ e=>e,fun _ _ _ e=>e⟩
theorem KeepT.trans {H H1 H2:Hp} (a:KeepT H H1) (b:KeepT H1 H2):KeepT H H2:=⟨fun c xs e=>b.tup c xs (a.tup c xs e),fun c o u e=>b.frz c o u (a.frz c o u e)⟩
theorem KeepT.of_same {H H':Hp} (s:Same H H'):KeepT H H':=⟨fun a xs e=>s a _ e,fun a o u e=>s a _ e⟩
theorem KeepT.sq {K:PySem.W.Frag} {H H':Hp} (k:KeepT H H') {a:Addr} {xs:List V} (h:SqT K H a xs):SqT K H' a xs:=by
  rcases h with (e | ⟨o,e⟩) | z
  · exact .inl (.inl (k.tup a xs e))
  · exact .inl (.inr ⟨o,k.frz a o _ e⟩)
  · exact .inr z
theorem KeepT.upd {H:Hp} {p:Addr} {o:HO} (h:∀ o',H p=some o'→(∀ xs,o'≠.tup xs)∧∀ b u,o'≠.frz b u):KeepT H (upd H p o) :=
  ⟨fun a xs e=>by
    have:a≠p:=fun z=>by subst z; exact (h _ e).1 xs rfl
    rw [upd_ne this]; exact e,
   fun a b u e=>by
    have:a≠p:=fun z=>by subst z; exact (h _ e).2 b u rfl
    rw [upd_ne this]; exact e⟩
theorem KeepT.new {H:Hp} {p:Addr} {o:HO} (h:H p=none):KeepT H (L2.upd H p o):=KeepT.upd fun o' e=>by rw [h] at e; cases e
section
variable {X:Cx} {pins:List (Addr×Obj)} {σ:L2.St} {H:Hp} {s:Shared}
theorem readsAll_of {h:Heap}:∀ {xs:List V} {us:List Value} {ds:List PyData},Vals xs us→xs.length=ds.length →
    (∀ (j:Nat) (x:V) (d:PyData),xs[j]?=some x→ds[j]?=some d→∀ u,RelV x u→∃ as,Reads h u d as)→∃ as,ReadsAll h us ds as
  | _,_,[],.nil,_,_=>⟨[],.nil⟩
  | _,_,d :: ds,.cons (a:=x) (b:=u) r t,hl,f=>by
    obtain ⟨as,r1⟩:=f 0 x d rfl rfl u r
    obtain ⟨bs,r2⟩:=readsAll_of t (by simpa using hl) fun j y e h1 h2=>f (j + 1) y e (by simpa using h1) (by simpa using h2)
    exact ⟨as++bs,.cons r1 r2⟩
  | _,_,_ :: _,.nil,hl,_=>by simp at hl
  | _,_,[],.cons _ _,hl,_=>by simp at hl
theorem RepT.reads (I:Inv X pins σ H s) {v:V} {d:PyData} (r:RepT X.K H v d):∀ u,RelV v u→∃ as,Reads s.heap u d as:=by
  induction r with
  | non=>intro u e; cases e; exact ⟨_,.none⟩
  | bl b=>intro u e; cases e; exact ⟨_,.bool b⟩
  | int i=>intro u e; obtain ⟨t,rfl⟩:=e; exact ⟨_,.int i t⟩
  | str x=>intro u e; obtain ⟨t,rfl⟩:=e; exact ⟨_,.str x t⟩
  | tup h hl _ ih =>
    intro u e
    cases e
    obtain ⟨its,rv,⟨o,ho,hc,n,hd⟩,_⟩:=I.tuple h
    obtain ⟨as,ra⟩:=readsAll_of rv hl fun j x d e1 e2=>ih j x d e1 e2
    exact ⟨as,.tuple ho hc hd (by simpa using ra)⟩
theorem Rep.reads (I:Inv X pins σ H s) {v:V} {d:PyData} (r:Rep X.K H v d) {u:Value} (e:RelV v u):∃ as,Reads s.heap u d as:=by
  cases r with
  | one r=>exact r.reads I u e
  | lst h p =>
    cases e
    obtain ⟨its,rv,pl,_⟩:=I.list h
    obtain ⟨o,ho,hc,n,hd⟩:=pl.isList
    obtain ⟨as,ra⟩:=readsAll_of rv (Paired.length p) fun j x d e1 e2=>(paired_get p j x d e1 e2).reads I
    exact ⟨_,.list ho hc hd (by simpa using ra)⟩
def Okd (d:PyData):Prop:=d.canLay0=true∧d.depth≤40
def rNeD (K:PySem.W.Frag):R2:=fun x y H Q=>∃ d e,Rep K H x d∧Rep K H y e∧Okd d∧Okd e∧Q (.bl (!PyData.eqv d e)) H
theorem op_neD (hu:X.A.units + 64 < cLine):OpR X (compareOp .NotEq) (rNeD X.K):=by
  intro pins s σ H x y v u Q I rx ry h
  obtain ⟨d,e,r1,r2,o1,o2,q⟩:=h
  obtain ⟨as,g1⟩:=r1.reads I rx
  obtain ⟨bs,g2⟩:=r2.reads I ry
  exact PySem.SeqAt.compareNe_reads g1 g2 o1.1 o2.1 (by have:=o1.2; omega) ⟨.bl _,H,I,rfl,q⟩
theorem eqv_same {d:PyData} (h:Okd d):PyData.eqv d d=true:=PySem.SeqAt.eqv_refl d h.1
theorem hu64 {A:Around} {k:Nat} (r:Room k A):A.units + 64 < cLine:=r.units
end
def viewO (p d:Addr):HO:=.ext fun h=>h.IsValuesView p d
section
variable {X:Cx}
theorem mt_values:MtR X "dict.values" (fun x xs H Q=>∃ d kvs,x=.ref d∧xs=[]∧H d=some (.dK kvs)∧∀ p,H p=none→Q (.ref p) (upd H p (viewO p d))):=by
  intro pins s σ H x xs v us Q I rx rs h
  obtain ⟨d,kvs,rfl,rfl,hd,q⟩:=h
  cases rx
  cases rs
  obtain ⟨z,lo,vs,rel,dd⟩:=dk_of I.hok hd
  refine PySem.call_meetsIn PySem.F.slot_dict_values dd.typeIs PySem.F.entry_dict_values (PySem.F.args_dict_values_1 _) (meets_dict_values (mixKind X.prog X.w) d lo) ⟨⟨vs,dd⟩,?_⟩
  have hn:H s.heap.objs.size=none:=I.hok.fresh (Nat.le_refl _)
  refine ⟨.ref s.heap.objs.size,_,I.laid (a:=s.heap.objs.size) (o:=viewO s.heap.objs.size d) (t':=s.toks) (fun b o e=>Heap.get?_push_of_some _ e) (Nat.le_refl _) ?_,rfl,q _ hn⟩
  have g:(s.heap.push { cls:=.type "dict_values",data:=.fields #[.ref d] }).get? s.heap.objs.size=some { cls:=.type "dict_values",data:=.fields #[.ref d] }:=Heap.get?_push_size _ rfl
  exact ⟨⟨_,g,rfl,rfl⟩,⟨_,g⟩,fun h1 h2 ⟨o,e,r⟩ k=>⟨o,k o e,r⟩⟩
end
end FX
namespace FX
open PySem PySem.Spec PyProof.Rows L2
section
variable {X:Cx}
end
theorem same_new {H:Hp} {p:Addr} {o:HO} (hp:H p=none):Same H (upd H p o):=fun b u e=>by rw [upd_ne (ne_of_none e hp)]; exact e
theorem same_trans {H H1 H2:Hp} (a:Same H H1) (b:Same H1 H2):Same H H2:=fun c o h=>b c o (a c o h)
theorem same_free {H H':Hp} (e:Same H H') {l:Addr} (h:H' l=none):H l=none:=by
  cases q:H l with
  | none=>rfl
  | some o=>rw [e l o q] at h; cases h
theorem paired_mono {α β:Type} {R S:α→β→Prop} (f:∀ a b,R a b→S a b):∀ {xs:List α} {ys:List β},Paired R xs ys→Paired S xs ys
  | _,_,.nil=>.nil
  | _,_,.cons q t=>.cons (f _ _ q) (paired_mono f t)
theorem atI_at {α:Type} {xs:List α} {i:Int} {v:α} (h0:0≤i) (h:xs[i.toNat]?=some v):atI xs i=some v:=by
  have:=atI_nat h
  rwa [Int.toNat_of_nonneg h0] at this
theorem get_of_lt {α:Type} {xs:List α} {j:Nat} (h:j < xs.length):∃ x,xs[j]?=some x:=⟨xs[j],List.getElem?_eq_some_iff.mpr ⟨h,rfl⟩⟩
theorem okAll {ds:List PyData} (h:∀ d∈ds,d.canLay0=true∧d.depth≤20):PyData.canLayAll0 ds=true∧PyData.depthAll ds≤20:=by
  induction ds with
  | nil=>exact ⟨by simp [PyData.canLayAll0],by simp [PyData.depthAll]⟩
  | cons d ds ih =>
    obtain ⟨a,b⟩:=ih fun e he=>h e (List.mem_cons_of_mem _ he)
    obtain ⟨c,g⟩:=h d (List.mem_cons_self ..)
    exact ⟨by simp [PyData.canLayAll0,a,c],by simp only [PyData.depthAll]; omega⟩
theorem okd_list {ds:List PyData} (h:∀ d∈ds,d.canLay0=true∧d.depth≤20):Okd (.list ds):=by
  obtain ⟨a,b⟩:=okAll h
  exact ⟨by simp only [PyData.canLay0]; exact a,by simp only [PyData.depth]; omega⟩
theorem okd_tuple {ds:List PyData} (h:∀ d∈ds,d.canLay0=true∧d.depth≤20):Okd (.tuple ds):=by
  obtain ⟨a,b⟩:=okAll h
  exact ⟨by simp only [PyData.canLay0]; exact a,by simp only [PyData.depth]; omega⟩
theorem eqv_nil (ds:List PyData):PyData.eqv (.list ds) (.list [])=ds.isEmpty:=by
  cases ds <;> simp [PyData.eqv,PyData.eqvAll]
end FX
namespace FX
open PySem PySem.Spec PyProof.Rows L2
section
variable {X:Cx} {γ:Type}
def tG (Pre:γ→L2.St→Hp→Prop) (Post:γ→L2.St→Hp→Prop) (R:VK):TS:=fun D σ H=>∃ g,Pre g σ H∧(∀ σ' H',Post g σ' H'→D.nx σ' H')∧∀ v H',R v H'→D.rt v H'
theorem sp_mono {pins:List (Addr×Obj)} {D D':Ends} (h1:∀ σ H,D.nx σ H→D'.nx σ H) (h2:∀ v H,D.rt v H→D'.rt v H) (h3:∀ σ H,D.bk σ H→D'.bk σ H) (h4:∀ σ H,D.ct σ H→D'.ct σ H) {f:Flow} {s:Shared} (h:SP X pins D f s):SP X pins D' f s:=by
  cases f with
  | next=>obtain ⟨σ,H,I,q⟩:=h; exact ⟨σ,H,I,h1 _ _ q⟩
  | brk=>obtain ⟨σ,H,I,q⟩:=h; exact ⟨σ,H,I,h3 _ _ q⟩
  | cont=>obtain ⟨σ,H,I,q⟩:=h; exact ⟨σ,H,I,h4 _ _ q⟩
  | ret u=>obtain ⟨v,σ,H,I,r,q⟩:=h; exact ⟨v,σ,H,I,r,h2 _ _ q⟩
theorem PS.by {st:Stmt} {t:TS} (Pre Post:γ→L2.St→Hp→Prop) (R:VK) (h:PS X st t) (i:∀ g σ H,Pre g σ H→t { nx:=Post g,rt:=R } σ H):PS X st (tG Pre Post R):=fun pins s σ H D I ⟨g,p,k1,k2⟩ =>
  thn (h pins s σ H { nx:=Post g,rt:=R } I (i g σ H p)) fun f s' q=>sp_mono (D:={ nx:=Post g,rt:=R }) k1 k2 (fun _ _ z=>False.elim z) (fun _ _ z=>False.elim z) q
end
end FX
namespace FX
open PySem PySem.Spec PyProof.Rows L2
def Scr (K:PySem.W.Frag) (H:Hp) (a:Addr) (xs:List V):Prop:=(∃ o,H a=some (.frz o (.lst xs)))∨∀ H':Hp,SqL K H' a xs
theorem Scr.sq {K:PySem.W.Frag} {H:Hp} {a:Addr} {xs:List V} (h:Scr K H a xs):SqL K H a xs:=h.elim (fun ⟨o,e⟩=>.inl (.inr ⟨o,e⟩)) fun z=>z H
theorem Scr.keep {K:PySem.W.Frag} {H H':Hp} {a:Addr} {xs:List V} (h:Scr K H a xs) (kt:KeepT H H'):Scr K H' a xs:=h.elim (fun ⟨o,e⟩=>.inl ⟨o,kt.frz _ _ _ e⟩) fun z=>.inr z
theorem Scr.of {K:PySem.W.Frag} {H:Hp} {a:Addr} {xs:List V} (hO:Only H) (h:SqL K H a xs):Scr K H a xs:=by
  rcases h with (e | ⟨o,e⟩) | z
  · rcases hO a with q | ⟨o,ys,q⟩
    · rw [q] at e; cases e
    · rw [q] at e; cases e
  · exact .inl ⟨o,e⟩
  · exact .inr fun H'=>.inr z
end FX
namespace FX
open PySem PySem.Spec PyProof.Rows L2
theorem comp_loop {prog:Program} {w:World} {A:Around} {R:Result→Shared→Prop} {s:Shared} {elt target iter:Expr} {ifs:List Expr} {scope:Scope} {pos:Pos} {it acc:Value} {env:Env} (J:Nat→Shared→Prop)
    (turn:∀ k s0,J k s0→wpAny (model prog w) A (pyNext it) (fun r s1=>match r with
      | none=>R (.ok .next) s1
      | some v=>wpAny (model prog w) A (letOwnedTupleGo target it v) (fun _ sg=>wpAny (model prog w) A (assign target env v) (fun _ s2 =>
          wpAny (model prog w) A (forIn ifs true fun c r=>if r=true then do let ok ← isTrue c env (eval c env); pure (ForInStep.yield ok) else pure (ForInStep.yield r)) (fun ok s3 =>
            if ok=true then wpAny (model prog w) A (eval elt env) (fun x s4 =>
              wpAny (model prog w) A (call (.builtin "list.append") [acc,x]) (fun _ s5=>∃ m,m < k∧J m s5) (fun _ _=>False) s4) (fun _ _=>False) s3
            else ∃ m,m < k∧J m s3) (fun _ _=>False) s2) (fun _ _=>False) sg) (fun _ _=>False) s1) (fun _ _=>False) s0)
    (k:Nat) (h:J k s):codeAny (model prog w) A (.compLoop (.ListComp elt [⟨target,iter,ifs,0⟩] scope pos) 0 it acc env) R s:=by
  refine codeAny_loop rfl J (fun k s0 hI=>?_) k h
  show wpAny _ A ((compTurn (.ListComp elt [⟨target,iter,ifs,0⟩] scope pos) 0 it acc env).onRaise (fun x=>do noteFrame x env; theTreesLotGoes x)) _ _ s0
  have no:∀ {E:Value→Shared→Prop} (e:Value) (s':Shared),False→notedBy (model prog w) A env E e s':=fun _ _ z=>z.elim
  refine wpAny_noted ?_
  rw [compTurn_list]
  refine wpAny_bind (wpAny_standAt (wpAny_bind (wpAny_mono (turn k s0 hI) (fun r s1 h1=>?_) no)))
  cases r with
  | none=>exact wpAny_pure h1
  | some v =>
    refine wpAny_bind (wpAny_mono h1 (fun _ sg hg=>wpAny_bind (wpAny_mono hg (fun _ s2 h2=>wpAny_bind (wpAny_mono h2 (fun ok s3 h3=>?_) no)) no)) no)
    cases ok with
    | false =>
      simp only [Bool.false_eq_true,if_false] at h3 ⊢
      exact wpAny_pure ⟨rfl,h3⟩
    | true =>
      simp only [if_true] at h3 ⊢
      exact wpAny_bind (wpAny_bind (wpAny_mono h3 (fun x s4 h4=>wpAny_bind (wpAny_mono h4 (fun _ s5 h5=>wpAny_pure (wpAny_pure ⟨rfl,h5⟩)) no)) no))
def blk (X:Cx) (sc:Scope) (cl:List (Str×Addr)) (C:Addr) (N:List Str) (s1:Shared) (H1:Hp) (fp:List Addr) (pins:List (Addr×Obj)):Cx where
  prog:=X.prog
  w:=X.w
  K:=X.K
  mg:=X.mg
  base:=X.base
  A:=X.A
  N:=N
  s₀:=s1
  H₀:=H1
  env:=compEnvC sc cl C X.env
  outer:=X.stack
  stack:=X.stack
  ex:=fp
  fn:=fun _=>false
  calm:=X.calm
  pn:=X.pn++pins
  xe:=fun _ _=>False
def InCells (cells:List (Str×Addr)):List (Str×Addr)→Prop
  | []=>True
  | (x,c) :: r=>cells.lookup x=some c∧InCells cells r
theorem InCells.look {cells:List (Str×Addr)}:∀ {cl:List (Str×Addr)} {x:Str} {c:Addr},InCells cells cl→cl.lookup x=some c→cells.lookup x=some c
  | [],_,_,_,e=>by simp at e
  | (y,d) :: r,x,c,h,e=>by
    rw [List.lookup_cons] at e
    cases q:x == y with
    | true =>
      rw [q] at e
      have e1:x=y:=eq_of_beq q
      cases e
      rw [e1]; exact h.1
    | false =>
      rw [q] at e
      exact InCells.look h.2 e
structure CapOk (X:Cx) (sc:Scope) (cl:List (Str×Addr)) (p:Str×Nat):Prop where
  n:X.N[p.2]?=some p.1
  k:X.env.scope.names.lookup p.1=some .cell
  l:cl.lookup p.1=X.env.cells.lookup p.1
  f:(relabel sc X.env).names.lookup p.1=some .cell
def CapsOk (X:Cx) (sc:Scope) (cl:List (Str×Addr)):List (Str×Nat)→Prop
  | []=>True
  | p :: r=>CapOk X sc cl p∧CapsOk X sc cl r
theorem CapsOk.at {X:Cx} {sc:Scope} {cl:List (Str×Addr)}:∀ {caps:List (Str×Nat)} {j:Nat} {p:Str×Nat},CapsOk X sc cl caps→caps[j]?=some p→CapOk X sc cl p
  | [],_,_,_,e=>by simp at e
  | q :: r,0,p,h,e=>by simp at e; subst e; exact h.1
  | q :: r,j + 1,p,h,e=>CapsOk.at h.2 (by simpa using e)
abbrev capn (caps:List (Str×Nat)):List Str:=caps.map fun p=>p.1
def capv (σ:L2.St) (caps:List (Str×Nat)):L2.St:=caps.map fun p=>(σ[p.2]?).join
section
variable {X:Cx} {sc:Scope} {cl:List (Str×Addr)} {pins:List (Addr×Obj)} {σ:L2.St} {H1:Hp} {s1:Shared} {fp:List Addr} {N:List Str}
theorem blk_ok (I:Inv X pins σ H1 s1) (hf:∀ b∈fp,FpOk X pins H1 b) (ho:∀ b∈fp,∃ o,s1.heap.get? b=some o) (hk:sc.kind=.function) (hin:InCells X.env.cells cl)
    (has:∀ x,((relabel sc X.env).names.lookup x=some .cell∨(relabel sc X.env).names.lookup x=some .free)→∃ c,cl.lookup x=some c):(blk X sc cl s1.heap.objs.size N s1 H1 fp pins).Ok where
  mod:=I.ok.mod
  kind:=hk
  glob:=I.ok.glob
  blt:=I.ok.blt
  above:=Nat.le_refl _
  inj:=fun x y c e1 e2=>I.ok.inj x y c (hin.look e1) (hin.look e2)
  has:=has
  cab:=fun x c e _=>by cases e
  hd:=I.ok.hd
  frames:=I.ok.frames
  stk:=.inl rfl
  exf:=fun b hb=>⟨fun z=>by
    obtain ⟨o,e⟩:=ho b hb
    exact Nat.ne_of_lt (Heap.lt_size e) z,fun x c e=>(hf b hb).2.2.2.2.1 x c (hin.look e)⟩
  bs:=fun b o e=>I.bs b o e
  bsz:=Nat.le_trans I.ok.bsz I.sz
  noex:=fun b o e hb=>by
    rcases (hf b hb).2.2.2.1 with z | z
    · exact I.ok.noex b o e z
    · exact absurd (Nat.lt_of_lt_of_le (Nat.lt_of_lt_of_le (Heap.lt_size e) I.ok.bsz) z) (Nat.lt_irrefl _)
  exfs:=fun b hb z=>by
    rcases List.mem_cons.mp (I.stkSub b z) with q | q
    · exact (hf b hb).2.1 q
    · exact (hf b hb).2.2.1 q
  funs:=I.stack
  frf:=fun b hb=>I.stkFree b hb
theorem blk_in {x:Str} {caps:List (Str×Nat)} {h':Heap} {m:Str→Option Value} {t':Nat} {o:Obj} (I:Inv X pins σ H1 s1) (ok:(blk X sc cl s1.heap.objs.size (x :: capn caps) s1 H1 fp pins).Ok) (hin:InCells X.env.cells cl) (hcap:CapsOk X sc cl caps)
    (hx:(relabel sc X.env).names.lookup x=some .local) (hn:h'.Ns s1.heap.objs.size m) (hs:Heap.SameBut s1.heap.objs.size (s1.heap.push o) h') :
    Inv (blk X sc cl s1.heap.objs.size (x :: capn caps) s1 H1 fp pins) [] (none :: capv σ caps) H1 { s1 with heap:=h',toks:=t' }:=by
  have kp:∀ b u,s1.heap.get? b=some u→h'.get? b=some u:=fun b u e=>(hs.2 b (Nat.ne_of_lt (Heap.lt_size e))).trans (Heap.get?_push_of_some _ e)
  have hfree:H1 s1.heap.objs.size=none:=I.hok.fresh (Nat.le_refl _)
  refine ⟨ok,rfl,I.bare,Un.kept kp,⟨m,hn,fun i y v e1 e2 e3=>?_⟩,fun y c e=>?_,hfree,fun y c e=>I.freeC y c (hin.look e),fun p hp=>?_,I.hok.kept kp,?_⟩
  · cases i with
    | zero=>simp at e2
    | succ j =>
      have e1':(x :: capn caps)[j + 1]?=some y:=e1
      rw [List.getElem?_cons_succ] at e1'
      have e2':(capv σ caps)[j]?=some (some v):=by simpa using e2
      rw [List.getElem?_map] at e1'
      unfold capv at e2'
      rw [List.getElem?_map] at e2'
      cases q:caps[j]? with
      | none=>rw [q] at e1'; cases e1'
      | some p =>
        rw [q] at e1' e2'
        have e4:p.1=y:=Option.some.inj e1'
        have e5:(σ[p.2]?).join=some v:=Option.some.inj e2'
        have hc:=hcap.at q
        have e6:σ[p.2]?=some (some v):=by
          cases z:σ[p.2]? with
          | none=>rw [z] at e5; cases e5
          | some w' =>
            rw [z] at e5
            have:w'=some v:=e5
            rw [this]
        obtain ⟨mm,hnn,hl⟩:=I.loc
        obtain ⟨u,r,lk⟩:=hl p.2 p.1 v hc.n e6 (.inr (.inl hc.k))
        refine ⟨u,r,.inr ⟨.inl (by rw [← e4]; exact hc.f),?_⟩⟩
        rcases lk with ⟨k1,_⟩ | ⟨_,c,hcl,ce⟩
        · have:X.env.scope.names.lookup p.1=some .local:=k1
          rw [hc.k] at this; cases this
        · obtain ⟨oc,hoc,hd⟩:=ce
          exact ⟨c,by rw [← e4]; exact hc.l.trans hcl,oc,kp _ _ hoc,hd⟩
  · obtain ⟨v,oc,hoc,hd⟩:=I.cell y c (hin.look e)
    exact ⟨v,oc,kp _ _ hoc,hd⟩
  · have hp':p∈(X.pn++pins)++[]:=hp
    rw [List.append_nil] at hp'
    obtain ⟨a1,a2,a3,a4,a5⟩:=I.pin p hp'
    refine ⟨kp _ _ a1,a2,Nat.ne_of_lt (Heap.lt_size a1),fun z=>?_,a5⟩
    rcases List.mem_cons.mp (I.stkSub _ z) with q | q
    · exact a3 q
    · exact a4 q
  · simp [capv,blk]
theorem blk_out {pins':List (Addr×Obj)} {σ':L2.St} {H':Hp} {s':Shared} (I:Inv X pins σ H1 s1) (hf:∀ b∈fp,FpOk X pins H1 b) (I':Inv (blk X sc cl s1.heap.objs.size N s1 H1 fp pins) pins' σ' H' s'):Inv X pins σ H' s' :=
  I.call' (ch:=fp) I'.os I'.base I'.hok I'.bare fun b hb=>⟨(hf b hb).2.2.2.1,(hf b hb).2.1,(hf b hb).2.2.2.2.1,(hf b hb).2.2.2.2.2⟩
theorem blk_let {H':Hp} {s':Shared} {h':Heap} {σ2:L2.St} {sA:Shared} (I:Inv X pins σ H1 s1) (I2:Inv X pins σ2 H' sA) (hn:H' s1.heap.objs.size=none) (hs:Heap.SameBut s1.heap.objs.size sA.heap h'):Inv X pins σ2 H' { sA with heap:=h' } :=
  I2.turned (it:=s1.heap.objs.size) (t':=sA.toks) (fun b o hb e=>(hs.2 b hb).trans e) hn (Nat.ne_of_gt I.lt) (.inr I.sz) (fun x c e z=>by
    obtain ⟨v,q⟩:=I.cell x c e
    exact absurd q.lt (by rw [z]; exact Nat.lt_irrefl _)) fun p hp z=>by
    have:=Heap.lt_size (I.pin p hp).1
    rw [z] at this
    exact absurd this (Nat.lt_irrefl _)
end
def PTs (X:Cx) (ifs:List Expr) (t:TT):Prop :=
  ∀ (pins:List (Addr×Obj)) (s:Shared) (σ:L2.St) (H:Hp) (Q:Bool→Hp→Prop),Inv X pins σ H s→t σ H Q →
    wpAny (model X.prog X.w) X.A (forIn ifs true fun c r=>if r=true then do let ok ← isTrue c X.env (eval c X.env); pure (ForInStep.yield ok) else pure (ForInStep.yield r)) (TP X pins σ Q) X.xe s
theorem pts_nil {X:Cx}:PTs X [] (fun _ H Q=>Q true H):=fun pins s σ H Q I h=>wpAny_tests_nil ⟨H,I,h⟩
theorem pts_one {X:Cx} {c:Expr} {t:TT} (h:PT X c t):PTs X [c] t:=fun pins s σ H Q I hw=>wpAny_tests_one (h pins s σ H Q I hw)
def tComp (wi:TI) (caps:List (Str×Nat)) (tt:TT) (te:TE):TE:=fun σ H Q=>wi σ H fun J H1=>∀ p,H1 p=none→∃ W:Nat→Nat→List V→Hp→Prop,(∃ m,W 0 m [] (upd H1 p (.lst [])))∧∀ i m ys H2,W i m ys H2→H2 p=some (.lst ys) ∧
  ((J.stop i H2∧Q (.ref p) H2)∨(J.go i H2∧∀ x H3,J.yld i H2 x H3→tt (some x :: capv σ caps) H3 fun b H4 =>
    if b=true then te (some x :: capv σ caps) H4 fun v H5=>H5 p=some (.lst ys)∧ys.length < sizeLine∧∃ m',m' < m∧W (i + 1) m' (ys++[v]) (upd H5 p (.lst (ys++[v])))
    else ∃ m',m' < m∧W (i + 1) m' ys H4))
section
variable {X:Cx} {elt iter:Expr} {x:Str} {px pos:Pos} {ifs:List Expr} {sc:Scope} {cl:List (Str×Addr)} {caps:List (Str×Nat)} {wi:TI} {tt:TT} {te:TE}
theorem comp_core {pins:List (Addr×Obj)} {σ:L2.St} {H:Hp} {s:Shared} {Q:VK} {use:Option (Value→Sem Unit)} {RQ:Value→Shared→Prop} (hc:X.calm=true) (hi:PI X (.Name x px) iter wi) (hclos:closureFor sc X.env=pure cl) (hcell:∀ y∈sc.names,y.2≠.cell) (hkind:sc.kind=.function)
    (hnames:∀ y∈sc.names,y.2=.local→sc.names.lookup y.1=some .local) (hx:sc.names.lookup x=some .local) (hin:InCells X.env.cells cl)
    (has:∀ y,((relabel sc X.env).names.lookup y=some .cell∨(relabel sc X.env).names.lookup y=some .free)→∃ c,cl.lookup y=some c) (hcap:CapsOk X sc cl caps) (hN:(x :: capn caps).Nodup)
    (ht:∀ C s1 H1 fp pins,PTs (blk X sc cl C (x :: capn caps) s1 H1 fp pins) ifs tt) (he:∀ C s1 H1 fp pins,PE (blk X sc cl C (x :: capn caps) s1 H1 fp pins) elt te)
    (I:Inv X pins σ H s) (h:tComp wi caps tt te σ H Q)
    (fin:∀ (C D:Addr) (H':Hp) (s1 s':Shared) (H1:Hp),C=s1.heap.objs.size→Inv X pins σ H1 s1→Inv X pins σ H' s'→H' C=none→(∃ m,s'.heap.Ns C m)→Q (.ref D) H'→compPost (model X.prog X.w) X.A X.xe use RQ (.ref D) C (.ok .next) s')
    (hs:∀ v,foldedSetIterable iter X.env v=pure v) :
    wpAny (model X.prog X.w) X.A (comprehension (.ListComp elt [⟨.Name x px,iter,ifs,0⟩] sc pos) sc X.env (firstIterPos [⟨.Name x px,iter,ifs,0⟩] pos) (newList []) false (eval iter X.env) use) RQ X.xe s:=by
  refine wpAny_comprehension_free rfl hs hclos hkind hnames (thn (hi pins s σ H _ I h) fun v s1 h1=>thn h1 fun itv s2 h2=>?_)
  obtain ⟨it,fp,tn,J,H2,e,I2,T,st2,f2,hW⟩:=h2
  subst e
  refine wpAny_newObj_type ?_
  have hfresh:H2 s2.heap.objs.size=none:=I2.hok.fresh (Nat.le_refl _)
  have I3:Inv X pins σ (upd H2 s2.heap.objs.size (.lst [])) { s2 with heap:=s2.heap.push { cls:=.type "list",dict:=none,data:=.seq ([]:List Value).toArray } }:=I2.lnew (t':=s2.toks) (its:=[]) .nil (Nat.zero_le _)
  obtain ⟨W,⟨m0,w0⟩,turn⟩:=hW s2.heap.objs.size hfresh
  have fpn:∀ b∈fp,b≠s2.heap.objs.size:=fun b hb z=>by
    obtain ⟨o,e,_⟩:=T.obj 0 _ st2 b hb
    exact absurd (Heap.lt_size e) (by rw [z]; exact Nat.lt_irrefl _)
  have f3:∀ b∈fp,FpOk X pins (upd H2 s2.heap.objs.size (.lst [])) b:=fun b hb=>⟨by rw [upd_ne (fpn b hb)]; exact (f2 b hb).1,(f2 b hb).2⟩
  have st3:tn 0 (s2.heap.push { cls:=.type "list",dict:=none,data:=.seq ([]:List Value).toArray }):=T.keep 0 _ _ st2 fun b hb o e=>Heap.get?_push_of_some _ e
  obtain ⟨D,hD⟩:∃ D,D=s2.heap.objs.size:=⟨_,rfl⟩
  obtain ⟨H3,hH3⟩:∃ H3,H3=upd H2 s2.heap.objs.size (.lst []):=⟨_,rfl⟩
  obtain ⟨s3,hs3⟩:∃ s3:Shared,s3={ s2 with heap:=s2.heap.push { cls:=.type "list",dict:=none,data:=.seq ([]:List Value).toArray } }:=⟨_,rfl⟩
  have st3':tn 0 s3.heap:=by rw [hs3]; exact st3
  rw [← hH3] at I3 f3 w0
  rw [← hs3] at I3
  rw [← hD] at turn
  show wpAny _ _ _ _ _ ({ s2 with heap:=s2.heap.push { cls:=.type "list",dict:=none,data:=.seq ([]:List Value).toArray } }:Shared)
  rw [← hs3,← hD]
  refine wpAny_newFunctionEnv hcell (by intro y hy; simp at hy) (fun h1 hn1 hs1=>?_) hkind
  have ok:=blk_ok (N:=x :: capn caps) I3 f3 (fun b hb=>let ⟨o,e,_⟩:=T.obj 0 _ st3' b hb; ⟨o,e⟩) hkind hin has
  have hx':(relabel sc X.env).names.lookup x=some .local:=lookup_relabel_local hx
  have J4:=blk_in (t':=s3.toks + ([]:List (Str×Value)).length) I3 ok hin hcap hx' hn1 hs1
  have st4:tn 0 h1:=T.keep 0 _ _ st3' fun b hb o e=>(hs1.2 b (Nat.ne_of_lt (Heap.lt_size e))).trans (Heap.get?_push_of_some _ e)
  have stat:∀ {H':Hp},(∀ b∈fp,H' b=none)→∀ b∈fp,FpOk (blk X sc cl s3.heap.objs.size (x :: capn caps) s3 H3 fp pins) [] H' b:=fun hn b hb=>by
    refine ⟨hn b hb,?_,fun z=>ok.exfs b hb z,.inl hb,fun y c e=>(f3 b hb).2.2.2.2.1 y c (hin.look e),fun p hp=>?_⟩
    · exact (ok.exf b hb).1
    · have hp':p∈(X.pn++pins)++[]:=hp
      rw [List.append_nil] at hp'
      exact (f3 b hb).2.2.2.2.2 p hp'
  have loop:∀ s4:Shared,s4={ s3 with heap:=h1,toks:=s3.toks + ([]:List (Str×Value)).length } →
      codeAny (model X.prog X.w) X.A (.compLoop (.ListComp elt [⟨.Name x px,iter,ifs,0⟩] sc pos) 0 (.ref it) (.ref D) (compEnvC sc cl s3.heap.objs.size X.env)) (compPost (model X.prog X.w) X.A X.xe use RQ (.ref D) s3.heap.objs.size) s4:=by
    rintro s4 rfl
    refine comp_loop (fun k s'=>∃ i v0 ys H',Inv (blk X sc cl s3.heap.objs.size (x :: capn caps) s3 H3 fp pins) [] (v0 :: capv σ caps) H' s'∧tn i s'.heap∧(∀ b∈fp,H' b=none)∧W i k ys H') ?_ m0
      ⟨0,none,[],H3,J4,st4,fun b hb=>(f3 b hb).1,w0⟩
    rintro k s5 ⟨i,v0,ys,H5,I5,st5,fr5,w5⟩
    obtain ⟨hD5,stop | ⟨go,step⟩⟩:=turn i k ys H5 w5
    · obtain ⟨stop,q⟩:=stop
      refine thn (T.done (blk X sc cl s3.heap.objs.size (x :: capn caps) s3 H3 fp pins) rfl rfl rfl hc i [] s5 _ H5 (fun _ _=>False) I5 (stat fr5) st5 stop) fun r s6 ⟨hr,I6⟩=>?_
      subst hr
      obtain ⟨mm,hnn,_⟩:=I6.loc
      exact fin _ D H5 s3 s6 H3 rfl I3 (blk_out I3 f3 I6) I6.free ⟨mm,hnn⟩ q
    · refine thn (T.item (blk X sc cl s3.heap.objs.size (x :: capn caps) s3 H3 fp pins) rfl rfl rfl hc i [] s5 _ H5 (fun _ _=>False) I5 (stat fr5) st5 go) fun r s6 ⟨u,hr,h6⟩=>?_
      subst hr
      refine thn h6 fun _ s7 ⟨y,H7,I7,r7,y7,st7,fr7⟩=>?_
      have I7':=I7.pinned (stat fr7) (T.obj _ _ st7)
      refine thn (pg_name (X:=blk X sc cl s3.heap.objs.size (x :: capn caps) s3 H3 fp pins) (i:=0) hN rfl (.inl hx') (.inr hx') _ s7 (v0 :: capv σ caps) H7 y u (fun σ' H'=>σ'=some y :: capv σ caps∧H'=H7) I7' r7 ⟨rfl,rfl⟩) fun _ s8 ⟨σ8,H8,I8,e8,e8'⟩=>?_
      subst e8
      subst e8'
      have back:∀ {σ9:L2.St} {H9:Hp} {s9:Shared},Inv (blk X sc cl s3.heap.objs.size (x :: capn caps) s3 H3 fp pins) ([]++pinsAt fp s7.heap) σ9 H9 s9→tn (i + 1) s9.heap∧∀ b∈fp,H9 b=none:=fun {σ9 H9 s9} I9=>by
        refine ⟨T.keep _ _ _ st7 fun b hb o e=>(I9.pin (b,o) (List.mem_append_right _ (List.mem_append_right _ (mem_pinsAt hb e)))).1,fun b hb=>?_⟩
        obtain ⟨o,e,d⟩:=T.obj _ _ st7 b hb
        exact (I9.pin (b,o) (List.mem_append_right _ (List.mem_append_right _ (mem_pinsAt hb e)))).2.1
      refine thn (ht _ _ _ _ _ _ s8 _ _ _ I8 (step y _ y7)) fun ok s9 ⟨H9,I9,q9⟩=>?_
      cases ok with
      | false =>
        simp only [Bool.false_eq_true,if_false] at q9 ⊢
        obtain ⟨m',hm,w9⟩:=q9
        exact ⟨m',hm,i + 1,some y,ys,H9,I9.unpinned,(back I9).1,(back I9).2,w9⟩
      | true =>
        simp only [if_true] at q9 ⊢
        refine thn (he _ _ _ _ _ _ s9 _ _ _ I9 q9) fun xv s10 ⟨v,H10,I10,r10,hD10,hlt,m',hm,w10⟩=>?_
        refine thn (mt_append (X:=blk X sc cl s3.heap.objs.size (x :: capn caps) s3 H3 fp pins) _ s10 _ H10 (.ref D) [v] (.ref D) [xv] (fun _ H'=>H'=upd H10 D (.lst (ys++[v]))) I10 rfl (.cons r10 .nil) ⟨D,ys,v,rfl,rfl,hD10,hlt,rfl⟩) fun _ s11 ⟨_,H11,I11,_,e11⟩=>?_
        subst e11
        exact ⟨m',hm,i + 1,some y,ys++[v],_,I11.unpinned,(back I11).1,(back I11).2,w10⟩
  exact codeAny_compStart_list (loop _ rfl) (T.self _ 0 _ _ _ st4 (loop _ rfl))
theorem pe_comp (hc:X.calm=true) (hi:PI X (.Name x px) iter wi) (hclos:closureFor sc X.env=pure cl) (hcell:∀ y∈sc.names,y.2≠.cell) (hkind:sc.kind=.function)
    (hnames:∀ y∈sc.names,y.2=.local→sc.names.lookup y.1=some .local) (hx:sc.names.lookup x=some .local) (hin:InCells X.env.cells cl)
    (has:∀ y,((relabel sc X.env).names.lookup y=some .cell∨(relabel sc X.env).names.lookup y=some .free)→∃ c,cl.lookup y=some c) (hcap:CapsOk X sc cl caps) (hN:(x :: capn caps).Nodup)
    (ht:∀ C s1 H1 fp pins,PTs (blk X sc cl C (x :: capn caps) s1 H1 fp pins) ifs tt) (he:∀ C s1 H1 fp pins,PE (blk X sc cl C (x :: capn caps) s1 H1 fp pins) elt te)
    (hs:∀ v,foldedSetIterable iter X.env v=pure v:=by intro _; rfl):PE X (.ListComp elt [⟨.Name x px,iter,ifs,0⟩] sc pos) (tComp wi caps tt te):=by
  intro pins s σ H Q I h
  rw [eval_ListComp]
  refine comp_core (use:=none) hc hi hclos hcell hkind hnames hx hin has hcap hN ht he I h (fun C D H' s1 s' H1 hC I1 I' hn ⟨m,hm⟩ q=>?_) hs
  subst hC
  exact ⟨m,hm,fun h' hs'=>⟨.ref D,H',blk_let (s':=s') I1 I' hn hs',rfl,q⟩⟩
theorem ps_comp {i:Nat} {y:Str} {py spos:Pos} (hN':X.N.Nodup) (hi':X.N[i]?=some y) (hy:X.env.scope.names.lookup y=some .local)
    (hsw:swapsWith (.ListComp elt [⟨.Name x px,iter,ifs,0⟩] sc pos) (some (.Name y py)) spos.line X.env=pure true)
    (hc:X.calm=true) (hi:PI X (.Name x px) iter wi) (hclos:closureFor sc X.env=pure cl) (hcell:∀ y∈sc.names,y.2≠.cell) (hkind:sc.kind=.function)
    (hnames:∀ y∈sc.names,y.2=.local→sc.names.lookup y.1=some .local) (hx:sc.names.lookup x=some .local) (hin:InCells X.env.cells cl)
    (has:∀ y,((relabel sc X.env).names.lookup y=some .cell∨(relabel sc X.env).names.lookup y=some .free)→∃ c,cl.lookup y=some c) (hcap:CapsOk X sc cl caps) (hN:(x :: capn caps).Nodup)
    (ht:∀ C s1 H1 fp pins,PTs (blk X sc cl C (x :: capn caps) s1 H1 fp pins) ifs tt) (he:∀ C s1 H1 fp pins,PE (blk X sc cl C (x :: capn caps) s1 H1 fp pins) elt te)
    (hs:∀ v,foldedSetIterable iter X.env v=pure v:=by intro _; rfl) :
    PS X (.Assign [.Name y py] (.ListComp elt [⟨.Name x px,iter,ifs,0⟩] sc pos) spos) (fun D σ H=>tComp wi caps tt te σ H fun v H'=>D.nx (σ.set i (some v)) H'):=by
  intro pins s σ H D I h
  rw [exec_Assign_Name_used _ _ _ _ hsw]
  refine wpAny_bind (wpAny_standAt (wpAny_bind ?_))
  show wpAny _ X.A (do let _ ← comprehension (.ListComp elt [⟨.Name x px,iter,ifs,0⟩] sc pos) sc X.env _ (newList []) false (eval iter X.env) (some (assign (.Name y py) X.env))) _ _ s
  refine wpAny_bind (wpAny_mono (comp_core (use:=some (assign (.Name y py) X.env)) (RQ:=fun _ s'=>SP X pins D .next s') hc hi hclos hcell hkind hnames hx hin has hcap hN ht he I h (fun C Dd H' s1 s' H1 hC I1 I' hn ⟨m,hm⟩ q=>?_) hs) (fun _ s' hq=>wpAny_pure (wpAny_pure hq)) fun _ _ e=>e)
  subst hC
  show wpAny _ _ (assign (.Name y py) X.env (.ref Dd)) _ _ _
  refine wpAny_assign_Name (store_ok2 I' hN' hi' (.inl hy) (show RelV (.ref Dd) (.ref Dd) from rfl) (fun s2 I2 ⟨a,hs2,ha⟩=>?_) (.inr hy))
  have hCa:s1.heap.objs.size≠a:=by
    rcases ha with z | z
    · rw [z]; exact Nat.ne_of_gt I1.lt
    · intro z2
      obtain ⟨v,qc⟩:=I1.cell y a z
      exact absurd qc.lt (by rw [← z2]; exact Nat.lt_irrefl _)
  exact ⟨m,hm.sameBut hs2 hCa,fun h' hs'=>⟨_,H',blk_let (s':=s') I1 I2 hn hs',q⟩⟩
end
end FX
namespace FX
open PySem PySem.Spec PyProof.Rows L2
def RawD (h:Heap) (d:Addr) (es:Array DictEntry) (ep:Nat):Prop:=∃ o,h.get? d=some o∧o.ExactDict∧o.data=.dict es ep
theorem RawD.at {h h':Heap} {d:Addr} {es:Array DictEntry} {ep:Nat} (x:RawD h d es ep) (k:∀ o,h.get? d=some o→h'.get? d=some o):RawD h' d es ep:=let ⟨o,e,r⟩:=x; ⟨o,k o e,r⟩
section
variable {prog:Program} {w:World} {A:Around} {E:Value→Shared→Prop} {s:Shared} {d it:Addr} {es:Array DictEntry} {ep i:Nat}
theorem raw_iter {Q:Value→Shared→Prop} (nos:(d == sysModules)=false) (hm:RawD s.heap d es ep)
    (hQ:Q (.ref s.heap.objs.size) { s with heap:=s.heap.push { cls:=.type "dict_keyiterator",data:=.fields #[.ref d,.int 0 0,.int es.size 0,.int ep 0] } }):wpAny (model prog w) A (pyIter (.ref d)) Q E s:=by
  obtain ⟨ob,g1,g2,g3⟩:=id hm
  have tD:s.TypeIs (.ref d) "dict":=⟨ob,g1,g2.1⟩
  refine wpAny_pyIter_slot tD F.slot_dict_iter (wpAny_call_entry F.slot_dict_iter tD F.entry_dict_iter ?_ (F.args_dict_iter_1 _))
  unfold Builtin.«dict.__iter__»
  refine wpAny_bind ?_
  unfold Builtin.Dict.dictSlotNone
  refine wpAny_bind (wpAny_notOrdered_dict tD ?_)
  show wpAny _ _ (pure (Value.ref d)) _ _ s
  refine wpAny_pure ?_
  show wpAny _ _ (Builtin.Dict.showsAll d >>= _) _ _ s
  unfold Builtin.Dict.showsAll
  rw [if_neg (by rw [nos]; exact Bool.false_ne_true)]
  refine wpAny_bind (wpAny_pure ?_)
  refine wpAny_bind (wpAny_dictEntries g1 g3 (wpAny_bind (wpAny_dictEpoch g1 g3 ?_)))
  refine wpAny_bind (wpAny_newObj_type (wpAny_pure ⟨_,rfl,"dict_keyiterator",_,⟨_,Heap.get?_push_size _ rfl,rfl⟩,F.slot_dict_keyiterator_next.lookup,by simpa [rawInt] using hQ⟩))
theorem raw_next {e:DictEntry} {Q:Option Value→Shared→Prop} (hit:s.heap.IsKeyIter it d i es.size ep) (hm:RawD s.heap d es ep) (hx:es[i]?=some e)
    (hQ:∀ h',h'.IsKeyIter it d (i + 1) es.size ep→Heap.SameBut it s.heap h'→Q (some e.key) { s with heap:=h' }):wpAny (model prog w) A (pyNext (.ref it)) Q E s:=by
  obtain ⟨oi,i1,i2,i3⟩:=id hit
  obtain ⟨ob,g1,g2,g3⟩:=id hm
  have tI:=hit.typeIs
  unfold pyNext
  refine wpAny_bind (wpAny_attempt (wpAny_callSpecial?_slot (name:=Str.ofString "__next__") tI F.slot_dict_keyiterator_next (wpAny_call_entry F.slot_dict_keyiterator_next tI F.entry_dict_keyiterator_next ?_ (F.args_dict_keyiterator_next_1 _))))
  refine wpAny_bind (wpAny_pure (wpAny_bind (wpAny_bind ?_)))
  first | refine wpAny_bind (wpAny_typeNameOfWhole_keyiter tI (wpAny_pure ?_)) | refine wpAny_bind (wpAny_typeNameOf_keyiter tI (wpAny_pure ?_))
  refine wpAny_bind (wpAny_fieldsOf i1 i3 ?_)
  have notOwn:Builtin.Dict_items.ownsTuple "dict_keyiterator"=false:=by decide
  simp only [notOwn,Bool.false_eq_true,if_false]
  show wpAny _ _ (if (Value.ref d == Value.none)=true then _ else _) _ _ s
  rw [if_neg (show ¬ ((Value.ref d == Value.none)=true) from Bool.false_ne_true)]
  refine wpAny_bind (wpAny_pure (wpAny_bind (wpAny_dictEntries g1 g3 ?_)))
  rw [if_neg (by simp)]
  refine wpAny_bind (wpAny_pure (wpAny_bind (wpAny_dictEpoch g1 g3 ?_)))
  rw [if_neg (by simp)]
  refine wpAny_pure ?_
  have lt:i < es.size:=(Array.getElem?_eq_some_iff.mp hx).1
  have ee:es[i]=e:=(Array.getElem?_eq_some_iff.mp hx).2
  simp only [show ¬ ((i:Int) < 0) from by omega,if_false,Int.toNat_natCast,Array.getElem?_eq_getElem lt]
  refine wpAny_bind ?_
  first | refine wpAny_bind (wpAny_typeNameOfWhole_keyiter tI (wpAny_pure ?_)) | refine wpAny_bind (wpAny_typeNameOf_keyiter tI (wpAny_pure ?_))
  refine wpAny_bind (wpAny_isOneOf_keyiter tI ?_)
  show wpAny _ _ (setField (.ref it) 1 (rawInt ((i:Int) + 1)) >>= _) _ _ s
  refine wpAny_bind (wpAny_setField i1 i3 (by simp) ?_)
  have hit':(s.heap.update it (Obj.mapFields (·.setIfInBounds 1 (rawInt ((i:Int) + 1))))).IsKeyIter it d (i + 1) es.size ep :=
    ⟨_,Heap.get?_update_self _ i1 (Obj.isFreed_of_fields (Obj.data_mapFields i3 _)),(Obj.cls_mapFields ..).trans i2,by rw [Obj.data_mapFields i3]; simp [rawInt]⟩
  refine wpAny_bind (wpAny_holding ?_)
  refine wpAny_bind (wpAny_isOneOf_keyiter (s:={ s with heap:=s.heap.update it (Obj.mapFields (·.setIfInBounds 1 (rawInt ((i:Int) + 1)))) }) hit'.typeIs ?_)
  show wpAny _ _ (pure es[i].key) _ _ _
  rw [ee]
  exact wpAny_pure (wpAny_pure ⟨_,rfl,wpAny_pure (hQ _ hit' (Heap.SameBut.update ..))⟩)
theorem raw_end {Q:Option Value→Shared→Prop} (hh:A.handled=none) (hit:s.heap.IsKeyIter it d i es.size ep) (hm:RawD s.heap d es ep) (hx:es.size≤i)
    (hQ:∀ h',Heap.ExtBut it s.heap h'→Q none { s with heap:=h' }):wpAny (model prog w) A (pyNext (.ref it)) Q E s:=by
  obtain ⟨oi,i1,i2,i3⟩:=id hit
  obtain ⟨ob,g1,g2,g3⟩:=id hm
  have tI:=hit.typeIs
  unfold pyNext
  refine wpAny_bind (wpAny_attempt (wpAny_callSpecial?_slot (name:=Str.ofString "__next__") tI F.slot_dict_keyiterator_next (wpAny_call_entry F.slot_dict_keyiterator_next tI F.entry_dict_keyiterator_next ?_ (F.args_dict_keyiterator_next_1 _))))
  refine wpAny_bind (wpAny_pure (wpAny_bind (wpAny_bind ?_)))
  first | refine wpAny_bind (wpAny_typeNameOfWhole_keyiter tI (wpAny_pure ?_)) | refine wpAny_bind (wpAny_typeNameOf_keyiter tI (wpAny_pure ?_))
  refine wpAny_bind (wpAny_fieldsOf i1 i3 ?_)
  have notOwn:Builtin.Dict_items.ownsTuple "dict_keyiterator"=false:=by decide
  simp only [notOwn,Bool.false_eq_true,if_false]
  show wpAny _ _ (if (Value.ref d == Value.none)=true then _ else _) _ _ s
  rw [if_neg (show ¬ ((Value.ref d == Value.none)=true) from Bool.false_ne_true)]
  refine wpAny_bind (wpAny_pure (wpAny_bind (wpAny_dictEntries g1 g3 ?_)))
  rw [if_neg (by simp)]
  refine wpAny_bind (wpAny_pure (wpAny_bind (wpAny_dictEpoch g1 g3 ?_)))
  rw [if_neg (by simp)]
  refine wpAny_pure ?_
  simp only [show ¬ ((i:Int) < 0) from by omega,if_false,Int.toNat_natCast,Array.getElem?_eq_none hx]
  refine wpAny_bind ?_
  first | refine wpAny_bind (wpAny_typeNameOfWhole_keyiter tI (wpAny_pure ?_)) | refine wpAny_bind (wpAny_typeNameOf_keyiter tI (wpAny_pure ?_))
  show wpAny _ _ (setField (.ref it) 0 .none >>= _) _ _ s
  refine wpAny_bind (wpAny_setField i1 i3 (by simp) ?_)
  show wpAny _ _ (newExc (.type "StopIteration") [] >>= _) _ _ _
  refine wpAny_bind ?_
  simp only [newExc,newTuple]
  refine wpAny_bind (wpAny_newObj_type ?_ (by size_fits))
  refine wpAny_bind (m:=firstArgMember _ _) (wpAny_of_eq (a:=Value.none) (by first | rfl | (simp only [firstArgMember]; rfl)) ?_)
  refine wpAny_newObj_type ?_ (by size_fits)
  simp only [raiseNew]
  refine wpAny_bind (wpAny_handled ?_)
  rw [show A.in1.handled=none from hh]
  refine wpAny_bind (wpAny_pure (wpAny_throw ?_))
  refine wpAny_bind (wpAny_isInstance (T:="StopIteration") (b:=true) ⟨_,Heap.get?_push_size _ rfl,rfl⟩ isSubtype_stop ?_)
  exact wpAny_pure (hQ _ (((Heap.SameBut.update ..).extBut.push _).push _))
end
def Kys (H:Hp) (kvs:List (List Key×V)) (as:List Addr):Prop:=Paired (fun (p:List Key×V) (a:Addr)=>H a=some (.tup (p.1.map kV))) kvs as
section
variable {X:Cx} {pins:List (Addr×Obj)} {σ:L2.St} {H:Hp} {s:Shared} {d:Addr} {kvs:List (List Key×V)}
theorem kt_keys:∀ {kvs:List (List Key×V)} {xs:List (List Key×Addr×Value)},KT H kvs xs→Kys H kvs (xs.map (·.2.1))
  | _,_,.nil=>.nil
  | _,_,.cons r t=>.cons r.2.1 (kt_keys t)
theorem dt_raw (I:Inv X pins σ H s) (e:Rd H d (.dT kvs)):kvs.length≤sizeLine∧(d == sysModules)=false∧∃ (es:Array DictEntry) (ep:Nat) (as:List Addr),RawD s.heap d es ep∧es.size=kvs.length∧Kys H kvs as∧∀ j (h:j < es.size),∃ a,as[j]?=some a∧es[j].key=.ref a:=by
  obtain ⟨z,lo,xs,rel,o,es,ep,g1,g2,g3,g4,g5⟩:=(show ObjOk X.prog X.w H s.heap d (.dT kvs) from e.ok I.hok)
  have hl:es.size=xs.length:=by
    have:=congrArg List.length g4
    simpa using this
  refine ⟨z,lo,es,ep,xs.map (·.2.1),⟨o,g1,g2,g3⟩,by rw [hl]; exact (Paired.length rel).symm,kt_keys rel,fun j h=>?_⟩
  have hj:j < xs.length:=by omega
  have e1:es.toList[j]?=some es[j]:=by simp [h]
  rw [g4,List.getElem?_map] at e1
  have e2:xs[j]?=some xs[j]:=by simp [hj]
  rw [e2] at e1
  refine ⟨xs[j].2.1,by rw [List.getElem?_map,e2]; rfl,?_⟩
  have e3:entryOfKey (tupleKind (mixKind X.prog X.w)) xs[j]=es[j]:=Option.some.inj e1
  rw [← e3]; rfl
end
section
variable {X:Cx} {pins:List (Addr×Obj)} {σ:L2.St} {H:Hp} {s:Shared} {d:Addr}
theorem inv_retold {u:HO} (I:Inv X pins σ H s) (hd:∃ o,H d=some o) (nt:∀ xs,H d≠some (.tup xs)) (no:∀ y,H d≠some (.own y)) (nf:∀ o v,X.H₀ d≠some (.frz o v)) (ntb:∀ ps,H d≠some (.tbl ps))
    (new:ObjOk X.prog X.w (upd H d u) s.heap d u):Inv X pins σ (upd H d u) s:=by
  obtain ⟨o,hd⟩:=hd
  have fr:∀ b,H b=none→(upd H d u) b=none:=fun b n=>by
    rw [upd_ne fun z=>by rw [z,hd] at n; cases n]; exact n
  refine ⟨I.ok,I.os,I.bare,⟨I.base.keep,I.base.slot,fun b ob e n hx=>fr b (I.base.free b ob e n hx),I.base.there,fun b xs e=>?_,fun b ob v e=>?_,fun b ps e=>?_⟩,I.loc,I.cell,fr _ I.free,fun y c e=>fr _ (I.freeC y c e),fun p hp=>?_,fun b v e=>?_,I.len⟩
  · have:=I.base.tups b xs e
    rw [upd_ne fun z=>nt xs (by rw [← z]; exact this)]; exact this
  · have:=I.base.frzs b ob v e
    rw [upd_ne fun z=>nf ob v (by rw [← z]; exact e)]; exact this
  · obtain ⟨more,q⟩:=I.base.tbls b ps e
    exact ⟨more,by rw [upd_ne fun z=>ntb _ (by rw [← z]; exact q)]; exact q⟩
  · obtain ⟨a1,a2,a3⟩:=I.pin p hp
    exact ⟨a1,fr _ a2,a3⟩
  · by_cases hb:b=d
    · subst hb
      rw [upd_same] at e
      cases e
      exact new
    · rw [upd_ne hb] at e
      refine (I.hok b v e).stay (fun c w' _ q=>q) (fun c q=>?_) fun c xs q=>?_
      · rw [upd_ne fun z=>no _ (by rw [← z]; exact q)]; exact q
      · rw [upd_ne fun z=>nt _ (by rw [← z]; exact q)]; exact q
theorem inv_freeze {kvs:List (List Key×V)} (I:Inv X pins σ H s) (e:H d=some (.dT kvs)):∃ o,s.heap.get? d=some o∧Inv X pins σ (upd H d (.frz o (.dT kvs))) s:=by
  have ok:=I.hok d _ e
  obtain ⟨_,_,xs,_,o,es,ep,g,_⟩:=id ok
  refine ⟨o,g,inv_retold I ⟨_,e⟩ (fun xs z=>by rw [e] at z; cases z) (fun y z=>by rw [e] at z; cases z) (fun ob v z=>by have:=I.base.frzs d ob v z; rw [e] at this; cases this) (fun ps z=>by rw [e] at z; cases z) ⟨g,?_⟩⟩
  refine ok.stay (fun c w' _ q=>q) (fun c q=>?_) fun c xs q=>?_
  · rw [upd_ne fun z=>by rw [z,e] at q; cases q]; exact q
  · rw [upd_ne fun z=>by rw [z,e] at q; cases q]; exact q
theorem inv_thaw {o:Obj} {u:HO} (I:Inv X pins σ H s) (e:H d=some (.frz o u)) (nf:∀ o v,X.H₀ d≠some (.frz o v)):Inv X pins σ (upd H d u) s:=by
  obtain ⟨g,ok⟩:=(show ObjOk X.prog X.w H s.heap d (.frz o u) from I.hok d _ e)
  refine inv_retold I ⟨_,e⟩ (fun xs z=>by rw [e] at z; cases z) (fun y z=>by rw [e] at z; cases z) nf (fun ps z=>by rw [e] at z; cases z) ?_
  refine ok.stay (fun c w' _ q=>q) (fun c q=>?_) fun c xs q=>?_
  · rw [upd_ne fun z=>by rw [z,e] at q; cases q]; exact q
  · rw [upd_ne fun z=>by rw [z,e] at q; cases q]; exact q
def Thaw (H₀ H H':Hp):Prop:=∃ d o u,H d=some (.frz o u)∧(∀ o v,H₀ d≠some (.frz o v))∧H'=upd H d u
theorem PE.thaw {e:Expr} {t:TE} (h:PE X e t):PE X e (fun σ H Q=>t σ H fun v H1=>∃ H2,Thaw X.H₀ H1 H2∧Q v H2):=fun pins s σ H Q I hw =>
  thn (h pins s σ H _ I hw) fun u s' ⟨v,H1,I1,r,H2,⟨d,o,w',e1,e2,e3⟩,q⟩=>⟨v,H2,by rw [e3]; exact inv_thaw I1 e1 e2,r,q⟩
theorem PSs.thaw {sts:List Stmt} {t:TS} (h:PSs X sts t):PSs X sts (fun D σ H=>∃ H2,Thaw X.H₀ H H2∧t D σ H2):=fun pins s σ H D I ⟨H2,⟨d,o,w',e1,e2,e3⟩,q⟩=>by
  subst e3
  exact h pins s σ _ D (inv_thaw I e1 e2) q
end
def ItD (d:Addr) (kvs:List (List Key×V)) (o:Obj):It :=
  ⟨fun i H=>H d=some (.frz o (.dT kvs))∧i < kvs.length,fun i H x H'=>H'=H∧∃ a k v,x=.ref a∧kvs[i]?=some (k,v)∧H a=some (.tup (k.map kV)),fun i H=>H d=some (.frz o (.dT kvs))∧kvs.length≤i⟩
theorem turn_dict {P:Program} {w:World} {K:PySem.W.Frag} {tg:Expr} (d it:Addr) (kvs:List (List Key×V)) (o:Obj) (es:Array DictEntry) (ep:Nat) (ho:o.ExactDict) (hd:o.data=.dict es ep) (hz:es.size=kvs.length):Turn P w K tg (ItD d kvs o) [it] it (fun i h=>h.IsKeyIter it d i es.size ep) where
  mem:=by simp
  obj:=fun i h st b hb=>by
    have e:b=it:=by simpa using hb
    subst e
    obtain ⟨oi,e,c,q⟩:=st
    exact ⟨oi,e,fun v z=>by rw [q] at z; cases z⟩
  keep:=fun i h h' ⟨oi,e,r⟩ k=>⟨oi,k it (by simp) oi e,r⟩
  item:=by
    intro X hP hw hK hc i pins s σ H E I hf st ⟨hg,hi⟩
    subst hP hw hK
    obtain ⟨f0,f1,f2,f3,f4,f5⟩:=hf it (by simp)
    have g:s.heap.get? d=some o:=(show ObjOk X.prog X.w H s.heap d (.frz o (.dT kvs)) from I.hok d _ hg).1
    obtain ⟨_,_,es',ep',as,⟨o',g',q1,q2⟩,z',ks,at_⟩:=dt_raw I (.inr ⟨o,hg⟩)
    rw [g] at g'; cases g'
    rw [hd] at q2
    injection q2 with q2 q3
    subst q2; subst q3
    have lt:i < es.size:=by omega
    obtain ⟨a,ha,hk⟩:=at_ i lt
    have hx:kvs[i]?=some kvs[i]:=by simp [hi]
    refine raw_next st ⟨o,g,ho,hd⟩ (e:=es[i]) (by simp [lt]) fun h' st' sb=>?_
    have I1:Inv X pins σ H { s with heap:=h' }:=I.turned (t':=s.toks) (fun b ob hb e=>(sb.2 b hb).trans e) f0 f1 f3 f4 f5
    obtain ⟨oi,e,c,q⟩:=id st'
    refine ⟨_,rfl,go_of (s:={ s with heap:=h' }) e c q (by decide) ⟨.ref a,H,I1,hk,⟨rfl,a,kvs[i].1,kvs[i].2,rfl,hx,paired_get ks i kvs[i] a hx ha⟩,st',fun b hb=>(hf b hb).1⟩⟩
  done:=by
    intro X hP hw hK hc i pins s σ H E I hf st ⟨hg,hi⟩
    subst hP hw hK
    obtain ⟨f0,f1,f2,f3,f4,f5⟩:=hf it (by simp)
    have g:s.heap.get? d=some o:=(show ObjOk X.prog X.w H s.heap d (.frz o (.dT kvs)) from I.hok d _ hg).1
    exact raw_end (I.ok.hd hc) st ⟨o,g,ho,hd⟩ (by omega) fun h' eb=>⟨rfl,I.turned (t':=s.toks) (fun b ob hb e=>eb b ob hb e) f0 f1 f3 f4 f5⟩
  self:=fun _ _ _ _ _ st h=>wpAny_pyIter_keyiter st h
section
variable {X:Cx} {tg:Expr}
def iDict (td:TE):TI:=fun σ H R=>td σ H fun x H1=>∃ d kvs,x=.ref d∧H1 d=some (.dT kvs)∧∀ o,R (ItD d kvs o) (upd H1 d (.frz o (.dT kvs)))
theorem pi_dict {l:Expr} {td:TE} (hl:PE X l td):PI X tg l (iDict td):=by
  intro pins s σ H R I h
  refine thn (hl pins s σ H _ I h) fun v s1 ⟨x,H1,I1,r1,d,kvs,ex,hd,hR⟩=>?_
  subst ex
  cases r1
  obtain ⟨o,g,I2⟩:=inv_freeze I1 hd
  obtain ⟨_,lo,es,ep,as,⟨o',g',q1,q2⟩,z,ks,at_⟩:=dt_raw I1 (.inl hd)
  rw [g] at g'; cases g'
  refine raw_iter lo ⟨o,g,q1,q2⟩ ?_
  have fresh:=I2.hok.fresh (Nat.le_refl _)
  have I3:Inv X pins σ (upd H1 d (.frz o (.dT kvs))) { s1 with heap:=s1.heap.push { cls:=.type "dict_keyiterator",data:=.fields #[.ref d,.int 0 0,.int es.size 0,.int ep 0] } }:=I2.kept (t':=s1.toks) fun b ob e=>Heap.get?_push_of_some _ e
  refine ⟨s1.heap.objs.size,[s1.heap.objs.size],_,ItD d kvs o,_,rfl,I3,turn_dict d _ kvs o es ep q1 q2 z,⟨_,Heap.get?_push_size _ rfl,rfl,rfl⟩,fun b hb=>?_,hR o⟩
  have e:b=s1.heap.objs.size:=by simpa using hb
  subst e
  exact I2.fpOk (Nat.le_refl _) fresh
end
end FX
namespace FhS
open PySem PyProof.Rows PySem.W
def Asks (cmp:Nat→Nat→(Bool→Shared→Prop)→Shared→Prop) (lt:Nat→Nat→Bool) (n:Nat) (s:Shared):Prop :=
  ∀ i j,i < n→j < n→∀ C:Bool→Shared→Prop,C (lt i j) s→cmp i j C s
structure Ordr (lt:Nat→Nat→Bool) (n:Nat):Prop where
  tr:∀ i j k,i < n→j < n→k < n→lt i j=true→lt j k=true→lt i k=true
  tot:∀ i j,i < n→j < n→i≠j→lt i j=false→lt j i=true
structure Pm (p:Array Nat) (n:Nat):Prop where
  pm:p.toList.Perm (List.range n)
theorem Pm.size {p:Array Nat} {n:Nat} (h:Pm p n):p.size=n:=by
  have:=h.pm.length_eq
  simpa using this
theorem Pm.lt {p:Array Nat} {n i:Nat} (h:Pm p n) (hi:i < n):p.getD i 0 < n:=by
  have hs:=h.size
  have hi':i < p.size:=by lia
  have e:p.getD i 0=p[i]:=by simp [Array.getD,hi']
  rw [e]
  have:p[i]∈List.range n:=h.pm.mem_iff.mp (by simp)
  exact List.mem_range.mp this
theorem Pm.inj {p:Array Nat} {n i j:Nat} (h:Pm p n) (hi:i < n) (hj:j < n) (e:p.getD i 0=p.getD j 0):i=j:=by
  have hs:=h.size
  have hi':i < p.size:=by lia
  have hj':j < p.size:=by lia
  have nd:p.toList.Nodup:=h.pm.nodup_iff.mpr List.nodup_range
  have e1:p.getD i 0=p[i]:=by simp [Array.getD,hi']
  have e2:p.getD j 0=p[j]:=by simp [Array.getD,hj']
  rw [e1,e2] at e
  have:=(List.getElem_inj (xs:=p.toList) (i:=i) (j:=j) (h₀:=by simpa using hi') (h₁:=by simpa using hj') nd).mp (by simpa using e)
  exact this
theorem Pm.of_perm {p q:Array Nat} {n:Nat} (h:Pm p n) (hq:q.Perm p):Pm q n:=⟨(Array.perm_iff_toList_perm.mp hq).trans h.pm⟩
theorem pm_range (n:Nat):Pm (List.toArray (List.range n)) n:=⟨by simp⟩
def Up (lt:Nat→Nat→Bool) (p:Array Nat) (m:Nat):Prop:=∀ i j,i < j→j < m→lt (p.getD i 0) (p.getD j 0)=true
def Dn (lt:Nat→Nat→Bool) (p:Array Nat) (m:Nat):Prop:=∀ i j,i < j→j < m→lt (p.getD j 0) (p.getD i 0)=true
section
variable {lt:Nat→Nat→Bool} {n:Nat} (O:Ordr lt n)
include O
theorem other {p:Array Nat} (h:Pm p n) {i j:Nat} (hi:i < n) (hj:j < n) (hij:i≠j) (e:lt (p.getD i 0) (p.getD j 0)=false):lt (p.getD j 0) (p.getD i 0)=true :=
  O.tot _ _ (h.lt hi) (h.lt hj) (fun z=>hij (h.inj hi hj z)) e
theorem Up.snoc {p:Array Nat} (h:Pm p n) {a:Nat} (h1:1≤a) (ha:a < n) (u:Up lt p a) (e:lt (p.getD (a - 1) 0) (p.getD a 0)=true):Up lt p (a + 1):=by
  intro i j hij hj
  by_cases hja:j=a
  · subst hja
    by_cases hi:i=j - 1
    · rw [hi]; exact e
    · exact O.tr _ _ _ (h.lt (by lia)) (h.lt (by lia)) (h.lt ha) (u i (j - 1) (by lia) (by lia)) e
  · exact u i j hij (by lia)
theorem Dn.snoc {p:Array Nat} (h:Pm p n) {a:Nat} (h1:1≤a) (ha:a < n) (u:Dn lt p a) (e:lt (p.getD a 0) (p.getD (a - 1) 0)=true):Dn lt p (a + 1):=by
  intro i j hij hj
  by_cases hja:j=a
  · subst hja
    by_cases hi:i=j - 1
    · rw [hi]; exact e
    · exact O.tr _ _ _ (h.lt ha) (h.lt (by lia)) (h.lt (by lia)) e (u i (j - 1) (by lia) (by lia))
  · exact u i j hij (by lia)
theorem asc_wp {cmp:Nat→Nat→(Bool→Shared→Prop)→Shared→Prop} {s:Shared} (K:Asks cmp lt n s) {p:Array Nat} (h:Pm p n):∀ (f a:Nat) (G:Nat→Shared→Prop),1≤a→a + f≤n→Up lt p a →
    (∀ m,a≤m→m≤a + f→Up lt p m→(m=a + f∨lt (p.getD m 0) (p.getD (m - 1) 0)=true)→G m s)→(kas_asc p f a).kasWp cmp G s
  | 0,a,G,_,_,u,k=>k a (Nat.le_refl _) (Nat.le_refl _) u (.inl rfl)
  | f + 1,a,G,h1,hn,u,k=>by
    unfold kas_asc
    refine K _ _ (h.lt (by lia)) (h.lt (by lia)) _ ?_
    cases e:lt (p.getD a 0) (p.getD (a - 1) 0) with
    | true =>
      simp only [if_true]
      exact k a (Nat.le_refl _) (by lia) u (.inr e)
    | false =>
      simp only [Bool.false_eq_true,if_false]
      exact asc_wp K h f (a + 1) G (by lia) (by lia) (Up.snoc O h h1 (by lia) u (other O h (by lia) (by lia) (by lia) e)) fun m a1 a2 a3 a4=>k m (by lia) (by lia) a3 (a4.imp (fun z=>by lia) fun z=>z)
theorem desc_wp {cmp:Nat→Nat→(Bool→Shared→Prop)→Shared→Prop} {s:Shared} (K:Asks cmp lt n s) {p:Array Nat} (h:Pm p n):∀ (f a:Nat) (G:Array Nat×Nat×Nat→Shared→Prop),1≤a→a + f≤n→Dn lt p a →
    (∀ m,a≤m→m≤a + f→Dn lt p m→G (p,m,0) s)→(kas_desc f p a 0).kasWp cmp G s
  | 0,a,G,_,_,u,k=>k a (Nat.le_refl _) (Nat.le_refl _) u
  | f + 1,a,G,h1,hn,u,k=>by
    unfold kas_desc
    refine K _ _ (h.lt (by lia)) (h.lt (by lia)) _ ?_
    cases e:lt (p.getD a 0) (p.getD (a - 1) 0) with
    | true =>
      simp only [if_true,Nat.lt_irrefl,gt_iff_lt,if_false]
      exact desc_wp K h f (a + 1) G (by lia) (by lia) (Dn.snoc O h h1 (by lia) u e) fun m a1 a2 a3=>k m (by lia) (by lia) a3
    | false =>
      simp only [Bool.false_eq_true,if_false]
      refine K _ _ (h.lt (by lia)) (h.lt (by lia)) _ ?_
      simp only [other O h (by lia) (by lia) (by lia) e,if_true]
      exact k a (Nat.le_refl _) (by lia) u
omit O in
theorem getD_of {p q:Array Nat} {i j:Nat} (e:p[i]?=q[j]?):p.getD i 0=q.getD j 0:=by
  rw [Array.getD_eq_getD_getElem?,Array.getD_eq_getD_getElem?,e]
omit O in
theorem rev_up {p:Array Nat} {m:Nat} (hm:m≤p.size) (d:Dn lt p m):Up lt (kas_rev p 0 m) m:=by
  intro i j hij hj
  have g:∀ k,k < m→(kas_rev p 0 m).getD k 0=p.getD (m - 1 - k) 0:=fun k hk=>by
    refine getD_of ?_
    unfold kas_rev
    rw [getElem?_mirror_all hm,if_pos ⟨Nat.zero_le _,hk⟩]
    congr 1; lia
  rw [g i (by lia),g j hj]
  exact d _ _ (by lia) (by lia)
theorem count_wp {cmp:Nat→Nat→(Bool→Shared→Prop)→Shared→Prop} {s:Shared} (K:Asks cmp lt n s) (hn:1≤n) {p:Array Nat} (h:Pm p n) (G:Nat×Array Nat→Shared→Prop)
    (k:∀ m q,1≤m→m≤n→Pm q n→Up lt q m→G (m,q) s):(kas_count n p).kasWp cmp G s:=by
  unfold kas_count
  rw [KasT.kasWp_bind]
  have up1:Up lt p 1:=fun i j h1 h2=>by lia
  refine asc_wp O K h (n - 1) 1 _ (Nat.le_refl _) (by lia) up1 fun a a1 a2 a3 a4=>?_
  by_cases ha:(a == n)=true
  · rw [if_pos ha]
    exact k a p a1 (by lia) h a3
  · rw [if_neg ha]
    have ha':a≠n:=by simpa using ha
    by_cases h1:a > 1
    · rw [if_pos h1]
      refine K _ _ (h.lt (by lia)) (h.lt (by lia)) _ ?_
      simp only [a3 0 (a - 1) (by lia) (by lia),if_true]
      exact k a p a1 (by lia) h a3
    · rw [if_neg h1]
      have e1:a=1:=by lia
      subst e1
      unfold kas_descPart
      rw [KasT.kasWp_bind]
      have e2:lt (p.getD 1 0) (p.getD 0 0)=true:=a4.elim (fun z=>by lia) fun z=>z
      have d2:Dn lt p (1 + 1):=by
        intro i j hij hj
        have e3:i=0:=by lia
        have e4:j=1:=by lia
        rw [e3,e4]; exact e2
      refine desc_wp O K h (n - (1 + 1)) (1 + 1) _ (by lia) (by lia) d2 fun m q2 q3 q4=>?_
      simp only [gt_iff_lt,Nat.lt_irrefl,if_false]
      unfold kas_tail3
      rw [KasT.kasWp_bind]
      have hr:Pm (kas_rev p 0 m) n:=h.of_perm (mirror_perm _ _ _ _)
      refine asc_wp O K hr (n - m) m _ (by lia) (by lia) (rev_up (by rw [h.size]; lia) q4) fun b b1 b2 b3 _=>?_
      exact k b _ (by lia) (by lia) hr b3
theorem place_wp {cmp:Nat→Nat→(Bool→Shared→Prop)→Shared→Prop} {s:Shared} (K:Asks cmp lt n s) {p:Array Nat} (h:Pm p n) {k:Nat} (hk:k < n) (u:Up lt p k):∀ (f l r:Nat) (G:Nat→Shared→Prop),l≤r→r≤k→r - l≤f→(∀ i,i < l→lt (p.getD i 0) (p.getD k 0)=true)→(∀ i,r≤i→i < k→lt (p.getD k 0) (p.getD i 0)=true) →
    (∀ m,m≤k→(∀ i,i < m→lt (p.getD i 0) (p.getD k 0)=true)→(∀ i,m≤i→i < k→lt (p.getD k 0) (p.getD i 0)=true)→G m s)→(kas_place p k f l r).kasWp cmp G s
  | 0,l,r,G,h1,h2,h3,lo,hi,g=>g l (by lia) lo fun i a b=>hi i (by lia) b
  | f + 1,l,r,G,h1,h2,h3,lo,hi,g=>by
    unfold kas_place
    by_cases q:l ≥ r
    · rw [if_pos q]
      exact g l (by lia) lo fun i a b=>hi i (by lia) b
    · rw [if_neg q]
      refine K _ _ (h.lt hk) (h.lt (by lia)) _ ?_
      cases e:lt (p.getD k 0) (p.getD ((l + r) / 2) 0) with
      | true =>
        simp only [if_true]
        refine place_wp K h hk u f l ((l + r) / 2) G (by lia) (by lia) (by lia) lo (fun i a b=>?_) g
        by_cases z:i=(l + r) / 2
        · rw [z]; exact e
        · exact O.tr _ _ _ (h.lt hk) (h.lt (by lia)) (h.lt (by lia)) e (u _ _ (by lia) b)
      | false =>
        simp only [Bool.false_eq_true,if_false]
        have e':=other O h hk (by lia) (by lia) e
        refine place_wp K h hk u f ((l + r) / 2 + 1) r G (by lia) h2 (by lia) (fun i a=>?_) hi g
        by_cases z:i=(l + r) / 2
        · rw [z]; exact e'
        · exact O.tr _ _ _ (h.lt (by lia)) (h.lt (by lia)) (h.lt hk) (u _ _ (by lia) (by lia)) e'
omit O in
theorem bub_up {p:Array Nat} (h:Pm p n) {k l:Nat} (hk:k < n) (hl:l≤k) (u:Up lt p k) (lo:∀ i,i < l→lt (p.getD i 0) (p.getD k 0)=true) (hi:∀ i,l≤i→i < k→lt (p.getD k 0) (p.getD i 0)=true) :
    Up lt (bubble p k (k - l)) (k + 1):=by
  have g:∀ j,j < k + 1→(bubble p k (k - l)).getD j 0=if j=l then p.getD k 0 else if l < j then p.getD (j - 1) 0 else p.getD j 0:=fun j hj=>by
    have e:=getElem?_bubble (xs:=p) (src:=k) (by rw [h.size]; exact hk) (k - l) (by lia) j
    rw [show k - (k - l)=l by lia] at e
    by_cases c1:j=l
    · rw [if_pos c1] at e ⊢; exact getD_of e
    · rw [if_neg c1] at e ⊢
      by_cases c2:l < j
      · rw [if_pos ⟨c2,by lia⟩] at e; rw [if_pos c2]; exact getD_of e
      · rw [if_neg (by lia)] at e; rw [if_neg c2]; exact getD_of e
  intro i j hij hj
  rw [g i (by lia),g j hj]
  repeat' split
  all_goals first
    | (exfalso; lia)
    | exact lo _ (by lia)
    | exact hi _ (by lia) (by lia)
    | exact u _ _ (by lia) (by lia)
theorem bin_wp {cmp:Nat→Nat→(Bool→Shared→Prop)→Shared→Prop} {s:Shared} (K:Asks cmp lt n s):∀ (f:Nat) (p:Array Nat) (k:Nat) (G:Array Nat→Shared→Prop),Pm p n→k + f=n→Up lt p k→(∀ q,Pm q n→Up lt q n→G q s)→(kas_bin f p k).kasWp cmp G s
  | 0,p,k,G,h,hk,u,g=>by
    have e:k=n:=by lia
    subst e; exact g p h u
  | f + 1,p,k,G,h,hk,u,g=>by
    unfold kas_bin
    rw [KasT.kasWp_bind]
    exact place_wp O K h (k:=k) (by lia) u k 0 k _ (Nat.zero_le _) (Nat.le_refl _) (by lia) (fun i a=>by lia) (fun i a b=>by lia) fun m c1 c2 c3 =>
      bin_wp K f _ (k + 1) G (h.of_perm (bubble_perm _ _ _)) (by lia) (bub_up h (by lia) c1 u c2 c3) g
theorem sort_wp {cmp:Nat→Nat→(Bool→Shared→Prop)→Shared→Prop} {s:Shared} (K:Asks cmp lt n s) (hn:1≤n) (G:Array Nat→Shared→Prop) (g:∀ q,Pm q n→Up lt q n→G q s):(kas_sort n).kasWp cmp G s:=by
  unfold kas_sort
  rw [KasT.kasWp_bind]
  refine count_wp O K hn (pm_range n) _ fun m q h1 h2 h3 h4=>?_
  by_cases c:m < n
  · rw [if_pos c]
    have e2:max m 1=m:=by lia
    show (kas_bin (n - max m 1) q (max m 1)).kasWp cmp G s
    rw [e2]
    exact bin_wp O K _ q m G h3 (by lia) h4 g
  · rw [if_neg c]
    have e2:m=n:=by lia
    subst e2; exact g q h3 h4
end
end FhS
namespace FX
open PySem PySem.Spec PyProof.Rows L2
section
variable {prog:Program} {w:World} {A:Around} {E:Value→Shared→Prop} {s:Shared} {d:Addr} {es:Array DictEntry} {ep:Nat}
theorem raw_walks (hh:A.handled=none) (I d:Addr) (hne:d≠I) (es:Array DictEntry) (ep:Nat):Walks prog w A I [I,d] [I] es.size (fun i v=>∃ e,es[i]?=some e∧v=e.key) (fun i h=>h.IsKeyIter I d i es.size ep∧RawD h d es ep) where
  sub:=fun b hb=>by simp at hb; simp [hb]
  frame:=fun _ _ _ st hk=>⟨let ⟨o,e,r⟩:=st.1; ⟨o,hk I (by simp) o e,r⟩,st.2.at fun o e=>hk d (by simp) o e⟩
  item:=fun i s0 Q E0 hi st hQ=>raw_next st.1 st.2 (e:=es[i]) (by simp [hi]) fun h' it' sb =>
    hQ _ h' s0.toks ⟨es[i],by simp [hi],rfl⟩ ⟨it',st.2.at fun o e=>(sb.2 d hne).trans e⟩ fun b o hb e=>(sb.2 b fun z=>hb (by simp [z])).trans e
  done:=fun s0 Q E0 st hQ=>raw_end hh st.1 st.2 (Nat.le_refl _) fun h' eb=>hQ h' s0.toks fun b o hb e=>eb b o (fun z=>hb (by simp [z])) e
  self:=fun _ _ _ _ st hQ=>wpAny_pyIter_keyiter st.1 hQ
theorem raw_src (lo:(d == sysModules)=false):PySem.W.KdlSrc prog w "dict" d d es.size (fun i v=>∃ e,es[i]?=some e∧v=e.key) (fun h=>RawD h d es ep) where
  type:=fun _ ⟨o,e,x,_⟩=>⟨o,e,x.1⟩
  there:=fun _ ⟨o,e,_⟩=>⟨Heap.lt_size e,Heap.lt_size e⟩
  keep:=fun _ _ hm hk=>hm.at fun o e=>hk d (.inl rfl) o e
  notList:=by decide
  notTuple:=by decide
  hint:=fun _ _ _ _ ⟨o,e,x,_⟩ hq=>PySem.W.kdl_hint_dict ⟨o,e,x.1⟩ hq
  iter:=fun _ s0 hh hm=>⟨_,_,(fun _ _ hq=>raw_iter lo hm hq),raw_walks hh _ d (let ⟨o,e,_⟩:=hm; Nat.ne_of_lt (Heap.lt_size e)) es ep,⟨⟨_,Heap.get?_push_size _ rfl,rfl,rfl⟩,hm.at fun o e=>Heap.get?_push_of_some _ e⟩⟩
end
theorem refs_vals:∀ as:List Addr,Vals (as.map V.ref) (as.map Value.ref)
  | []=>.nil
  | _ :: as=>.cons rfl (refs_vals as)
theorem acc_refs {es:Array DictEntry} {acc:Array Value} {as:List Addr} (ha:ItemsOf (fun i v=>∃ e,es[i]?=some e∧v=e.key) acc es.size) (hla:as.length=es.size) (at_:∀ j (h:j < es.size),∃ a,as[j]?=some a∧es[j].key=.ref a):acc.toList=as.map Value.ref:=by
  refine List.ext_getElem? fun j=>?_
  by_cases hj:j < es.size
  · have h1:j < acc.size:=by rw [ha.1]; exact hj
    obtain ⟨e2,e3,e4⟩:=ha.2 j acc[j] (by simp [h1])
    obtain ⟨a,e5,e6⟩:=at_ j hj
    have e7:e2=es[j]:=by
      have:es[j]?=some es[j]:=by simp [hj]
      rw [this] at e3; exact (Option.some.inj e3).symm
    rw [List.getElem?_map,e5]
    have:acc.toList[j]?=some acc[j]:=by simp [h1]
    rw [this,e4,e7,e6]
    rfl
  · have h1:acc.toList.length≤j:=by rw [Array.length_toList,ha.1]; lia
    have h2:(as.map Value.ref).length≤j:=by rw [List.length_map]; lia
    rw [List.getElem?_eq_none h1,List.getElem?_eq_none h2]
section
variable {X:Cx}
theorem call_list_dict (hc:X.calm=true):CallR X (.type "list") (fun xs H Q=>∃ d kvs,xs=[.ref d]∧Rd H d (.dT kvs)∧∀ l as,H l=none→Kys H kvs as→Q (.ref l) (upd H l (.lst (as.map V.ref)))):=by
  intro pins s σ H xs us Q I r h
  obtain ⟨d,kvs,rfl,hd,q⟩:=h
  obtain ⟨u,rfl,rx⟩:=vals1 r
  cases rx
  obtain ⟨z,lo,es,ep,as,raw,hz,ks,at_⟩:=dt_raw I hd
  refine PySem.W.kdl_call (raw_src lo (es:=es) (ep:=ep)) (I.ok.hd hc) raw (by rw [hz]; exact z) fun h' tk acc c kp e ha=>?_
  have hn:H s.heap.objs.size=none:=I.hok.fresh (Nat.le_refl _)
  have hla:as.length=kvs.length:=(Paired.length ks).symm
  have e1:acc.toList=as.map Value.ref:=acc_refs ha (by lia) at_
  refine ⟨.ref s.heap.objs.size,_,I.laid (t':=tk) kp (Nat.le_refl _) (show ObjOk X.prog X.w _ h' _ (.lst (as.map V.ref)) from ⟨by rw [List.length_map]; lia,acc.toList,c,?_,by simpa using e⟩),rfl,q _ as hn ks⟩
  rw [e1]
  exact refs_vals as
end
theorem lex_irr:∀ xs:List Int,HT.lexLt xs xs=false
  | []=>rfl
  | x :: xs=>by rw [HT.lexLt_cons,if_pos rfl]; exact lex_irr xs
theorem lex_tr:∀ {xs ys zs:List Int},HT.lexLt xs ys=true→HT.lexLt ys zs=true→HT.lexLt xs zs=true
  | [],[],_,h,_=>by cases h
  | [],_ :: _,[],_,h=>by cases h
  | [],_ :: _,_ :: _,_,_=>rfl
  | _ :: _,[],_,h,_=>by cases h
  | _ :: _,_ :: _,[],_,h=>by cases h
  | x :: xs,y :: ys,z :: zs,h1,h2=>by
    rw [HT.lexLt_cons] at h1 h2 ⊢
    by_cases e1:x=y
    · rw [if_pos e1] at h1
      by_cases e2:y=z
      · rw [if_pos e2] at h2
        rw [if_pos (e1.trans e2)]; exact lex_tr h1 h2
      · rw [if_neg e2] at h2
        rw [if_neg (by rw [e1]; exact e2),e1]; exact h2
    · rw [if_neg e1] at h1
      have h1:=of_decide_eq_true h1
      by_cases e2:y=z
      · rw [if_neg (by rw [← e2]; exact e1),← e2]; exact decide_eq_true h1
      · rw [if_neg e2] at h2
        have h2:=of_decide_eq_true h2
        rw [if_neg (by lia)]; exact decide_eq_true (by lia)
theorem lex_tot:∀ {xs ys:List Int},xs≠ys→HT.lexLt xs ys=false→HT.lexLt ys xs=true
  | [],[],h,_=>absurd rfl h
  | [],_ :: _,_,h=>by cases h
  | _ :: _,[],_,_=>rfl
  | x :: xs,y :: ys,hne,h=>by
    rw [HT.lexLt_cons] at h ⊢
    by_cases e:x=y
    · rw [if_pos e] at h
      rw [if_pos e.symm]
      exact lex_tot (fun z=>hne (by rw [e,z])) h
    · rw [if_neg e] at h
      have h:=of_decide_eq_false h
      rw [if_neg (Ne.symm e)]; exact decide_eq_true (by lia)
theorem sorted_one {α:Type} {lt:α→α→Prop} (irr:∀ a,¬ lt a a) (asym:∀ a b,lt a b→¬ lt b a):∀ {l₁ l₂:List α},l₁.Perm l₂→l₁.Pairwise lt→l₂.Pairwise lt→l₁=l₂
  | [],l₂,p,_,_=>(List.Perm.nil_eq p)
  | a :: l₁,[],p,_,_=>by have:=p.length_eq; simp at this
  | a :: l₁,b :: l₂,p,h1,h2=>by
    have h1':=List.pairwise_cons.mp h1
    have h2':=List.pairwise_cons.mp h2
    have e:a=b:=by
      have ha:a∈b :: l₂:=p.mem_iff.mp (List.mem_cons_self ..)
      have hb:b∈a :: l₁:=p.mem_iff.mpr (List.mem_cons_self ..)
      rcases List.mem_cons.mp ha with e | ha
      · exact e
      · rcases List.mem_cons.mp hb with e | hb
        · exact e.symm
        · exact absurd (h2'.1 a ha) (asym _ _ (h1'.1 b hb))
    subst e
    rw [sorted_one irr asym (List.Perm.cons_inv p) h1'.2 h2'.2]
section
variable {prog:Program} {w:World} {A:Around} {E:Value→Shared→Prop} {s:Shared}
theorem lsort_raw {a:Addr} {vs:List Value} {n:Nat} {lt:Nat→Nat→Bool} {P:PySem.Fin→Shared→Prop} (ho:s.heap.get? a=some (seqObj "list" vs.toArray n)) (h64:vs.length < 64) (O:FhS.Ordr lt vs.length)
    (K:2≤vs.length→∀ h',(∀ b o,b≠a→s.heap.get? b=some o→h'.get? b=some o)→∀ Q:SortKind→Shared→Prop,(∀ κ,FhS.Asks (PySem.W.kas_ask prog w A κ vs) lt vs.length { s with heap:=h' }→Q κ { s with heap:=h' })→wpAny (model prog w) A (keyKind' vs.toArray) Q E { s with heap:=h' })
    (h:∀ q:List Nat,q.Perm (List.range vs.length)→q.Pairwise (fun i j=>lt i j=true)→∀ h' c,(∀ b o,b≠a→s.heap.get? b=some o→h'.get? b=some o)→h'.get? a=some (seqObj "list" (q.map fun i=>vs.getD i .none).toArray c)→P (.done (.ret .none)) { s with heap:=h' }) :
    wpAny (model prog w) A (Builtin.«list.sort» ⟨[.ref a],[]⟩) P E s:=by
  rw [list_sort_plain]
  have al:a < s.heap.objs.size:=Heap.lt_size ho
  have small:∀ {k:Nat},k≤63→k≤sizeLine:=fun hk=>by rw [sizeLine_eq]; lia
  refine wpAny_bind (listItems_at ho rfl (wpAny_bind (listUpdate_at ho rfl ?_ (by rw [List.size_toArray]; exact small (by lia)) (Nat.zero_le _))))
  obtain ⟨e1,g1⟩:∃ e1,(s.heap.update a (Obj.mapSeq fun _=>(#[]:Array Value))).get? a=some (seqObj "list" #[] e1):=⟨_,get?_update_seq ho fun _=>#[]⟩
  refine wpAny_bind (seqEpoch_at g1 rfl (wpAny_bind (wpAny_newTuple (wpAny_bind (wpAny_newList (wpAny_holding ?_) (Nat.zero_le _))) (by show vs.length≤_; exact small (by lia)))))
  have g2:(((s.heap.update a (Obj.mapSeq fun _=>(#[]:Array Value))).push (seqObj "tuple" vs.toArray 0)).push (seqObj "list" #[] 0)).get? a=some (seqObj "list" #[] e1):=Heap.get?_push_of_some _ (Heap.get?_push_of_some _ g1)
  have kp:∀ b o,b≠a→s.heap.get? b=some o→(((s.heap.update a (Obj.mapSeq fun _=>(#[]:Array Value))).push (seqObj "tuple" vs.toArray 0)).push (seqObj "list" #[] 0)).get? b=some o:=fun b o hb e =>
    Heap.get?_push_of_some _ (Heap.get?_push_of_some _ ((Heap.get?_update_other _ _ (Ne.symm hb)).trans e))
  show wpAny (model prog w) A _ P E { s with heap:=((s.heap.update a (Obj.mapSeq fun _=>(#[]:Array Value))).push (seqObj "tuple" vs.toArray 0)).push (seqObj "list" #[] 0) }
  generalize ((s.heap.update a (Obj.mapSeq fun _=>(#[]:Array Value))).push (seqObj "tuple" vs.toArray 0)).push (seqObj "list" #[] 0)=hh at g2 kp
  dsimp only
  have fin:∀ (st:SortSt) (q:List Nat),(arrOf st).map (·.2)=(q.map fun i=>vs.getD i .none).toArray→failedOf st=none→q.Perm (List.range vs.length)→q.Pairwise (fun i j=>lt i j=true) →
      wpAny (model prog w) A (do
        let touched:=(← seqEpoch a) != e1
        Builtin.List.listUpdate (.ref a) fun _=>(arrOf st).map (·.2)
        if let some e:=failedOf st then rule "list.sort.comparison-raised"; throw e
        if touched then rule "list.sort.modified"; raiseError "ValueError" "list modified during sort"
        ret .none) P E { s with heap:=hh }:=fun st q ea ef qp qo=>by
    have hl:q.length=vs.length:=by rw [qp.length_eq,List.length_range]
    refine wpAny_bind (seqEpoch_at g2 rfl ?_)
    rw [ea]
    refine wpAny_bind (listUpdate_at g2 rfl ?_ (Nat.zero_le _) (by show (q.map fun i=>vs.getD i Value.none).toArray.size≤sizeLine + 1; rw [List.size_toArray,List.length_map,hl]; exact Nat.le_succ_of_le (small (by lia))))
    rw [ef]
    simp only [bne_self_eq_false,Bool.false_eq_true,if_false]
    refine wpAny_pure (h q qp qo _ _ (fun b o hb e=>(Heap.get?_update_other _ _ (Ne.symm hb)).trans (kp b o hb e)) (get?_update_seq g2 _))
  by_cases h2:vs.toArray.size < 2
  · rw [if_pos h2,if_pos h2]
    refine wpAny_bind (wpAny_pure ?_)
    rw [StateT.run_pure]
    refine wpAny_bind (wpAny_pure ?_)
    have h2':vs.length < 2:=by simpa using h2
    refine fin (SortSt.mk' general' (vs.toArray.zip vs.toArray) #[] 7 none) (List.range vs.length) ?_ rfl (List.Perm.refl _) ?_
    · show (vs.toArray.zip vs.toArray).map (·.2)=_
      match vs,h2' with
      | [],_=>simp
      | [v],_=>simp
    · match vs,h2' with
      | [],_=>exact List.Pairwise.nil
      | [v],_=>exact List.pairwise_singleton _ _
  · rw [if_neg h2,if_neg h2]
    have h2':2≤vs.length:=by simpa using h2
    refine wpAny_bind (K h2' hh kp _ fun κ ask=>?_)
    refine wpAny_bind (wpAny_mono (PySem.W.kat_run (E:=E) (vs:=vs) (ks:=vs) (κ:=κ) (s:={ s with heap:=hh }) (Q:=fun st' s'=>s'={ s with heap:=hh }∧∃ q:List Nat,(arrOf st').map (·.2)=(q.map fun i=>vs.getD i .none).toArray∧failedOf st'=none∧q.Perm (List.range vs.length)∧q.Pairwise (fun i j=>lt i j=true))
      (G:=fun p s'=>s'={ s with heap:=hh }∧FhS.Pm p vs.length∧FhS.Up lt p vs.length) rfl h2' h64 (fun p st' s' hp ha hf ⟨e,pm,up⟩=>?_) (FhS.sort_wp O ask (by lia) _ fun q pm up=>⟨rfl,pm,up⟩)) (fun r s' hr=>?_) fun _ _ e=>e)
    · refine ⟨e,p.toList,PySem.W.kat_snds rfl ha,hf,pm.pm,?_⟩
      rw [List.pairwise_iff_getElem]
      intro i j hi hj hij
      have hs:=pm.size
      have:=up i j hij (by rw [← hs]; simpa using hj)
      have gi:p.getD i 0=p.toList[i]:=by simp [Array.getD,show i < p.size by simpa using hi]
      have gj:p.getD j 0=p.toList[j]:=by simp [Array.getD,show j < p.size by simpa using hj]
      rw [gi,gj] at this
      exact this
    · obtain ⟨u,st'⟩:=r
      obtain ⟨e,q,q1,q2,q3,q4⟩:=hr
      dsimp only at e q1 q2 ⊢
      subst e
      exact fin st' q q1 q2 q3 q4
end
section
variable {prog:Program} {w:World} {A:Around} {E:Value→Shared→Prop}
theorem kat_ints {b fin:Bool} {Q:Bool→Shared→Prop}:∀ {us ws:List Value} {ns ms:List Int} (i:Nat) (s:Shared),IntsAre us ns→IntsAre ws ms→fin=decide (ns.length < ms.length)→Q (HT.lexLt ns ms) s→PySem.W.KatLex prog w A b fin Q (us.zip ws) i s
  | _,_,_,_,i,s,.nil,.nil,hf,h=>by
    rw [List.zip_nil_left]
    refine PySem.W.kat_nil ?_
    rw [hf]; exact h
  | _,_,_,_,i,s,.nil,.cons (ns:=ms) m t r,hf,h=>by
    rw [List.zip_nil_left]
    refine PySem.W.kat_nil ?_
    rw [hf]
    have:decide (([]:List Int).length < (m :: ms).length)=true:=by simp
    rw [this]; exact h
  | _,_,_,_,i,s,.cons (ns:=ns) n t r,.nil,hf,h=>by
    rw [List.zip_nil_right]
    refine PySem.W.kat_nil ?_
    rw [hf]
    have:decide ((n :: ns).length < ([]:List Int).length)=false:=by simp
    rw [this]; exact h
  | _,_,_,_,i,s,.cons (ns:=ns) n t r,.cons (ns:=ms) m u q,hf,h=>by
    rw [List.zip_cons_cons]
    refine PySem.W.kat_cons (wpAny_eqBool_int (PySem.W.kat_go (fun e=>PySem.W.kat_yes ?_) fun e=>PySem.W.kat_no ?_))
    · have e:n=m:=by simpa using e
      rw [HT.lexLt_cons,if_pos e] at h
      exact kat_ints (i + 1) s r q (by rw [hf]; simp) h
    · have e:n≠m:=by simpa using e
      rw [HT.lexLt_cons,if_neg e] at h
      cases hb:(b && i == 0) with
      | true=>exact oneLt_int h
      | false=>exact PySem.W.kat_one _ _ (lt_int h)
def TupsAt (h:Heap):List Addr→List (List Int)→Prop:=Paired fun a ns=>ns≠[]∧∃ its,IsTup h a its∧IntsAre its.toList ns
theorem tups_firsts {h:Heap}:∀ {as:List Addr} {nss:List (List Int)},TupsAt h as nss→∃ fs:List Value,PySem.W.KatTups h (as.map Value.ref) fs∧fs.length=as.length∧∀ v∈fs,∃ n t,v=Value.int n t
  | _,_,.nil=>⟨[],trivial,rfl,fun v hv=>by simp at hv⟩
  | _,_,.cons (a:=a) (b:=ns) r t=>by
    obtain ⟨fs,a1,a2,a3⟩:=tups_firsts t
    obtain ⟨hne,its,⟨o,ho,hc,n,hd⟩,hi⟩:=r
    cases hL:its.toList with
    | nil=>rw [hL] at hi; cases hi; exact absurd rfl hne
    | cons f fr =>
      rw [hL] at hi
      cases hi with
      | cons n0 t0 hr =>
        refine ⟨Value.int n0 t0 :: fs,PySem.W.KatTups.cons ho hc hd ?_ a1,by simp [a2],fun v hv=>?_⟩
        · have:its[0]?=its.toList[0]?:=by simp
          rw [this,hL]; rfl
        · rcases List.mem_cons.mp hv with rfl | hv
          · exact ⟨_,_,rfl⟩
          · exact a3 v hv
theorem TupsAt.keep {h h':Heap} (k:∀ b o,h.get? b=some o→(∃ ts n,o.data=.seq ts n∧o.cls=.type "tuple")→h'.get? b=some o) {as:List Addr} {nss:List (List Int)} (t:TupsAt h as nss):TupsAt h' as nss :=
  paired_mono (fun a ns ⟨h1,its,⟨o,ho,hc,n,hd⟩,hi⟩=>⟨h1,its,⟨o,k a o ho ⟨_,_,hd,hc⟩,hc,n,hd⟩,hi⟩) t
theorem tups_asks {s:Shared} {κ:SortKind} (hκ:∃ b,κ=tuples' b) {as:List Addr} {nss:List (List Int)} (t:TupsAt s.heap as nss) :
    FhS.Asks (PySem.W.kas_ask prog w A κ (as.map Value.ref)) (fun i j=>HT.lexLt (nss.getD i []) (nss.getD j [])) (as.map Value.ref).length s:=by
  obtain ⟨b,rfl⟩:=hκ
  intro i j hi hj C hC
  rw [List.length_map] at hi hj
  have get:∀ k,k < as.length→∃ a ns its,(as.map Value.ref).getD k .none=.ref a∧nss.getD k []=ns∧IsTup s.heap a its∧IntsAre its.toList ns:=fun k hk=>by
    have hl:=Paired.length t
    have h1:as[k]?=some as[k]:=by simp [hk]
    have h2:nss[k]?=some (nss[k]'(by lia)):=by simp [show k < nss.length by lia]
    obtain ⟨_,its,q1,q2⟩:=paired_get t k _ _ h1 h2
    exact ⟨as[k],_,its,by simp [hk],by simp [show k < nss.length by lia],q1,q2⟩
  obtain ⟨a,ns,its,e1,e2,⟨o,ho,hc,n,hd⟩,hi1⟩:=get i hi
  obtain ⟨a',ns',its',e1',e2',⟨o',ho',hc',n',hd'⟩,hi1'⟩:=get j hj
  unfold PySem.W.kas_ask
  rw [e1,e1']
  refine PySem.W.kat_lt ho hd ho' hd' (kat_ints 0 s hi1 hi1' ?_ (by dsimp only at hC; rw [e2,e2'] at hC; exact hC))
  have l1:=hi1.length
  have l2:=hi1'.length
  simp only [Array.length_toList] at l1 l2
  rw [l1,l2]
theorem lsort_tups {s:Shared} {a:Addr} {as:List Addr} {nss:List (List Int)} {n:Nat} {P:PySem.Fin→Shared→Prop} (ho:s.heap.get? a=some (seqObj "list" (as.map Value.ref).toArray n)) (h64:as.length < 64) (t:TupsAt s.heap as nss) (nd:nss.Nodup)
    (h:∀ q:List Nat,q.Perm (List.range as.length)→q.Pairwise (fun i j=>HT.lexLt (nss.getD i []) (nss.getD j [])=true)→∀ h' c,(∀ b o,b≠a→s.heap.get? b=some o→h'.get? b=some o)→h'.get? a=some (seqObj "list" (q.map fun i=>(as.map Value.ref).getD i .none).toArray c)→P (.done (.ret .none)) { s with heap:=h' }) :
    wpAny (model prog w) A (Builtin.«list.sort» ⟨[.ref a],[]⟩) P E s:=by
  have hl:=Paired.length t
  have hml:(as.map Value.ref).length=as.length:=List.length_map ..
  refine lsort_raw (lt:=fun i j=>HT.lexLt (nss.getD i []) (nss.getD j [])) ho (by rw [hml]; exact h64) ⟨fun i j k _ _ _=>lex_tr,fun i j hi hj hij e=>lex_tot (fun z=>hij ?_) e⟩ (fun h2 h' kp Q hQ=>?_) (by rw [hml]; exact h)
  · have hi':i < nss.length:=by lia
    have hj':j < nss.length:=by lia
    have e1:nss[i]=nss[j]:=by simpa [hi',hj'] using z
    exact (List.getElem_inj nd).mp e1
  · have t':TupsAt h' as nss:=t.keep fun b o e ⟨ts,k,q,qc⟩=>kp b o (fun z=>by rw [z,ho] at e; cases e; have qc:Value.type "list"=Value.type "tuple":=qc; injection qc with qc; exact absurd qc (by decide)) e
    obtain ⟨fs,f1,f2,f3⟩:=tups_firsts t'
    refine PySem.W.kat_kind (s:={ s with heap:=h' }) (T:=.type "int") f1 (by rw [f2]; rw [hml] at h2; lia) (fun v hv=>?_) rfl (hQ _ (tups_asks ⟨_,rfl⟩ t'))
    obtain ⟨m,tk,rfl⟩:=f3 v hv
    exact PySem.W.Looks.of_pure rfl
end
theorem refs_vals2 {α:Type} (g:α→V) (f:α→Addr) (h:∀ x,g x=V.ref (f x)):∀ as:List α,Vals (as.map g) ((as.map f).map Value.ref)
  | []=>.nil
  | a :: as=>.cons (by rw [h a]; exact rfl) (refs_vals2 g f h as)
section
variable {X:Cx}
theorem call_sorted_dict (hc:X.calm=true):CallR X (.builtin "sorted") (fun xs H Q=>∃ d,∃ L:List (List Int×V),xs=[.ref d]∧Rd H d (.dT (L.map fun p=>(p.1.map Sum.inl,p.2)))∧L.length < 64∧(L.map (·.1)).Nodup∧(∀ p∈L,p.1≠[]) ∧
    ∀ (l:Addr) (M:List (List Int×Addr)),H l=none→(M.map (·.1)).Perm (L.map (·.1))→M.Pairwise (fun p q=>HT.lexLt p.1 q.1=true)→(∀ p∈M,H p.2=some (.tup (p.1.map V.int)))→Q (.ref l) (upd H l (.lst (M.map fun p=>V.ref p.2)))):=by
  intro pins s σ H xs us Q I r h
  obtain ⟨d,L,rfl,hd,h64,nd,hne,q⟩:=h
  obtain ⟨u,rfl,rx⟩:=vals1 r
  cases rx
  obtain ⟨z,lo,es,ep,as,raw,hz,ks,at_⟩:=dt_raw I hd
  have hlL:(L.map fun p=>((p.1.map Sum.inl:List Key),p.2)).length=L.length:=List.length_map ..
  have hla:as.length=L.length:=by rw [← hlL]; exact (Paired.length ks).symm
  have key:∀ (j:Nat) (p:List Int×V),L[j]?=some p→∃ a,as[j]?=some a∧H a=some (.tup (p.1.map V.int)):=fun j p hp=>by
    have hj:j < L.length:=(List.getElem?_eq_some_iff.mp hp).1
    obtain ⟨a,ha⟩:=get_of_lt (xs:=as) (j:=j) (by lia)
    have:=paired_get ks j ((p.1.map Sum.inl:List Key),p.2) a (by rw [List.getElem?_map,hp]; rfl) ha
    refine ⟨a,ha,?_⟩
    rw [this,List.map_map]
    rfl
  have t0:TupsAt s.heap as (L.map (·.1)):=paired_of (by rw [List.length_map,hla]) fun j a ns e1 e2=>by
    rw [List.getElem?_map] at e2
    cases hp:L[j]? with
    | none=>rw [hp] at e2; cases e2
    | some p =>
      rw [hp] at e2
      have e3:p.1=ns:=Option.some.inj e2
      obtain ⟨a',h1,h2⟩:=key j p hp
      rw [e1] at h1; cases h1
      obtain ⟨its,rv,it,_⟩:=I.tuple (SqT.of (K:=X.K) h2)
      exact ⟨by rw [← e3]; exact hne p (List.mem_of_getElem? hp),its.toArray,it,by rw [← e3]; simpa using intsAre_of rv⟩
  refine Calls.call_function_entry kind_sorted plain_sorted entry_sorted (args_sorted1 _) (by
    unfold Builtin.«sorted»
    refine wpAny_bind (m:=checkCount "sorted" 1 1 _) (wpAny_pure (wpAny_bind (PySem.W.kdu_collect (raw_src lo (es:=es) (ep:=ep)) (show _ from I.ok.hd hc) raw (by rw [hz]; exact z) fun h1 tk acc kp ha=>?_)))
    have e1:acc.toList=as.map Value.ref:=acc_refs ha (by lia) at_
    rw [e1]
    have I1:Inv X pins σ H { s with heap:=h1,toks:=tk }:=I.kept kp
    refine wpAny_bind (wpAny_newList ?_ (by rw [List.length_map,sizeLine_eq]; lia))
    have g1:(h1.push (seqObj "list" (as.map Value.ref).toArray 0)).get? h1.objs.size=some (seqObj "list" (as.map Value.ref).toArray 0):=Heap.get?_push_size _ rfl
    have t1:TupsAt (h1.push (seqObj "list" (as.map Value.ref).toArray 0)) as (L.map (·.1)):=t0.keep fun b o e _=>Heap.get?_push_of_some _ (kp b o e)
    refine wpAny_bind (wpAny_holding (wpAny_call_entry slot_list_sort ⟨_,g1,rfl⟩ entry_list_sort (lsort_tups g1 (by lia) t1 nd fun p pp po h2 c kp2 e=>⟨_,rfl,?_⟩) (args_list_sort _)))
    have hn:H h1.objs.size=none:=I1.hok.fresh (Nat.le_refl _)
    have inr:∀ i∈p,i < as.length:=fun i hi=>List.mem_range.mp (pp.mem_iff.mp hi)
    have eM:(p.map fun i=>(as.map Value.ref).getD i .none)=(p.map fun i=>as.getD i 0).map Value.ref:=by
      rw [List.map_map]
      refine List.map_congr_left fun i hi=>?_
      have:=inr i hi
      simp [this]
    refine wpAny_pure ⟨_,rfl,.ref h1.objs.size,_,I1.laid (a:=h1.objs.size) (o:=.lst ((p.map fun i=>((L.map (·.1)).getD i [],as.getD i 0)).map fun q=>V.ref q.2)) (t':=tk) (fun b o hb=>kp2 b o (Nat.ne_of_lt (Heap.lt_size hb)) (Heap.get?_push_of_some _ hb)) (Nat.le_refl _) ⟨?_,(p.map fun i=>as.getD i 0).map Value.ref,c,?_,?_⟩,rfl,q _ _ hn ?_ ?_ ?_⟩
    · rw [List.length_map,List.length_map,pp.length_eq,List.length_range,sizeLine_eq]; lia
    · rw [List.map_map]
      exact refs_vals2 _ (fun i=>as.getD i 0) (fun _=>rfl) p
    · rw [← eM]; exact e
    · rw [List.map_map]
      have e2:(List.range as.length).map (fun i=>(L.map (·.1)).getD i [])=L.map (·.1):=by
        refine List.ext_getElem? fun j=>?_
        rw [List.getElem?_map]
        by_cases hj:j < L.length
        · have h3:(List.range as.length)[j]?=some j:=by simp [hla,hj]
          rw [h3]
          simp [hj]
        · have h3:(List.range as.length)[j]?=none:=by simp [hla]; lia
          rw [h3,List.getElem?_eq_none (by rw [List.length_map]; lia)]
          rfl
      have e7:=pp.map fun i=>(L.map (·.1)).getD i []
      rw [e2] at e7
      exact e7
    · rw [List.pairwise_map]
      exact po
    · intro r hr
      obtain ⟨i,hi,e3⟩:=List.mem_map.mp hr
      have hlt:=inr i hi
      obtain ⟨p0,hp0⟩:=get_of_lt (xs:=L) (j:=i) (by lia)
      obtain ⟨a,h3,h4⟩:=key i p0 hp0
      rw [← e3]
      have e5:as.getD i 0=a:=by rw [List.getD_eq_getElem?_getD,h3]; rfl
      have e6:(L.map (·.1)).getD i []=p0.1:=by rw [List.getD_eq_getElem?_getD,List.getElem?_map,hp0]; rfl
      show H (as.getD i 0)=some (.tup (((L.map (·.1)).getD i []).map V.int))
      rw [e5,e6]; exact h4)
end
end FX
namespace FhM
open PySem PyProof.Rows
def T (f:Nat→Keyed) (l:List Nat):Array Keyed:=(l.map f).toArray
section
variable {f:Nat→Keyed} {l o:List Nat}
theorem T_size:(T f l).size=l.length:=by simp [T]
theorem T_get {i:Nat} (h:i < l.length):(T f l)[i]?=some (f l[i]):=by simp [T,h]
theorem T_push {x:Nat}:(T f l).push (f x)=T f (l++[x]):=by simp [T]
theorem T_one {x:Nat}:(#[f x]:Array Keyed)=T f [x]:=by simp [T]
theorem T_app:T f o++T f l=T f (o++l):=by simp [T]
theorem T_cut {i j:Nat}:(T f l).extract i j=T f ((l.drop i).take (j - i)):=by
  unfold T; rw [List.extract_toArray,List.extract_eq_take_drop,List.map_take,List.map_drop]
theorem T_rev:(T f l).reverse=T f l.reverse:=by simp [T]
theorem T_list:(T f l).toList=l.map f:=by simp [T]
end
def Ord (lt:Nat→Nat→Bool) (l:List Nat):Prop:=l.Pairwise fun x y=>lt x y=true
structure Mg (lt:Nat→Nat→Bool) (S out la lb:List Nat):Prop where
  pm:(out++(la++lb)).Perm S
  so:Ord lt out
  sa:Ord lt la
  sb:Ord lt lb
  oa:∀ x∈out,∀ y∈la,lt x y=true
  ob:∀ x∈out,∀ y∈lb,lt x y=true
structure Fine (lt:Nat→Nat→Bool) (S r:List Nat):Prop where
  pm:r.Perm S
  so:Ord lt r
section
variable {lt:Nat→Nat→Bool} {S out la lb l1 l2:List Nat}
theorem Mg.flip (h:Mg lt S out la lb):Mg lt S out lb la:=⟨(List.Perm.append_left _ List.perm_append_comm).trans h.pm,h.so,h.sb,h.sa,h.ob,h.oa⟩
theorem Mg.stepA (h:Mg lt S out (l1++l2) lb) (q:∀ x∈l1,∀ y∈lb,lt x y=true):Mg lt S (out++l1) l2 lb:=by
  have sa:=List.pairwise_append.mp h.sa
  refine ⟨by simpa using h.pm,List.pairwise_append.mpr ⟨h.so,sa.1,fun x hx y hy=>h.oa x hx y (List.mem_append_left _ hy)⟩,sa.2.1,h.sb,fun x hx y hy=>?_,fun x hx y hy=>?_⟩
  · rcases List.mem_append.mp hx with hx | hx
    · exact h.oa x hx y (List.mem_append_right _ hy)
    · exact sa.2.2 x hx y hy
  · rcases List.mem_append.mp hx with hx | hx
    · exact h.ob x hx y hy
    · exact q x hx y hy
theorem Mg.finA (h:Mg lt S out la []):Fine lt S (out++la):=⟨by simpa using h.pm,List.pairwise_append.mpr ⟨h.so,h.sa,h.oa⟩⟩
theorem Mg.finB (h:Mg lt S out [] lb):Fine lt S (out++lb):=h.flip.finA
theorem Mg.finL {x:Nat} (h:Mg lt S out [x] lb) (q:∀ y∈lb,lt y x=true):Fine lt S (out++lb++[x]):=by
  refine ⟨?_,List.pairwise_append.mpr ⟨List.pairwise_append.mpr ⟨h.so,h.sb,h.ob⟩,List.pairwise_singleton _ _,fun a ha b hb=>?_⟩⟩
  · refine List.Perm.trans ?_ h.pm
    rw [List.append_assoc]
    exact List.Perm.append_left _ List.perm_append_comm
  · obtain rfl:=List.mem_singleton.mp hb
    rcases List.mem_append.mp ha with ha | ha
    · exact h.oa a ha b (List.mem_singleton.mpr rfl)
    · exact q a ha
end
abbrev ltP:Keyed→Keyed→StateT SortSt Sem (Option Bool):=sortPriv% PySem.Builtin.lt
abbrev elemP:Array Keyed→Nat→StateT SortSt Sem Keyed:=sortPriv% PySem.Builtin.elem
abbrev gallopP:Bool→Keyed→Array Keyed→Nat→Nat→Nat→StateT SortSt Sem (Option Nat):=sortPriv% PySem.Builtin.gallop
abbrev mergeLoP:Array Keyed→Array Keyed→StateT SortSt Sem (Array Keyed):=sortPriv% PySem.Builtin.mergeLo
abbrev mergeHiP:Array Keyed→Array Keyed→StateT SortSt Sem (Array Keyed):=sortPriv% PySem.Builtin.mergeHi
abbrev mergeAtP:Nat→StateT SortSt Sem Bool:=sortPriv% PySem.Builtin.mergeAt
structure Ans (prog:Program) (w:World) (A:Around) (s:Shared) (κ:SortKind) (f:Nat→Keyed) (lt:Nat→Nat→Bool) (n:Nat):Prop where
  ask:∀ i j,i < n→j < n→∀ C:Bool→Shared→Prop,C (lt i j) s→wpAny (model prog w) A (keyLt' κ (f i).1 (f j).1) C (fun _ _=>False) s
  tr:∀ i j k,i < n→j < n→k < n→lt i j=true→lt j k=true→lt i k=true
  tot:∀ i j,i < n→j < n→i≠j→lt i j=false→lt j i=true
  irr:∀ i,i < n→lt i i=false
section
variable {prog:Program} {w:World} {A:Around} {E:Value→Shared→Prop} {s:Shared} {κ:SortKind} {f:Nat→Keyed} {lt:Nat→Nat→Bool} {n:Nat}
theorem ask_wp (K:Ans prog w A s κ f lt n) {st:SortSt} {i j:Nat} {Q:Option Bool→SortSt→Prop} (hs:kindOf st=κ) (hi:i < n) (hj:j < n) (h:Q (some (lt i j)) st):wpS (model prog w) A E s (ltP (f i) (f j)) Q st:=by
  refine wpS_bind (wpS_get ?_)
  show wpS (model prog w) A E s (liftM (keyLt' (kindOf st) (f i).1 (f j).1).attempt >>= _) Q st
  rw [hs]
  exact wpS_bind (wpS_lift (wpAny_attempt (wpAny_mono (K.ask i j hi hj (fun b s'=>s'=s∧b=lt i j) ⟨rfl,rfl⟩) (fun b s' hb=>⟨hb.1,wpS_pure (by rw [hb.2]; exact h)⟩) fun _ _ z=>z.elim)))
theorem elem_wp {l:List Nat} {st:SortSt} {i:Nat} {Q:Keyed→SortSt→Prop} (hi:i < l.length) (h:Q (f l[i]) st):wpS (model prog w) A E s (elemP (T f l) i) Q st:=by
  show wpS (model prog w) A E s (match (T f l)[i]? with | some p=>pure p | none=>unsupported "internal:list.sort.index") Q st
  rw [T_get hi]
  exact wpS_pure h
theorem gallop_wp (K:Ans prog w A s κ f lt n) {st:SortSt} (hs:kindOf st=κ) {left:Bool} {k:Nat} (hk:k < n) {l:List Nat} (hl:∀ x∈l,x < n) {base m hint:Nat} (hb:base + m≤l.length) (hh:hint < m) {bey:Nat→Bool}
    (hbey:∀ i (hi:base + i < l.length),i < m→bey i=if left=true then lt l[base + i] k else !lt k l[base + i]) (mono:∀ i j,i≤j→j < m→bey j=true→bey i=true) {Q:Option Nat→SortSt→Prop}
    (h:∀ r,r≤m→(∀ i,i < r→bey i=true)→(∀ i,r≤i→i < m→bey i=false)→Q (some r) st):wpS (model prog w) A E s (gallopP left (f k) (T f l) base m hint) Q st:=by
  have one:∀ (i:Nat) (Q:Option Bool→SortSt→Prop),i < m→Q (some (bey i)) st→wpS (model prog w) A E s (elemP (T f l) (base + i) >>= fun x=>if left=true then ltP x (f k) else ltP (f k) x >>= fun c=>pure (Option.map (fun x=>!x) c)) Q st:=by
    intro i Q hi hq
    have hi':base + i < l.length:=by omega
    have hn:l[base + i] < n:=hl _ (List.getElem_mem _)
    refine wpS_bind (elem_wp hi' ?_)
    rw [hbey i hi' hi] at hq
    cases left with
    | true=>exact ask_wp K hs hn hk hq
    | false=>exact wpS_bind (ask_wp K hs hk hn (wpS_pure hq))
  have search:∀ (lo hi:Nat),lo≤hi→hi≤m→(∀ i,i < lo→bey i=true)→(∀ i,hi≤i→i < m→bey i=false)→∀ Q:Option (Option Nat)×Nat×Nat→SortSt→Prop,
      (∀ r a,r≤m→(∀ i,i < r→bey i=true)→(∀ i,r≤i→i < m→bey i=false)→Q (none,a,r) st) →
      wpS (model prog w) A E s (forIn [0:m] ((none,lo,hi):Option (Option Nat)×Nat×Nat) fun _ c =>
        if c.2.1 ≥ c.2.2 then pure (ForInStep.done (none,c.2.1,c.2.2)) else (elemP (T f l) (base + (c.2.1 + (c.2.2 - c.2.1) / 2)) >>= fun x=>if left=true then ltP x (f k) else ltP (f k) x >>= fun c=>pure (Option.map (fun x=>!x) c)) >>= fun z=>match z with
          | some more=>if more=true then pure (ForInStep.yield (none,c.2.1 + (c.2.2 - c.2.1) / 2 + 1,c.2.2)) else pure (ForInStep.yield (none,c.2.1,c.2.1 + (c.2.2 - c.2.1) / 2))
          | _=>pure (ForInStep.done (some none,c.2.1,c.2.2))) Q st:=by
    intro lo hi h1 h2 h3 h4 Q hq
    refine wpS_forRange (I:=fun x c st'=>st'=st∧c.1=none∧c.2.1≤c.2.2∧c.2.2≤m∧(∀ i,i < c.2.1→bey i=true)∧(∀ i,c.2.2≤i→i < m→bey i=false)∧c.2.2 - c.2.1≤m - x) ?_ ?_ ⟨rfl,rfl,h1,h2,h3,h4,by dsimp only; omega⟩
    · rintro x ⟨r,lo,hi⟩ st' _ hx ⟨rfl,rfl,g1,g2,g3,g4,g5⟩
      dsimp only at g1 g2 g3 g4 g5 ⊢
      by_cases c:lo ≥ hi
      · rw [if_pos c]
        exact wpS_pure (hq hi lo g2 (fun i hi=>g3 i (by omega)) g4)
      · rw [if_neg c]
        refine wpS_bind (one _ _ (by omega) ?_)
        dsimp only
        cases e:bey (lo + (hi - lo) / 2) with
        | true =>
          simp only [if_true]
          exact wpS_pure ⟨rfl,rfl,by dsimp only; omega,g2,fun i hi=>mono i _ (by dsimp only at hi; omega) (by omega) e,g4,by dsimp only; omega⟩
        | false =>
          simp only [Bool.false_eq_true,if_false]
          refine wpS_pure ⟨rfl,rfl,by dsimp only; omega,by dsimp only; omega,g3,fun i hi hm=>?_,by dsimp only; omega⟩
          cases e2:bey i with
          | false=>rfl
          | true=>rw [mono _ i hi hm e2] at e; exact e
    · rintro ⟨r,lo,hi⟩ st' ⟨rfl,rfl,g1,g2,g3,g4,g5⟩
      dsimp only at g1 g2 g3 g4 g5
      exact hq hi lo g2 (fun i hi=>g3 i (by omega)) g4
  refine wpS_bind (one hint _ hh ?_)
  dsimp only
  cases e:bey hint with
  | true =>
    simp only [if_true]
    refine wpS_bind (wpS_forRange (I:=fun x (c:Option (Option Nat)×Nat×Nat) st'=>st'=st∧c.1=none∧(hint + c.2.1 < m∧bey (hint + c.2.1)=true)∧c.2.1 < c.2.2∧x < c.2.2) ?_ ?_ (show _ from ⟨rfl,rfl,⟨by dsimp only; omega,e⟩,by decide,by decide⟩))
    · rintro x ⟨r,la,ofs⟩ st' _ hx ⟨rfl,rfl,⟨g0,g1⟩,g2,g3⟩
      dsimp only at g0 g1 g2 g3 ⊢
      by_cases c:ofs ≥ m - hint
      · rw [if_pos c]
        refine wpS_pure (wpS_bind (search (hint + la + 1) (hint + min ofs (m - hint)) (by omega) (by omega) (fun i hi=>mono i _ (by omega) g0 g1) (fun i h1 h2=>by omega) _ fun r a r1 r2 r3=>wpS_pure (h r r1 r2 r3)))
      · rw [if_neg c]
        refine wpS_bind (one _ _ (by omega) ?_)
        dsimp only
        cases e2:bey (hint + ofs) with
        | true=>exact wpS_pure ⟨rfl,rfl,⟨by dsimp only; omega,e2⟩,by dsimp only; omega,by dsimp only; omega⟩
        | false =>
          refine wpS_pure (wpS_bind (search (hint + la + 1) (hint + min ofs (m - hint)) (by omega) (by omega) (fun i hi=>mono i _ (by omega) g0 g1) (fun i h1 h2=>?_) _ fun r a r1 r2 r3=>wpS_pure (h r r1 r2 r3)))
          cases e3:bey i with
          | false=>rfl
          | true=>rw [mono _ i (by omega) h2 e3] at e2; exact e2
    · rintro ⟨r,la,ofs⟩ st' ⟨rfl,rfl,⟨g0,g1⟩,g2,g3⟩
      dsimp only at g0 g1 g2 g3 ⊢
      refine wpS_bind (search (hint + la + 1) (hint + min ofs (m - hint)) (by omega) (by omega) (fun i hi=>mono i _ (by omega) g0 g1) (fun i h1 h2=>by omega) _ fun r a r1 r2 r3=>wpS_pure (h r r1 r2 r3))
  | false =>
    simp only [Bool.false_eq_true,if_false]
    have no:∀ i,hint≤i→i < m→bey i=false:=fun i h1 h2=>by
      cases e3:bey i with
      | false=>rfl
      | true=>rw [mono _ i h1 h2 e3] at e; exact e
    refine wpS_bind (wpS_forRange (I:=fun x (c:Option (Option Nat)×Nat×Nat) st'=>st'=st∧c.1=none∧(c.2.1≤hint∧bey (hint - c.2.1)=false)∧c.2.1 < c.2.2∧x < c.2.2) ?_ ?_ (show _ from ⟨rfl,rfl,⟨Nat.zero_le _,e⟩,by decide,by decide⟩))
    · rintro x ⟨r,la,ofs⟩ st' _ hx ⟨rfl,rfl,⟨g0,g1⟩,g2,g3⟩
      dsimp only at g0 g1 g2 g3 ⊢
      have no2:∀ i,hint - la≤i→i < m→bey i=false:=fun i h1 h2=>by
        cases e3:bey i with
        | false=>rfl
        | true=>rw [mono _ i h1 h2 e3] at g1; exact g1
      by_cases c:ofs ≥ hint + 1
      · rw [if_pos c]
        refine wpS_pure (wpS_bind (search (hint + 1 - min ofs (hint + 1)) (hint - la) (by omega) (by omega) (fun i hi=>by omega) no2 _ fun r a r1 r2 r3=>wpS_pure (h r r1 r2 r3)))
      · rw [if_neg c]
        refine wpS_bind (one _ _ (by omega) ?_)
        dsimp only
        cases e2:bey (hint - ofs) with
        | false=>exact wpS_pure ⟨rfl,rfl,⟨by dsimp only; omega,e2⟩,by dsimp only; omega,by dsimp only; omega⟩
        | true =>
          exact wpS_pure (wpS_bind (search (hint + 1 - min ofs (hint + 1)) (hint - la) (by omega) (by omega) (fun i hi=>mono i _ (by omega) (by omega) e2) no2 _ fun r a r1 r2 r3=>wpS_pure (h r r1 r2 r3)))
    · rintro ⟨r,la,ofs⟩ st' ⟨rfl,rfl,⟨g0,g1⟩,g2,g3⟩
      dsimp only at g0 g1 g2 g3 ⊢
      have no2:∀ i,hint - la≤i→i < m→bey i=false:=fun i h1 h2=>by
        cases e3:bey i with
        | false=>rfl
        | true=>rw [mono _ i h1 h2 e3] at g1; exact g1
      exact wpS_bind (search (hint + 1 - min ofs (hint + 1)) (hint - la) (by omega) (by omega) (fun i hi=>by omega) no2 _ fun r a r1 r2 r3=>wpS_pure (h r r1 r2 r3))
end
end FhM
namespace FhM
open PySem PyProof.Rows
def Fr (st0 st:SortSt):Prop:=∃ g,st=SortSt.mk' (kindOf st0) (arrOf st0) (pendingOf st0) g (failedOf st0)
theorem Fr.refl (st:SortSt):Fr st st:=⟨gallopOf st,rfl⟩
theorem Fr.kind {st0 st:SortSt} (h:Fr st0 st):kindOf st=kindOf st0:=by obtain ⟨g,rfl⟩:=h; rfl
theorem Fr.step {st0 st:SortSt} (h:Fr st0 st) (g:Nat):Fr st0 (SortSt.mk' (kindOf st) (arrOf st) (pendingOf st) g (failedOf st)):=by obtain ⟨g0,rfl⟩:=h; exact ⟨g,rfl⟩
section
variable {lt:Nat→Nat→Bool} {a b o:List Nat} {ia ib k:Nat}
theorem one_drop {l:List Nat} {i:Nat} (h:i < l.length):l.drop i=[l[i]]++l.drop (i + 1):=by rw [List.drop_eq_getElem_cons h]; rfl
theorem some_drop (l:List Nat) (i k:Nat):l.drop i=(l.drop i).take k++l.drop (i + k):=by
  have e:=(List.take_append_drop k (l.drop i)).symm
  rw [List.drop_drop] at e
  exact e
theorem mem_cut {l:List Nat} {i k x:Nat} (h:x∈(l.drop i).take k):∃ j,∃ (hj:i + j < l.length),j < k∧x=l[i + j]:=by
  obtain ⟨j,hj,e⟩:=List.mem_iff_getElem.mp h
  rw [List.length_take,List.length_drop] at hj
  exact ⟨j,by omega,by omega,by rw [← e]; simp⟩
theorem mem_drop' {l:List Nat} {i x:Nat} (h:x∈l.drop i):∃ j,∃ (hj:j < l.length),i≤j∧x=l[j]:=by
  obtain ⟨j,hj,e⟩:=List.mem_iff_getElem.mp h
  rw [List.length_drop] at hj
  exact ⟨i + j,by omega,by omega,by rw [← e]; simp⟩
theorem Ord.at {l:List Nat} (h:Ord lt l) {i j:Nat} (hi:i < l.length) (hj:j < l.length) (hij:i < j):lt l[i] l[j]=true:=List.pairwise_iff_getElem.mp h i j hi hj hij
def Seg (lt:Nat→Nat→Bool) (l:List Nat) (i j:Nat):Prop:=∀ x y (hx:x < l.length) (hy:y < l.length),i≤x→x < y→y < j→lt l[x] l[y]=true
theorem Ord.seg {l:List Nat} (h:Ord lt l) (i j:Nat):Seg lt l i j:=fun x y hx hy _ hxy _=>List.pairwise_iff_getElem.mp h x y hx hy hxy
theorem Mg.pushA {S:List Nat} (h:Mg lt S o (a.drop ia) (b.drop ib)) (hi:ia < a.length) (q:∀ y∈b.drop ib,lt a[ia] y=true):Mg lt S (o++[a[ia]]) (a.drop (ia + 1)) (b.drop ib):=by
  rw [one_drop hi] at h
  exact h.stepA fun x hx y hy=>by obtain rfl:=List.mem_singleton.mp hx; exact q y hy
theorem Mg.pushB {S:List Nat} (h:Mg lt S o (a.drop ia) (b.drop ib)) (hi:ib < b.length) (q:∀ y∈a.drop ia,lt b[ib] y=true):Mg lt S (o++[b[ib]]) (a.drop ia) (b.drop (ib + 1)):=(Mg.pushA h.flip hi q).flip
theorem Mg.manyA {S:List Nat} (h:Mg lt S o (a.drop ia) (b.drop ib)) (k:Nat) (q:∀ j (hj:ia + j < a.length),j < k→∀ y∈b.drop ib,lt a[ia + j] y=true):Mg lt S (o++(a.drop ia).take k) (a.drop (ia + k)) (b.drop ib):=by
  rw [some_drop a ia k] at h
  exact h.stepA fun x hx y hy=>by obtain ⟨j,hj,hk,rfl⟩:=mem_cut hx; exact q j hj hk y hy
theorem Mg.manyB {S:List Nat} (h:Mg lt S o (a.drop ia) (b.drop ib)) (k:Nat) (q:∀ j (hj:ib + j < b.length),j < k→∀ y∈a.drop ia,lt b[ib + j] y=true):Mg lt S (o++(b.drop ib).take k) (a.drop ia) (b.drop (ib + k)):=(Mg.manyA h.flip k q).flip
theorem Mg.done {S:List Nat} (h:Mg lt S o (a.drop ia) (b.drop ib)) (e:ib=b.length):Fine lt S (o++a.drop ia++b.drop ib):=by
  subst e
  rw [List.drop_length] at h ⊢
  rw [List.append_nil]
  exact h.finA
theorem Mg.last {S:List Nat} (h:Mg lt S o (a.drop ia) (b.drop ib)) (e:ia + 1=a.length) (q:∀ y∈b,∀ h':a.length - 1 < a.length,lt y (a[a.length - 1])=true):Fine lt S (o++b.drop ib++a.drop ia):=by
  rw [one_drop (l:=a) (i:=ia) (by omega),e,List.drop_length,List.append_nil] at h ⊢
  refine h.finL fun y hy=>?_
  have:=q y (List.mem_of_mem_drop hy) (by omega)
  have e2:a.length - 1=ia:=by omega
  simpa only [e2] using this
theorem T_done {f:Nat→Keyed}:T f o++(T f a).extract ia (T f a).size++(T f b).extract ib (T f b).size=T f (o++a.drop ia++b.drop ib):=by
  rw [T_cut,T_cut,T_app,T_app,T_size,T_size,List.take_of_length_le (by simp),List.take_of_length_le (by simp)]
theorem T_many {f:Nat→Keyed}:T f o++(T f a).extract ia (ia + k)=T f (o++(a.drop ia).take k):=by
  rw [T_cut,T_app,Nat.add_sub_cancel_left]
end
section
variable {prog:Program} {w:World} {A:Around} {E:Value→Shared→Prop} {s:Shared} {κ:SortKind} {f:Nat→Keyed} {lt:Nat→Nat→Bool} {n:Nat}
theorem Ans.ahead (K:Ans prog w A s κ f lt n) {b:List Nat} (hb:∀ x∈b,x < n) (sb:Ord lt b) {x ib:Nat} (hx:x < n) (hi:ib < b.length) (h:lt x b[ib]=true):∀ y∈b.drop ib,lt x y=true:=fun y hy=>by
  obtain ⟨j,hj,hij,rfl⟩:=mem_drop' hy
  by_cases e:ib=j
  · subst e; exact h
  · exact K.tr _ _ _ hx (hb _ (List.getElem_mem _)) (hb _ (List.getElem_mem _)) h (Ord.at sb hi hj (by omega))
theorem wpS_ite {M:Model} {α σ:Type} {c:Prop} [Decidable c] {t e:StateT σ Sem α} {Q:α→σ→Prop} {st:σ} (h1:c→wpS M A E s t Q st) (h2:¬ c→wpS M A E s e Q st):wpS M A E s (if c then t else e) Q st:=by
  by_cases h:c
  · rw [if_pos h]; exact h1 h
  · rw [if_neg h]; exact h2 h
theorem is_size {x:Nat} {b:List Nat} (h:(x == (T f b).size)=true):x=b.length:=by rw [T_size] at h; simpa using h
theorem not_size {x:Nat} {b:List Nat} (h:¬ (x == (T f b).size)=true):x≠b.length:=by rw [T_size] at h; simpa using h
theorem gallopR (K:Ans prog w A s κ f lt n) {st:SortSt} (hs:kindOf st=κ) {a:List Nat} (la:∀ x∈a,x < n) {base m hint:Nat} (sa:Seg lt a base (base + m)) {x:Nat} (hx:x < n) (hb:base + hint < base + m∧base + m≤a.length) (ne:∀ i (hi:i < a.length),base≤i→i < base + m→a[i]≠x) {Q:Option Nat→SortSt→Prop}
    (h:∀ v,v≤m→(∀ i (h1:i < a.length),base≤i→i < base + v→lt a[i] x=true)→(∀ i (h1:i < a.length),i < base + m→base + v≤i→lt x a[i]=true)→Q (some v) st):wpS (model prog w) A E s (gallopP false (f x) (T f a) base m hint) Q st:=by
  have aIn:∀ i (hi:i < a.length),a[i] < n:=fun i hi=>la _ (List.getElem_mem _)
  refine gallop_wp K hs hx la (bey:=fun i=>!lt x (a.getD (base + i) 0)) (by omega) (by omega) (fun i hi him=>?_) (fun i j hij hj e=>?_) fun r r1 r2 r3=>h r (by omega) (fun i h1 h2 h3=>?_) fun i h1 hm h2=>?_
  · simp [hi]
  · have h1:base + i < a.length:=by omega
    have h2:base + j < a.length:=by omega
    simp only [List.getD_eq_getElem?_getD,List.getElem?_eq_getElem h1,List.getElem?_eq_getElem h2,Option.getD_some,Bool.not_eq_true'] at e ⊢
    by_cases z:i=j
    · subst z; exact e
    · cases e2:lt x a[base + i] with
      | false=>rfl
      | true=>rw [K.tr _ _ _ hx (aIn _ h1) (aIn _ h2) e2 (sa _ _ h1 h2 (by omega) (by omega) (by omega))] at e; exact e
  · have:=r2 (i - base) (by omega)
    have e3:base + (i - base)=i:=by omega
    simp only [e3,List.getD_eq_getElem?_getD,List.getElem?_eq_getElem h1,Option.getD_some,Bool.not_eq_true'] at this
    exact K.tot _ _ hx (aIn _ h1) (Ne.symm (ne i h1 (by omega) (by omega))) this
  · have:=r3 (i - base) (by omega) (by omega)
    have e3:base + (i - base)=i:=by omega
    simpa only [e3,List.getD_eq_getElem?_getD,List.getElem?_eq_getElem h1,Option.getD_some,Bool.not_eq_false'] using this
theorem gallopL (K:Ans prog w A s κ f lt n) {st:SortSt} (hs:kindOf st=κ) {b:List Nat} (lb:∀ x∈b,x < n) {base m hint:Nat} (sb:Seg lt b base (base + m)) {x:Nat} (hx:x < n) (hb:base + hint < base + m∧base + m≤b.length) {Q:Option Nat→SortSt→Prop}
    (h:∀ v,v≤m→(∀ i (h1:i < b.length),base≤i→i < base + v→lt b[i] x=true)→(∀ i (h1:i < b.length),i < base + m→base + v≤i→lt b[i] x=false)→Q (some v) st):wpS (model prog w) A E s (gallopP true (f x) (T f b) base m hint) Q st:=by
  have bIn:∀ i (hi:i < b.length),b[i] < n:=fun i hi=>lb _ (List.getElem_mem _)
  refine gallop_wp K hs hx lb (bey:=fun i=>lt (b.getD (base + i) 0) x) (by omega) (by omega) (fun i hi him=>?_) (fun i j hij hj e=>?_) fun r r1 r2 r3=>h r (by omega) (fun i h1 h2 h3=>?_) fun i h1 hm h2=>?_
  · simp [hi]
  · have h1:base + i < b.length:=by omega
    have h2:base + j < b.length:=by omega
    simp only [List.getD_eq_getElem?_getD,List.getElem?_eq_getElem h1,List.getElem?_eq_getElem h2,Option.getD_some] at e ⊢
    by_cases z:i=j
    · subst z; exact e
    · exact K.tr _ _ _ (bIn _ h1) (bIn _ h2) hx (sb _ _ h1 h2 (by omega) (by omega) (by omega)) e
  · have:=r2 (i - base) (by omega)
    have e3:base + (i - base)=i:=by omega
    simpa only [e3,List.getD_eq_getElem?_getD,List.getElem?_eq_getElem h1,Option.getD_some] using this
  · have:=r3 (i - base) (by omega) (by omega)
    have e3:base + (i - base)=i:=by omega
    simpa only [e3,List.getD_eq_getElem?_getD,List.getElem?_eq_getElem h1,Option.getD_some] using this
structure Both (lt:Nat→Nat→Bool) (n:Nat) (a b:List Nat):Prop where
  la:∀ x∈a,x < n
  lb:∀ x∈b,x < n
  ne:∀ x∈a,∀ y∈b,x≠y
  sa:Ord lt a
  sb:Ord lt b
  pa:0 < a.length
  pb:0 < b.length
  fst:∀ (h1:0 < a.length) (h2:0 < b.length),lt b[0] a[0]=true
  lst:∀ y∈b,∀ h':a.length - 1 < a.length,lt y (a[a.length - 1])=true
theorem lo_wp (K:Ans prog w A s κ f lt n) {st:SortSt} (hs:kindOf st=κ) {a b:List Nat} (B:Both lt n a b) {Q:Array Keyed→SortSt→Prop}
    (h:∀ r st',Fine lt (a++b) r→Fr st st'→Q (T f r) st'):wpS (model prog w) A E s (mergeLoP (T f a) (T f b)) Q st:=by
  have pa:=B.pa
  have pb:=B.pb
  have aIn:∀ i (hi:i < a.length),a[i] < n:=fun i hi=>B.la _ (List.getElem_mem _)
  have bIn:∀ i (hi:i < b.length),b[i] < n:=fun i hi=>B.lb _ (List.getElem_mem _)
  have neAB:∀ i j (hi:i < a.length) (hj:j < b.length),a[i]≠b[j]:=fun i j hi hj=>B.ne _ (List.getElem_mem _) _ (List.getElem_mem _)
  have M0:Mg lt (a++b) [b[0]] (a.drop 0) (b.drop 1):=by
    have m:Mg lt (a++b) [] (a.drop 0) (b.drop 0):=⟨List.Perm.refl _,List.Pairwise.nil,B.sa,B.sb,fun x hx=>absurd hx (List.not_mem_nil),fun x hx=>absurd hx (List.not_mem_nil)⟩
    exact m.pushB pb (K.ahead B.la B.sa (bIn 0 pb) pa (B.fst pa pb))
  refine wpS_bind (wpS_lift (wpAny_rule ⟨rfl,?_⟩))
  refine wpS_bind (elem_wp pb ?_)
  refine wpS_ite (fun c1=>wpS_pure ?_) fun c1=>wpS_ite (fun c2=>wpS_pure ?_) fun c2=>?_
  · have:=h _ _ (M0.done (is_size c1)) (Fr.refl st)
    rw [← T_done,← T_one] at this
    exact this
  · have:=h _ _ (M0.last (is_size c2) B.lst) (Fr.refl st)
    rw [← T_done,← T_one] at this
    exact this
  have c1:1≠b.length:=not_size c1
  have c2:0 + 1≠a.length:=not_size c2
  refine wpS_bind (wpS_get ?_)
  refine wpS_bind (wpS_mono (wpS_forRange (I:=fun x (c:Option (Array Keyed)×Array Keyed×Nat×Nat×Nat) st'=>c.1=none∧∃ o,c.2.1=T f o∧Mg lt (a++b) o (a.drop c.2.2.1) (b.drop c.2.2.2.1)∧c.2.2.1 + 1 < a.length∧c.2.2.2.1 < b.length∧x + 1≤c.2.2.1 + c.2.2.2.1∧Fr st st')
    (Q:=fun c st'=>∃ r,c.1=some (T f r)∧Fine lt (a++b) r∧Fr st st') ?_ ?_ ⟨rfl,_,T_one,M0,by dsimp only; omega,by dsimp only; omega,Nat.le_refl _,Fr.refl _⟩) ?_)
  · rintro x ⟨r,out,ia,ib,mg⟩ st1 _ hx ⟨rfl,o,rfl,M,g1,g2,g3,g4⟩
    dsimp only at M g1 g2 g3 g4
    refine wpS_bind (wpS_mono (wpS_forRange (I:=fun y (c:Option (Array Keyed)×Array Keyed×Nat×Nat×Nat×Nat) st'=>c.1=none∧∃ o,c.2.1=T f o∧Mg lt (a++b) o (a.drop c.2.2.1) (b.drop c.2.2.2.1)∧c.2.2.1 + 1 < a.length∧c.2.2.2.1 < b.length∧ia + ib + y≤c.2.2.1 + c.2.2.2.1∧Fr st st')
      (Q:=fun c st'=>Fr st st'∧((∃ r,c.1=some (T f r)∧Fine lt (a++b) r)∨(c.1=none∧∃ o,c.2.1=T f o∧Mg lt (a++b) o (a.drop c.2.2.1) (b.drop c.2.2.2.1)∧c.2.2.1 + 1 < a.length∧c.2.2.2.1 < b.length∧ia + ib + 1≤c.2.2.1 + c.2.2.2.1))) ?_ ?_ ⟨rfl,o,rfl,M,g1,g2,Nat.le_refl _,g4⟩) ?_)
    · rintro y ⟨r,out,ja,jb,ac,bc⟩ st2 _ hy ⟨rfl,o2,rfl,M2,k1,k2,k3,k4⟩
      dsimp only at M2 k1 k2 k3 k4
      have k5:=k4.kind.trans hs
      refine wpS_bind (elem_wp k2 (wpS_bind (elem_wp (l:=a) (i:=ja) (by omega) (wpS_bind (ask_wp K k5 (bIn jb k2) (aIn ja (by omega)) ?_)))))
      refine wpS_ite (fun e=>?_) fun e=>?_
      · refine wpS_bind (elem_wp k2 ?_)
        have M3:=M2.pushB k2 (K.ahead B.la B.sa (bIn jb k2) (by omega) e)
        refine wpS_ite (fun d1=>wpS_pure ⟨k4,.inl ⟨_,(by simp only [T_push,T_many,T_done]),M3.done (is_size d1)⟩⟩) fun d1=>?_
        have d1:jb + 1≠b.length:=not_size d1
        exact wpS_ite (fun _=>wpS_pure ⟨k4,.inr ⟨rfl,_,T_push,M3,k1,by dsimp only; omega,by dsimp only; omega⟩⟩) fun _=>wpS_pure ⟨rfl,_,T_push,M3,k1,by dsimp only; omega,by dsimp only; omega,k4⟩
      · refine wpS_bind (elem_wp (l:=a) (i:=ja) (by omega) ?_)
        have M3:=M2.pushA (by omega) (K.ahead B.lb B.sb (aIn ja (by omega)) k2 (K.tot _ _ (bIn jb k2) (aIn ja (by omega)) (Ne.symm (neAB ja jb (by omega) k2)) (by simpa using e)))
        refine wpS_ite (fun d1=>wpS_pure ⟨k4,.inl ⟨_,(by simp only [T_push,T_many,T_done]),M3.last (is_size d1) B.lst⟩⟩) fun d1=>?_
        have d1:ja + 1 + 1≠a.length:=not_size d1
        exact wpS_ite (fun _=>wpS_pure ⟨k4,.inr ⟨rfl,_,T_push,M3,by dsimp only; omega,k2,by dsimp only; omega⟩⟩) fun _=>wpS_pure ⟨rfl,_,T_push,M3,by dsimp only; omega,k2,by dsimp only; omega,k4⟩
    · rintro ⟨r,out,ja,jb,ac,bc⟩ st2 ⟨rfl,o2,rfl,M2,k1,k2,k3,k4⟩
      rw [T_size,T_size] at k3
      dsimp only at k3
      exact ⟨k4,.inr ⟨rfl,o2,rfl,M2,k1,k2,by dsimp only; omega⟩⟩
    · rintro ⟨r,out,ja,jb,ac,bc⟩ st2 ⟨k4,(⟨r',e,F⟩ | ⟨rfl,o2,rfl,M2,k1,k2,k3⟩)⟩
      · dsimp only at e
        subst e
        exact wpS_pure ⟨_,rfl,F,k4⟩
      · dsimp only at M2 k1 k2 k3
        refine wpS_bind (wpS_lift (wpAny_rule ⟨rfl,?_⟩))
        refine wpS_bind (wpS_mono (wpS_forRange (I:=fun _ (c:Option (Array Keyed)×Array Keyed×Nat×Nat×Nat×Nat×Nat) st'=>c.1=none∧∃ o,c.2.1=T f o∧Mg lt (a++b) o (a.drop c.2.2.1) (b.drop c.2.2.2.1)∧c.2.2.1 + 1 < a.length∧c.2.2.2.1 < b.length∧ia + ib + 1≤c.2.2.1 + c.2.2.2.1∧Fr st st')
          (Q:=fun c st'=>Fr st st'∧((∃ r,c.1=some (T f r)∧Fine lt (a++b) r)∨(c.1=none∧∃ o,c.2.1=T f o∧Mg lt (a++b) o (a.drop c.2.2.1) (b.drop c.2.2.2.1)∧c.2.2.1 + 1 < a.length∧c.2.2.2.1 < b.length∧ia + ib + 1≤c.2.2.1 + c.2.2.2.1))) ?_ ?_ ⟨rfl,o2,rfl,M2,k1,k2,k3,k4⟩) ?_)
        · clear M2 k1 k2 k3 k4
          rintro y ⟨r,out,ja,jb,mg2,ac,bc⟩ st3 _ hy ⟨rfl,o2,rfl,M2,k1,k2,k3,k4⟩
          dsimp only at M2 k1 k2 k3 k4
          have k6:=fun g=>(k4.step g).kind.trans hs
          refine wpS_ite (fun _=>?_) fun _=>?_
          all_goals
            refine wpS_bind (wpS_modify ?_)
            refine wpS_bind (elem_wp k2 ?_)
            refine wpS_bind (gallopR (base:=ja) (m:=(T f a).size - ja) (hint:=0) K (k6 _) B.la (Ord.seg B.sa _ _) (bIn jb k2) (by rw [T_size]; omega) (fun i hi _ _=>neAB i jb hi k2) fun v v1 v2 v3=>?_)
            rw [T_size] at v1 v3
            have hiA:∀ i (h1:i < a.length),ja + v≤i→lt b[jb] a[i]=true:=fun i h1 h2=>v3 i h1 (by omega) h2
            refine wpS_ite (fun (v0:v > 0)=>?_) fun (v0:¬ v > 0)=>?_
            · have M4:=Mg.manyA M2 v fun j hj jv=>K.ahead B.lb B.sb (aIn _ hj) k2 (v2 (ja + j) hj (by omega) (by omega))
              refine wpS_ite (fun d1=>wpS_pure ⟨k4.step _,.inl ⟨_,(by simp only [T_push,T_many,T_done]),M4.last (is_size d1) B.lst⟩⟩) fun d1=>?_
              have d1:ja + v + 1≠a.length:=not_size d1
              have d5:ja + v≠a.length:=fun z=>by
                have e1:=B.lst b[jb] (List.getElem_mem _) (by omega)
                have e2:=v2 (a.length - 1) (by omega) (by omega) (by omega)
                have e3:=K.tr _ _ _ (bIn jb k2) (aIn _ (by omega)) (bIn jb k2) e1 e2
                rw [K.irr _ (bIn jb k2)] at e3
                exact absurd e3 (by decide)
              refine wpS_ite (fun d6=>absurd (is_size d6) d5) fun _=>?_
              refine wpS_bind (elem_wp k2 ?_)
              have M5:=Mg.pushB M4 k2 (K.ahead B.la B.sa (bIn jb k2) (by omega) (hiA (ja + v) (by omega) (by omega)))
              refine wpS_ite (fun d2=>wpS_pure ⟨k4.step _,.inl ⟨_,(by simp only [T_push,T_many,T_done]),M5.done (is_size d2)⟩⟩) fun d2=>?_
              have d2:jb + 1≠b.length:=not_size d2
              refine wpS_bind (elem_wp (l:=a) (i:=ja + v) (by omega) ?_)
              refine wpS_bind (gallopL (base:=jb + 1) (m:=(T f b).size - (jb + 1)) (hint:=0) K (k6 _) B.lb (Ord.seg B.sb _ _) (aIn (ja + v) (by omega)) (by rw [T_size]; omega) fun u u1 u2 u3=>?_)
              rw [T_size] at u1 u3
              have up:∀ i (h1:i < b.length),jb + 1 + u≤i→lt a[ja + v] b[i]=true:=fun i h1 h2=>K.tot _ _ (bIn i h1) (aIn (ja + v) (by omega)) (Ne.symm (neAB _ _ (by omega) h1)) (u3 i h1 (by omega) h2)
              refine wpS_ite (fun (u0:u > 0)=>?_) fun (u0:¬ u > 0)=>?_
              · have M6:=Mg.manyB M5 u fun j hj jv=>K.ahead B.la B.sa (bIn _ hj) (by omega) (u2 (jb + 1 + j) hj (by omega) (by omega))
                refine wpS_ite (fun d4=>wpS_pure ⟨k4.step _,.inl ⟨_,(by simp only [T_push,T_many,T_done]),M6.done (is_size d4)⟩⟩) fun d4=>?_
                have d4:jb + 1 + u≠b.length:=not_size d4
                refine wpS_bind (elem_wp (l:=a) (i:=ja + v) (by omega) ?_)
                have M7:=Mg.pushA M6 (by omega) (K.ahead B.lb B.sb (aIn (ja + v) (by omega)) (by omega) (up (jb + 1 + u) (by omega) (by omega)))
                refine wpS_ite (fun d3=>wpS_pure ⟨k4.step _,.inl ⟨_,(by simp only [T_push,T_many,T_done]),M7.last (is_size d3) B.lst⟩⟩) fun d3=>?_
                have d3:ja + v + 1 + 1≠a.length:=not_size d3
                exact wpS_ite (fun _=>wpS_pure ⟨k4.step _,.inr ⟨rfl,_,(by simp only [T_push,T_many,T_done]),M7,by dsimp only; omega,by dsimp only; omega,by dsimp only; omega⟩⟩) fun _=>wpS_pure ⟨rfl,_,(by simp only [T_push,T_many,T_done]),M7,by dsimp only; omega,by dsimp only; omega,by dsimp only; omega,k4.step _⟩
              · refine wpS_bind (elem_wp (l:=a) (i:=ja + v) (by omega) ?_)
                have M7:=Mg.pushA M5 (by omega) (K.ahead B.lb B.sb (aIn (ja + v) (by omega)) (by omega) (up (jb + 1) (by omega) (by omega)))
                refine wpS_ite (fun d3=>wpS_pure ⟨k4.step _,.inl ⟨_,(by simp only [T_push,T_many,T_done]),M7.last (is_size d3) B.lst⟩⟩) fun d3=>?_
                have d3:ja + v + 1 + 1≠a.length:=not_size d3
                exact wpS_ite (fun _=>wpS_pure ⟨k4.step _,.inr ⟨rfl,_,(by simp only [T_push,T_many,T_done]),M7,by dsimp only; omega,by dsimp only; omega,by dsimp only; omega⟩⟩) fun _=>wpS_pure ⟨rfl,_,(by simp only [T_push,T_many,T_done]),M7,by dsimp only; omega,by dsimp only; omega,by dsimp only; omega,k4.step _⟩
            · refine wpS_bind (elem_wp k2 ?_)
              have M5:=Mg.pushB M2 k2 (K.ahead B.la B.sa (bIn jb k2) (by omega) (hiA (ja) (by omega) (by omega)))
              refine wpS_ite (fun d2=>wpS_pure ⟨k4.step _,.inl ⟨_,(by simp only [T_push,T_many,T_done]),M5.done (is_size d2)⟩⟩) fun d2=>?_
              have d2:jb + 1≠b.length:=not_size d2
              refine wpS_bind (elem_wp (l:=a) (i:=ja) (by omega) ?_)
              refine wpS_bind (gallopL (base:=jb + 1) (m:=(T f b).size - (jb + 1)) (hint:=0) K (k6 _) B.lb (Ord.seg B.sb _ _) (aIn (ja) (by omega)) (by rw [T_size]; omega) fun u u1 u2 u3=>?_)
              rw [T_size] at u1 u3
              have up:∀ i (h1:i < b.length),jb + 1 + u≤i→lt a[ja] b[i]=true:=fun i h1 h2=>K.tot _ _ (bIn i h1) (aIn (ja) (by omega)) (Ne.symm (neAB _ _ (by omega) h1)) (u3 i h1 (by omega) h2)
              refine wpS_ite (fun (u0:u > 0)=>?_) fun (u0:¬ u > 0)=>?_
              · have M6:=Mg.manyB M5 u fun j hj jv=>K.ahead B.la B.sa (bIn _ hj) (by omega) (u2 (jb + 1 + j) hj (by omega) (by omega))
                refine wpS_ite (fun d4=>wpS_pure ⟨k4.step _,.inl ⟨_,(by simp only [T_push,T_many,T_done]),M6.done (is_size d4)⟩⟩) fun d4=>?_
                have d4:jb + 1 + u≠b.length:=not_size d4
                refine wpS_bind (elem_wp (l:=a) (i:=ja) (by omega) ?_)
                have M7:=Mg.pushA M6 (by omega) (K.ahead B.lb B.sb (aIn (ja) (by omega)) (by omega) (up (jb + 1 + u) (by omega) (by omega)))
                refine wpS_ite (fun d3=>wpS_pure ⟨k4.step _,.inl ⟨_,(by simp only [T_push,T_many,T_done]),M7.last (is_size d3) B.lst⟩⟩) fun d3=>?_
                have d3:ja + 1 + 1≠a.length:=not_size d3
                exact wpS_ite (fun _=>wpS_pure ⟨k4.step _,.inr ⟨rfl,_,(by simp only [T_push,T_many,T_done]),M7,by dsimp only; omega,by dsimp only; omega,by dsimp only; omega⟩⟩) fun _=>wpS_pure ⟨rfl,_,(by simp only [T_push,T_many,T_done]),M7,by dsimp only; omega,by dsimp only; omega,by dsimp only; omega,k4.step _⟩
              · refine wpS_bind (elem_wp (l:=a) (i:=ja) (by omega) ?_)
                have M7:=Mg.pushA M5 (by omega) (K.ahead B.lb B.sb (aIn (ja) (by omega)) (by omega) (up (jb + 1) (by omega) (by omega)))
                refine wpS_ite (fun d3=>wpS_pure ⟨k4.step _,.inl ⟨_,(by simp only [T_push,T_many,T_done]),M7.last (is_size d3) B.lst⟩⟩) fun d3=>?_
                have d3:ja + 1 + 1≠a.length:=not_size d3
                exact wpS_ite (fun _=>wpS_pure ⟨k4.step _,.inr ⟨rfl,_,(by simp only [T_push,T_many,T_done]),M7,by dsimp only; omega,by dsimp only; omega,by dsimp only; omega⟩⟩) fun _=>wpS_pure ⟨rfl,_,(by simp only [T_push,T_many,T_done]),M7,by dsimp only; omega,by dsimp only; omega,by dsimp only; omega,k4.step _⟩
        · rintro ⟨r,out,ja,jb,mg2,ac,bc⟩ st3 ⟨rfl,o2,rfl,M2,k1,k2,k3,k4⟩
          exact ⟨k4,.inr ⟨rfl,o2,rfl,M2,k1,k2,k3⟩⟩
        · rintro ⟨r,out,ja,jb,mg2,ac,bc⟩ st3 ⟨k4,(⟨r',e,F⟩ | ⟨rfl,o2,rfl,M2,k1,k2,k3⟩)⟩
          · dsimp only at e
            subst e
            exact wpS_pure ⟨_,rfl,F,k4⟩
          · refine wpS_bind (wpS_modify (wpS_pure ⟨rfl,o2,rfl,M2,k1,k2,?_,k4.step _⟩))
            dsimp only at k3 ⊢
            omega
  · rintro ⟨r,out,ia,ib,mg⟩ st1 ⟨rfl,o,rfl,M,g1,g2,g3,g4⟩
    rw [T_size,T_size] at g3
    dsimp only at g1 g2 g3
    omega
  · rintro ⟨r,out,ia,ib,mg⟩ st1 ⟨r',e,F,g4⟩
    dsimp only at e
    subst e
    exact wpS_pure (h _ _ F g4)
end
end FhM
namespace FhM
open PySem PyProof.Rows
section
variable {lt:Nat→Nat→Bool} {a b o:List Nat} {na nb k:Nat}
theorem rev_one {l:List Nat} {i:Nat} (h0:0 < i) (h:i≤l.length):(l.take i).reverse=[l[i - 1]]++(l.take (i - 1)).reverse:=by
  obtain ⟨j,rfl⟩:∃ j,i=j + 1:=⟨i - 1,by omega⟩
  simp only [Nat.add_sub_cancel]
  rw [List.take_succ_eq_append_getElem (by omega),List.reverse_append]
  rfl
theorem rev_many {l:List Nat} {i j:Nat} (h:i≤j):(l.take j).reverse=((l.drop i).take (j - i)).reverse++(l.take i).reverse:=by
  rw [← List.reverse_append,← List.take_add]
  congr 2
  omega
def Hi (lt:Nat→Nat→Bool) (S o a b:List Nat) (na nb:Nat):Prop:=Mg (fun x y=>lt y x) S o (a.take na).reverse (b.take nb).reverse
theorem Hi.pushA {S:List Nat} (h:Hi lt S o a b na nb) (h0:0 < na) (hi:na≤a.length) (q:∀ y∈b.take nb,lt y a[na - 1]=true):Hi lt S (o++[a[na - 1]]) a b (na - 1) nb:=by
  unfold Hi at h ⊢
  rw [rev_one h0 hi] at h
  exact h.stepA fun x hx y hy=>by obtain rfl:=List.mem_singleton.mp hx; exact q y (List.mem_reverse.mp hy)
theorem Hi.flip {S:List Nat} (h:Hi lt S o a b na nb):Hi lt S o b a nb na:=Mg.flip h
theorem Hi.pushB {S:List Nat} (h:Hi lt S o a b na nb) (h0:0 < nb) (hi:nb≤b.length) (q:∀ y∈a.take na,lt y b[nb - 1]=true):Hi lt S (o++[b[nb - 1]]) a b na (nb - 1):=(h.flip.pushA h0 hi q).flip
theorem Hi.manyA {S:List Nat} (h:Hi lt S o a b na nb) (k:Nat) (hk:k≤na) (q:∀ i (hi:i < a.length),k≤i→i < na→∀ y∈b.take nb,lt y a[i]=true):Hi lt S (o++((a.drop k).take (na - k)).reverse) a b k nb:=by
  unfold Hi at h ⊢
  rw [rev_many hk] at h
  refine h.stepA fun x hx y hy=>?_
  obtain ⟨j,hj,hk2,rfl⟩:=mem_cut (List.mem_reverse.mp hx)
  exact q (k + j) hj (by omega) (by omega) y (List.mem_reverse.mp hy)
theorem Hi.manyB {S:List Nat} (h:Hi lt S o a b na nb) (k:Nat) (hk:k≤nb) (q:∀ i (hi:i < b.length),k≤i→i < nb→∀ y∈a.take na,lt y b[i]=true):Hi lt S (o++((b.drop k).take (nb - k)).reverse) a b na k:=(h.flip.manyA k hk q).flip
theorem Fine.back {S r:List Nat} (h:Fine (fun x y=>lt y x) S r):Fine lt S r.reverse:=⟨(List.reverse_perm r).trans h.pm,List.pairwise_reverse.mpr h.so⟩
theorem Hi.done {S:List Nat} (h:Hi lt S o a b na nb) (e:na=0):Fine lt S (a.take na++b.take nb++o.reverse):=by
  subst e
  have:=(Mg.finB h).back
  rw [List.reverse_append,List.reverse_reverse] at this
  simpa using this
theorem Hi.first {S:List Nat} (h:Hi lt S o a b na nb) (e:nb=1) (hb:0 < b.length) (q:∀ y∈a,lt b[0] y=true):Fine lt S (b.take nb++a.take na++o.reverse):=by
  subst e
  unfold Hi at h
  have e2:(b.take 1).reverse=[b[0]]:=by
    have:=rev_one (l:=b) (i:=1) (by decide) hb
    simpa using this
  rw [e2] at h
  have:=(Mg.finL h.flip fun y hy=>q y (List.mem_of_mem_take (List.mem_reverse.mp hy))).back
  rw [List.reverse_append,List.reverse_append,List.reverse_reverse] at this
  have e3:b.take 1=[b[0]]:=by
    have:=congrArg List.reverse e2
    simpa using this
  rw [e3]
  simpa using this
theorem T_doneH {f:Nat→Keyed}:(T f a).extract 0 na++(T f b).extract 0 nb++(T f o).reverse=T f (a.take na++b.take nb++o.reverse):=by
  rw [T_cut,T_cut,T_rev,T_app,T_app,List.drop_zero,List.drop_zero,Nat.sub_zero,Nat.sub_zero]
theorem T_manyH {f:Nat→Keyed}:T f o++((T f a).extract k na).reverse=T f (o++((a.drop k).take (na - k)).reverse):=by
  rw [T_cut,T_rev,T_app]
end
section
variable {prog:Program} {w:World} {A:Around} {E:Value→Shared→Prop} {s:Shared} {κ:SortKind} {f:Nat→Keyed} {lt:Nat→Nat→Bool} {n:Nat}
theorem Ans.behind (K:Ans prog w A s κ f lt n) {b:List Nat} (hb:∀ x∈b,x < n) (sb:Ord lt b) {x k:Nat} (hx:x < n) (hk:k≤b.length) (h:∀ (h1:0 < k),lt b[k - 1] x=true):∀ y∈b.take k,lt y x=true:=fun y hy=>by
  obtain ⟨j,hj,e⟩:=List.mem_iff_getElem.mp hy
  rw [List.length_take] at hj
  rw [List.getElem_take] at e
  subst e
  by_cases e:j=k - 1
  · subst e; exact h (by omega)
  · exact K.tr _ _ _ (hb _ (List.getElem_mem _)) (hb _ (List.getElem_mem _)) hx (Ord.at sb (i:=j) (j:=k - 1) (by omega) (by omega) (by omega)) (h (by omega))
theorem isn {x y:Nat} (h:(x == y)=true):x=y:=by simpa using h
theorem isnt {x y:Nat} (h:¬ (x == y)=true):x≠y:=by simpa using h
theorem hi_wp (K:Ans prog w A s κ f lt n) {st:SortSt} (hs:kindOf st=κ) {a b:List Nat} (B:Both lt n a b) {Q:Array Keyed→SortSt→Prop}
    (h:∀ r st',Fine lt (a++b) r→Fr st st'→Q (T f r) st'):wpS (model prog w) A E s (mergeHiP (T f a) (T f b)) Q st:=by
  have pa:=B.pa
  have pb:=B.pb
  have aIn:∀ i (hi:i < a.length),a[i] < n:=fun i hi=>B.la _ (List.getElem_mem _)
  have bIn:∀ i (hi:i < b.length),b[i] < n:=fun i hi=>B.lb _ (List.getElem_mem _)
  have neAB:∀ i j (hi:i < a.length) (hj:j < b.length),a[i]≠b[j]:=fun i j hi hj=>B.ne _ (List.getElem_mem _) _ (List.getElem_mem _)
  have hd:∀ y∈a,lt b[0] y=true:=fun y hy=>K.ahead B.la B.sa (bIn 0 pb) pa (B.fst pa pb) y (by simpa using hy)
  have sz:(T f a).size - 1=a.length - 1:=by rw [T_size]
  have zb:(T f b).size=b.length:=T_size
  have M0:Hi lt (a++b) [a[a.length - 1]] a b (a.length - 1) b.length:=by
    have m:Hi lt (a++b) [] a b a.length b.length:=by
      unfold Hi
      rw [List.take_length,List.take_length]
      exact ⟨by rw [List.nil_append]; exact List.Perm.append (List.reverse_perm a) (List.reverse_perm b),List.Pairwise.nil,List.pairwise_reverse.mpr B.sa,List.pairwise_reverse.mpr B.sb,fun x hx=>absurd hx (List.not_mem_nil),fun x hx=>absurd hx (List.not_mem_nil)⟩
    exact m.pushA pa (Nat.le_refl _) fun y hy=>B.lst y (List.mem_of_mem_take hy) (by omega)
  refine wpS_bind (wpS_lift (wpAny_rule ⟨rfl,?_⟩))
  refine wpS_bind (elem_wp (l:=a) (i:=(T f a).size - 1) (by rw [T_size]; omega) ?_)
  have ea:∀ (i:Nat) (hi:i < a.length),i=a.length - 1→a[i]=a[a.length - 1]:=fun i hi e=>by subst e; rfl
  rw [ea ((T f a).size - 1) (by rw [T_size]; omega) sz]
  refine wpS_ite (fun c1=>wpS_pure ?_) fun c1=>wpS_ite (fun c2=>wpS_pure ?_) fun c2=>?_
  · simp only [sz,zb,T_one,T_doneH]
    exact h _ _ (M0.done (by rw [← sz]; exact isn c1)) (Fr.refl st)
  · simp only [sz,zb,T_one,T_doneH]
    exact h _ _ (M0.first (by rw [← T_size (f:=f) (l:=b)]; exact isn c2) pb hd) (Fr.refl st)
  have c1:a.length - 1≠0:=by rw [← sz]; exact isnt c1
  have c2:b.length≠1:=by rw [← T_size (f:=f) (l:=b)]; exact isnt c2
  refine wpS_bind (wpS_get ?_)
  refine wpS_bind (wpS_mono (wpS_forRange (I:=fun x (c:Option (Array Keyed)×Nat×Nat×Array Keyed×Nat) st'=>c.1=none∧∃ o,c.2.2.2.1=T f o∧Hi lt (a++b) o a b c.2.1 c.2.2.1∧0 < c.2.1∧1 < c.2.2.1∧c.2.1≤a.length∧c.2.2.1≤b.length∧c.2.1 + c.2.2.1 + x + 1≤a.length + b.length∧Fr st st')
    (Q:=fun c st'=>∃ r,c.1=some (T f r)∧Fine lt (a++b) r∧Fr st st') ?_ ?_ ?_) ?_)
  · rintro x ⟨r,ia,ib,out,mg⟩ st1 _ hx ⟨rfl,o,rfl,M,g1,g2,gA,gB,g3,g4⟩
    dsimp only at M g1 g2 g3 g4 gA gB
    refine wpS_bind (wpS_mono (wpS_forRange (I:=fun y (c:Option (Array Keyed)×Nat×Nat×Array Keyed×Nat×Nat) st'=>c.1=none∧∃ o,c.2.2.2.1=T f o∧Hi lt (a++b) o a b c.2.1 c.2.2.1∧0 < c.2.1∧1 < c.2.2.1∧c.2.1≤a.length∧c.2.2.1≤b.length∧c.2.1 + c.2.2.1 + y≤ia + ib∧Fr st st')
      (Q:=fun c st'=>Fr st st'∧((∃ r,c.1=some (T f r)∧Fine lt (a++b) r)∨(c.1=none∧∃ o,c.2.2.2.1=T f o∧Hi lt (a++b) o a b c.2.1 c.2.2.1∧0 < c.2.1∧1 < c.2.2.1∧c.2.1≤a.length∧c.2.2.1≤b.length∧c.2.1 + c.2.2.1 + 1≤ia + ib))) ?_ ?_ ⟨rfl,o,rfl,M,g1,g2,gA,gB,Nat.le_refl _,g4⟩) ?_)
    · rintro y ⟨r,ja,jb,out,ac,bc⟩ st2 _ hy ⟨rfl,o2,rfl,M2,k1,k2,kA,kB,k3,k4⟩
      dsimp only at M2 k1 k2 k3 k4 kA kB
      have k5:=k4.kind.trans hs
      refine wpS_bind (elem_wp (l:=b) (i:=jb - 1) (by omega) (wpS_bind (elem_wp (l:=a) (i:=ja - 1) (by omega) (wpS_bind (ask_wp K k5 (bIn (jb - 1) (by omega)) (aIn (ja - 1) (by omega)) ?_)))))
      refine wpS_ite (fun e=>?_) fun e=>?_
      · refine wpS_bind (elem_wp (l:=a) (i:=ja - 1) (by omega) ?_)
        have M3:=Hi.pushA M2 k1 kA (K.behind B.lb B.sb (aIn (ja - 1) (by omega)) kB fun _=>e)
        refine wpS_ite (fun d1=>wpS_pure ⟨k4,.inl ⟨_,(by simp only [T_push,T_manyH,T_doneH]),M3.done (isn d1)⟩⟩) fun d1=>?_
        have d1:ja - 1≠0:=isnt d1
        exact wpS_ite (fun _=>wpS_pure ⟨k4,.inr ⟨rfl,_,T_push,M3,by dsimp only; omega,k2,by dsimp only; omega,kB,by dsimp only; omega⟩⟩) fun _=>wpS_pure ⟨rfl,_,T_push,M3,by dsimp only; omega,k2,by dsimp only; omega,kB,by dsimp only; omega,k4⟩
      · refine wpS_bind (elem_wp (l:=b) (i:=jb - 1) (by omega) ?_)
        have M3:=Hi.pushB M2 (by omega) kB (K.behind B.la B.sa (bIn (jb - 1) (by omega)) kA fun _=>K.tot _ _ (bIn (jb - 1) (by omega)) (aIn (ja - 1) (by omega)) (Ne.symm (neAB (ja - 1) (jb - 1) (by omega) (by omega))) (by simpa using e))
        refine wpS_ite (fun d1=>wpS_pure ⟨k4,.inl ⟨_,(by simp only [T_push,T_manyH,T_doneH]),M3.first (isn d1) pb hd⟩⟩) fun d1=>?_
        have d1:jb - 1≠1:=isnt d1
        exact wpS_ite (fun _=>wpS_pure ⟨k4,.inr ⟨rfl,_,T_push,M3,k1,by dsimp only; omega,kA,by dsimp only; omega,by dsimp only; omega⟩⟩) fun _=>wpS_pure ⟨rfl,_,T_push,M3,k1,by dsimp only; omega,kA,by dsimp only; omega,by dsimp only; omega,k4⟩
    · rintro ⟨r,ja,jb,out,ac,bc⟩ st2 ⟨rfl,o2,rfl,M2,k1,k2,kA,kB,k3,k4⟩
      rw [T_size,T_size] at k3
      dsimp only at k3
      exact ⟨k4,.inr ⟨rfl,o2,rfl,M2,k1,k2,kA,kB,by dsimp only; omega⟩⟩
    · rintro ⟨r,ja,jb,out,ac,bc⟩ st2 ⟨k4,(⟨r',e,F⟩ | ⟨rfl,o2,rfl,M2,k1,k2,kA,kB,k3⟩)⟩
      · dsimp only at e
        subst e
        exact wpS_pure ⟨_,rfl,F,k4⟩
      · dsimp only at M2 k1 k2 k3 kA kB
        refine wpS_bind (wpS_lift (wpAny_rule ⟨rfl,?_⟩))
        refine wpS_bind (wpS_mono (wpS_forRange (I:=fun _ (c:Option (Array Keyed)×Nat×Nat×Array Keyed×Nat×Nat×Nat) st'=>c.1=none∧∃ o,c.2.2.2.1=T f o∧Hi lt (a++b) o a b c.2.1 c.2.2.1∧0 < c.2.1∧1 < c.2.2.1∧c.2.1≤a.length∧c.2.2.1≤b.length∧c.2.1 + c.2.2.1 + 1≤ia + ib∧Fr st st')
          (Q:=fun c st'=>Fr st st'∧((∃ r,c.1=some (T f r)∧Fine lt (a++b) r)∨(c.1=none∧∃ o,c.2.2.2.1=T f o∧Hi lt (a++b) o a b c.2.1 c.2.2.1∧0 < c.2.1∧1 < c.2.2.1∧c.2.1≤a.length∧c.2.2.1≤b.length∧c.2.1 + c.2.2.1 + 1≤ia + ib))) ?_ ?_ ⟨rfl,o2,rfl,M2,k1,k2,kA,kB,k3,k4⟩) ?_)
        · clear M2 k1 k2 k3 k4 kA kB
          rintro y ⟨r,ja,jb,out,mg2,ac,bc⟩ st3 _ hy ⟨rfl,o2,rfl,M2,k1,k2,kA,kB,k3,k4⟩
          dsimp only at M2 k1 k2 k3 k4 kA kB
          have k6:=fun g=>(k4.step g).kind.trans hs
          refine wpS_ite (fun _=>?_) fun _=>?_
          all_goals
            refine wpS_bind (wpS_modify ?_)
            refine wpS_bind (elem_wp (l:=b) (i:=jb - 1) (by omega) ?_)
            refine wpS_bind (gallopR (base:=0) (m:=ja) (hint:=ja - 1) K (k6 _) B.la (Ord.seg B.sa _ _) (bIn (jb - 1) (by omega)) (by omega) (fun i hi _ _=>neAB i (jb - 1) hi (by omega)) fun v v1 v2 v3=>?_)
            have loA:∀ i (h1:i < a.length),i < v→lt a[i] b[jb - 1]=true:=fun i h1 h2=>v2 i h1 (by omega) (by omega)
            refine wpS_ite (fun (v0:ja - v > 0)=>?_) fun (v0:¬ ja - v > 0)=>?_
            · have M4:=Hi.manyA M2 v v1 fun i hi i1 i2=>K.behind B.lb B.sb (aIn _ hi) (by omega) fun _=>v3 i hi (by omega) (by omega)
              refine wpS_ite (fun d1=>wpS_pure ⟨k4.step _,.inl ⟨_,(by simp only [T_push,T_manyH,T_doneH]),M4.done (isn d1)⟩⟩) fun d1=>?_
              have d1:v≠0:=isnt d1
              refine wpS_bind (elem_wp (l:=b) (i:=jb - 1) (by omega) ?_)
              have M5:=Hi.pushB M4 (by omega) (by omega) (K.behind B.la B.sa (bIn (jb - 1) (by omega)) (by omega) fun _=>loA (v - 1) (by omega) (by omega))
              refine wpS_ite (fun d2=>wpS_pure ⟨k4.step _,.inl ⟨_,(by simp only [T_push,T_manyH,T_doneH]),M5.first (isn d2) pb hd⟩⟩) fun d2=>?_
              have d2:jb - 1≠1:=isnt d2
              refine wpS_bind (elem_wp (l:=a) (i:=v - 1) (by omega) ?_)
              refine wpS_bind (gallopL (base:=0) (m:=jb - 1) (hint:=jb - 1 - 1) K (k6 _) B.lb (Ord.seg B.sb _ _) (aIn (v - 1) (by omega)) (by omega) fun u u1 u2 u3=>?_)
              have dn:∀ i (h1:i < b.length),i < u→lt b[i] a[v - 1]=true:=fun i h1 h2=>u2 i h1 (by omega) (by omega)
              have u4:0 < u:=by
                rcases Nat.eq_zero_or_pos u with z | z
                · have e1:=u3 0 pb (by omega) (by omega)
                  rw [hd a[v - 1] (List.getElem_mem _)] at e1
                  exact absurd e1 (by decide)
                · exact z
              refine wpS_ite (fun (u0:jb - 1 - u > 0)=>?_) fun (u0:¬ jb - 1 - u > 0)=>?_
              · have M6:=Hi.manyB M5 u (by omega) fun i hi i1 i2=>K.behind B.la B.sa (bIn _ hi) (by omega) fun _=>K.tot _ _ (bIn _ hi) (aIn _ (by omega)) (Ne.symm (neAB _ _ (by omega) hi)) (u3 i hi (by omega) (by omega))
                refine wpS_ite (fun d4=>wpS_pure ⟨k4.step _,.inl ⟨_,(by simp only [T_push,T_manyH,T_doneH]),M6.first (isn d4) pb hd⟩⟩) fun d4=>?_
                have d4:u≠1:=isnt d4
                refine wpS_ite (fun d5=>absurd (isn d5:u=0) (by omega)) fun _=>?_
                refine wpS_bind (elem_wp (l:=a) (i:=v - 1) (by omega) ?_)
                have M7:=Hi.pushA M6 (by omega) (by omega) (K.behind B.lb B.sb (aIn (v - 1) (by omega)) (by omega) fun _=>dn (u - 1) (by omega) (by omega))
                refine wpS_ite (fun d3=>wpS_pure ⟨k4.step _,.inl ⟨_,(by simp only [T_push,T_manyH,T_doneH]),M7.done (isn d3)⟩⟩) fun d3=>?_
                have d3:v - 1≠0:=isnt d3
                exact wpS_ite (fun _=>wpS_pure ⟨k4.step _,.inr ⟨rfl,_,(by simp only [T_push,T_manyH,T_doneH]),M7,by dsimp only; omega,by dsimp only; omega,by dsimp only; omega,by dsimp only; omega,by dsimp only; omega⟩⟩) fun _=>wpS_pure ⟨rfl,_,(by simp only [T_push,T_manyH,T_doneH]),M7,by dsimp only; omega,by dsimp only; omega,by dsimp only; omega,by dsimp only; omega,by dsimp only; omega,k4.step _⟩
              · have u5:u=jb - 1:=by omega
                subst u5
                refine wpS_bind (elem_wp (l:=a) (i:=v - 1) (by omega) ?_)
                have M7:=Hi.pushA M5 (by omega) (by omega) (K.behind B.lb B.sb (aIn (v - 1) (by omega)) (by omega) fun _=>dn (jb - 1 - 1) (by omega) (by omega))
                refine wpS_ite (fun d3=>wpS_pure ⟨k4.step _,.inl ⟨_,(by simp only [T_push,T_manyH,T_doneH]),M7.done (isn d3)⟩⟩) fun d3=>?_
                have d3:v - 1≠0:=isnt d3
                exact wpS_ite (fun _=>wpS_pure ⟨k4.step _,.inr ⟨rfl,_,(by simp only [T_push,T_manyH,T_doneH]),M7,by dsimp only; omega,by dsimp only; omega,by dsimp only; omega,by dsimp only; omega,by dsimp only; omega⟩⟩) fun _=>wpS_pure ⟨rfl,_,(by simp only [T_push,T_manyH,T_doneH]),M7,by dsimp only; omega,by dsimp only; omega,by dsimp only; omega,by dsimp only; omega,by dsimp only; omega,k4.step _⟩
            · have v5:v=ja:=by omega
              subst v5
              refine wpS_bind (elem_wp (l:=b) (i:=jb - 1) (by omega) ?_)
              have M5:=Hi.pushB M2 (by omega) (by omega) (K.behind B.la B.sa (bIn (jb - 1) (by omega)) (by omega) fun _=>loA (v - 1) (by omega) (by omega))
              refine wpS_ite (fun d2=>wpS_pure ⟨k4.step _,.inl ⟨_,(by simp only [T_push,T_manyH,T_doneH]),M5.first (isn d2) pb hd⟩⟩) fun d2=>?_
              have d2:jb - 1≠1:=isnt d2
              refine wpS_bind (elem_wp (l:=a) (i:=v - 1) (by omega) ?_)
              refine wpS_bind (gallopL (base:=0) (m:=jb - 1) (hint:=jb - 1 - 1) K (k6 _) B.lb (Ord.seg B.sb _ _) (aIn (v - 1) (by omega)) (by omega) fun u u1 u2 u3=>?_)
              have dn:∀ i (h1:i < b.length),i < u→lt b[i] a[v - 1]=true:=fun i h1 h2=>u2 i h1 (by omega) (by omega)
              have u4:0 < u:=by
                rcases Nat.eq_zero_or_pos u with z | z
                · have e1:=u3 0 pb (by omega) (by omega)
                  rw [hd a[v - 1] (List.getElem_mem _)] at e1
                  exact absurd e1 (by decide)
                · exact z
              refine wpS_ite (fun (u0:jb - 1 - u > 0)=>?_) fun (u0:¬ jb - 1 - u > 0)=>?_
              · have M6:=Hi.manyB M5 u (by omega) fun i hi i1 i2=>K.behind B.la B.sa (bIn _ hi) (by omega) fun _=>K.tot _ _ (bIn _ hi) (aIn _ (by omega)) (Ne.symm (neAB _ _ (by omega) hi)) (u3 i hi (by omega) (by omega))
                refine wpS_ite (fun d4=>wpS_pure ⟨k4.step _,.inl ⟨_,(by simp only [T_push,T_manyH,T_doneH]),M6.first (isn d4) pb hd⟩⟩) fun d4=>?_
                have d4:u≠1:=isnt d4
                refine wpS_ite (fun d5=>absurd (isn d5:u=0) (by omega)) fun _=>?_
                refine wpS_bind (elem_wp (l:=a) (i:=v - 1) (by omega) ?_)
                have M7:=Hi.pushA M6 (by omega) (by omega) (K.behind B.lb B.sb (aIn (v - 1) (by omega)) (by omega) fun _=>dn (u - 1) (by omega) (by omega))
                refine wpS_ite (fun d3=>wpS_pure ⟨k4.step _,.inl ⟨_,(by simp only [T_push,T_manyH,T_doneH]),M7.done (isn d3)⟩⟩) fun d3=>?_
                have d3:v - 1≠0:=isnt d3
                exact wpS_ite (fun _=>wpS_pure ⟨k4.step _,.inr ⟨rfl,_,(by simp only [T_push,T_manyH,T_doneH]),M7,by dsimp only; omega,by dsimp only; omega,by dsimp only; omega,by dsimp only; omega,by dsimp only; omega⟩⟩) fun _=>wpS_pure ⟨rfl,_,(by simp only [T_push,T_manyH,T_doneH]),M7,by dsimp only; omega,by dsimp only; omega,by dsimp only; omega,by dsimp only; omega,by dsimp only; omega,k4.step _⟩
              · have u5:u=jb - 1:=by omega
                subst u5
                refine wpS_bind (elem_wp (l:=a) (i:=v - 1) (by omega) ?_)
                have M7:=Hi.pushA M5 (by omega) (by omega) (K.behind B.lb B.sb (aIn (v - 1) (by omega)) (by omega) fun _=>dn (jb - 1 - 1) (by omega) (by omega))
                refine wpS_ite (fun d3=>wpS_pure ⟨k4.step _,.inl ⟨_,(by simp only [T_push,T_manyH,T_doneH]),M7.done (isn d3)⟩⟩) fun d3=>?_
                have d3:v - 1≠0:=isnt d3
                exact wpS_ite (fun _=>wpS_pure ⟨k4.step _,.inr ⟨rfl,_,(by simp only [T_push,T_manyH,T_doneH]),M7,by dsimp only; omega,by dsimp only; omega,by dsimp only; omega,by dsimp only; omega,by dsimp only; omega⟩⟩) fun _=>wpS_pure ⟨rfl,_,(by simp only [T_push,T_manyH,T_doneH]),M7,by dsimp only; omega,by dsimp only; omega,by dsimp only; omega,by dsimp only; omega,by dsimp only; omega,k4.step _⟩
        · rintro ⟨r,ja,jb,out,mg2,ac,bc⟩ st3 ⟨rfl,o2,rfl,M2,k1,k2,kA,kB,k3,k4⟩
          exact ⟨k4,.inr ⟨rfl,o2,rfl,M2,k1,k2,kA,kB,k3⟩⟩
        · rintro ⟨r,ja,jb,out,mg2,ac,bc⟩ st3 ⟨k4,(⟨r',e,F⟩ | ⟨rfl,o2,rfl,M2,k1,k2,kA,kB,k3⟩)⟩
          · dsimp only at e
            subst e
            exact wpS_pure ⟨_,rfl,F,k4⟩
          · refine wpS_bind (wpS_modify (wpS_pure ⟨rfl,o2,rfl,M2,k1,k2,kA,kB,?_,k4.step _⟩))
            dsimp only at k3 ⊢
            omega
  · rintro ⟨r,ia,ib,out,mg⟩ st1 ⟨rfl,o,rfl,M,g1,g2,gA,gB,g3,g4⟩
    rw [T_size,T_size] at g3
    dsimp only at g1 g2 g3
    omega
  · refine ⟨rfl,_,T_one,?_,?_,?_,?_,?_,?_,Fr.refl _⟩
    · dsimp only
      rw [sz,zb]
      exact M0
    all_goals (dsimp only; omega)
  · rintro ⟨r,ia,ib,out,mg⟩ st1 ⟨r',e,F,g4⟩
    dsimp only at e
    subst e
    exact wpS_pure (h _ _ F g4)
end
end FhM
namespace FhM
open PySem PyProof.Rows
abbrev ltAtP:Nat→Nat→StateT SortSt Sem (Option Bool):=sortPriv% PySem.Builtin.ltAt
abbrev countP:Nat→Nat→StateT SortSt Sem (Option Nat):=sortPriv% PySem.Builtin.countRun
abbrev binP:Nat→Nat→Nat→StateT SortSt Sem Bool:=sortPriv% PySem.Builtin.binarySort
abbrev revP:Nat→Nat→StateT SortSt Sem Unit:=sortPriv% PySem.Builtin.reverseSlice
abbrev moveP:Nat→Nat→StateT SortSt Sem Unit:=sortPriv% PySem.Builtin.moveDown
section
theorem swap_T {α β:Type} (f:α→β) (xs:Array α) (i j:Nat):(xs.map f).swapIfInBounds i j=(xs.swapIfInBounds i j).map f:=by
  by_cases h:i < xs.size∧j < xs.size
  · refine Array.ext_getElem? fun k=>?_
    rw [getElem?_swapIB (by rw [Array.size_map]; exact h.1) (by rw [Array.size_map]; exact h.2),Array.getElem?_map,Array.getElem?_map,Array.getElem?_map,Array.getElem?_map,getElem?_swapIB h.1 h.2]
    repeat' split
    all_goals rfl
  · have:∀ {γ:Type} (ys:Array γ),ys.size=xs.size→ys.swapIfInBounds i j=ys:=fun ys e=>by
      rw [Array.swapIfInBounds_def]
      by_cases h1:i < ys.size
      · rw [dif_pos h1,dif_neg fun h2=>h ⟨by omega,by omega⟩]
      · rw [dif_neg h1]
    rw [this _ (Array.size_map ..),this _ rfl]
theorem mirror_T {f:Nat→Keyed} {l:List Nat} (i j d:Nat):mirror (T f l) i j d=T f (mirror l.toArray i j d).toList:=by
  have e:∀ xs:Array Nat,mirror (xs.map f) i j d=(mirror xs i j d).map f:=fun xs=>by
    induction d with
    | zero=>rfl
    | succ d ih=>rw [mirror_succ,mirror_succ,ih,swap_T]
  unfold T
  rw [← List.map_toArray,e,← List.map_toArray,Array.toArray_toList]
theorem bubble_T {f:Nat→Keyed} {l:List Nat} (i d:Nat):bubble (T f l) i d=T f (bubble l.toArray i d).toList:=by
  have e:∀ xs:Array Nat,bubble (xs.map f) i d=(bubble xs i d).map f:=fun xs=>by
    induction d with
    | zero=>rfl
    | succ d ih=>rw [bubble_succ,bubble_succ,ih,swap_T]
  unfold T
  rw [← List.map_toArray,e,← List.map_toArray,Array.toArray_toList]
end
structure Beh (lo:Nat) (l l':List Nat):Prop where
  pm:l'.Perm l
  fr:∀ i,i < lo→l'[i]?=l[i]?
theorem Beh.refl (lo:Nat) (l:List Nat):Beh lo l l:=⟨List.Perm.refl _,fun _ _=>rfl⟩
theorem Beh.trans {lo:Nat} {l l' l'':List Nat} (h:Beh lo l l') (h':Beh lo l' l''):Beh lo l l'':=⟨h'.pm.trans h.pm,fun i hi=>(h'.fr i hi).trans (h.fr i hi)⟩
theorem Beh.len {lo:Nat} {l l':List Nat} (h:Beh lo l l'):l'.length=l.length:=h.pm.length_eq
theorem Beh.all {lo n:Nat} {l l':List Nat} (h:Beh lo l l') (a:∀ x∈l,x < n):∀ x∈l',x < n:=fun x hx=>a x (h.pm.mem_iff.mp hx)
theorem Beh.nd {lo:Nat} {l l':List Nat} (h:Beh lo l l') (a:l.Nodup):l'.Nodup:=h.pm.nodup_iff.mpr a
section
variable {lt:Nat→Nat→Bool} {l:List Nat}
theorem mirror_get {i j:Nat} (hj:j≤l.length) (k:Nat):(mirror l.toArray i j ((j - i) / 2)).toList[k]?=if i≤k∧k < j then l[i + j - 1 - k]? else l[k]?:=by
  have:=getElem?_mirror_all (xs:=l.toArray) (i:=i) (j:=j) (by simpa using hj) k
  simpa using this
theorem mirror_beh {i j:Nat} (hj:j≤l.length):Beh i l (mirror l.toArray i j ((j - i) / 2)).toList :=
  ⟨Array.perm_iff_toList_perm.mp (mirror_perm _ _ _ _),fun k hk=>by rw [mirror_get hj,if_neg (by omega)]⟩
theorem bubble_get {src d:Nat} (hs:src < l.length) (hd:d≤src) (k:Nat):(bubble l.toArray src d).toList[k]?=if k=src - d then l[src]? else if src - d < k∧k≤src then l[k - 1]? else l[k]?:=by
  have:=getElem?_bubble (xs:=l.toArray) (src:=src) (by simpa using hs) d hd k
  simpa using this
theorem bubble_beh {src d lo:Nat} (hs:src < l.length) (hd:d + lo≤src):Beh lo l (bubble l.toArray src d).toList :=
  ⟨Array.perm_iff_toList_perm.mp (bubble_perm _ _ _),fun k hk=>by rw [bubble_get hs (by omega),if_neg (by omega),if_neg (by omega)]⟩
theorem getE {l l':List Nat} {i j:Nat} (hi:i < l.length) (hj:j < l'.length) (e:l[i]?=l'[j]?):l[i]=l'[j]:=by
  rw [List.getElem?_eq_getElem hi,List.getElem?_eq_getElem hj] at e
  exact Option.some.inj e
theorem mirror_seg {i j:Nat} (hj:j≤l.length) (d:∀ x y (hx:x < l.length) (hy:y < l.length),i≤x→x < y→y < j→lt l[y] l[x]=true):Seg lt (mirror l.toArray i j ((j - i) / 2)).toList i j:=by
  intro x y hx hy h1 h2 h3
  have ex:=mirror_get (i:=i) hj x
  have ey:=mirror_get (i:=i) hj y
  rw [if_pos (by omega)] at ex ey
  rw [getE hx (by omega) ex,getE hy (by omega) ey]
  exact d _ _ (by omega) (by omega) (by omega) (by omega) (by omega)
end
section
variable {prog:Program} {w:World} {A:Around} {E:Value→Shared→Prop} {s:Shared} {κ:SortKind} {f:Nat→Keyed} {lt:Nat→Nat→Bool} {n:Nat}
structure Num (n:Nat) (l:List Nat):Prop where
  len:l.length=n
  all:∀ x∈l,x < n
  nd:l.Nodup
theorem Num.beh {lo:Nat} {l l':List Nat} (h:Num n l) (b:Beh lo l l'):Num n l':=⟨b.len.trans h.len,b.all h.all,b.nd h.nd⟩
theorem Num.bd {l:List Nat} (h:Num n l) {i:Nat} (hi:i < l.length):l[i] < n:=h.all _ (List.getElem_mem _)
theorem Num.ne {l:List Nat} (h:Num n l) {i j:Nat} (hi:i < l.length) (hj:j < l.length) (hij:i≠j):l[i]≠l[j]:=fun e=>hij ((List.getElem_inj h.nd).mp e)
theorem Ans.other (K:Ans prog w A s κ f lt n) {l:List Nat} (h:Num n l) {i j:Nat} (hi:i < l.length) (hj:j < l.length) (hij:i≠j) (e:lt l[i] l[j]=false):lt l[j] l[i]=true:=K.tot _ _ (h.bd hi) (h.bd hj) (h.ne hi hj hij) e
def St (κ:SortKind) (f:Nat→Keyed) (l:List Nat) (pend:Array (Nat×Nat×Nat)) (g:Nat):SortSt:=SortSt.mk' κ (T f l) pend g none
theorem at_wp (K:Ans prog w A s κ f lt n) {l:List Nat} (h:Num n l) {pend:Array (Nat×Nat×Nat)} {g i j:Nat} {Q:Option Bool→SortSt→Prop} (hi:i < l.length) (hj:j < l.length) (q:Q (some (lt l[i] l[j])) (St κ f l pend g)) :
    wpS (model prog w) A E s (ltAtP i j) Q (St κ f l pend g) :=
  wpS_bind (wpS_get (wpS_bind (elem_wp (l:=l) hi (wpS_bind (elem_wp (l:=l) hj (ask_wp K rfl (h.bd hi) (h.bd hj) q))))))
theorem rev_wp {l:List Nat} {pend:Array (Nat×Nat×Nat)} {g i j:Nat} {Q:Unit→SortSt→Prop} (q:Q () (St κ f (mirror l.toArray i j ((j - i) / 2)).toList pend g)):wpS (model prog w) A E s (revP i j) Q (St κ f l pend g):=by
  refine wpS_modify ?_
  have e:=mirror_T (f:=f) (l:=l) i j ((j - i) / 2)
  unfold St at q
  rw [← e] at q
  exact q
theorem move_wp {l:List Nat} {pend:Array (Nat×Nat×Nat)} {g i j:Nat} {Q:Unit→SortSt→Prop} (q:Q () (St κ f (bubble l.toArray i (i - j)).toList pend g)):wpS (model prog w) A E s (moveP i j) Q (St κ f l pend g):=by
  refine wpS_modify ?_
  have e:=bubble_T (f:=f) (l:=l) i (i - j)
  unfold St at q
  rw [← e] at q
  exact q
theorem Seg.snoc (K:Ans prog w A s κ f lt n) {l:List Nat} (h:Num n l) {i j:Nat} (u:Seg lt l i j) (hij:i < j) (hj:j < l.length) (e:lt l[j - 1] l[j]=true):Seg lt l i (j + 1):=by
  intro x y hx hy h1 h2 h3
  by_cases c:y=j
  · subst c
    by_cases d:x=y - 1
    · subst d; exact e
    · exact K.tr _ _ _ (h.bd hx) (h.bd (by omega)) (h.bd hy) (u x (y - 1) hx (by omega) h1 (by omega) (by omega)) e
  · exact u x y hx hy h1 h2 (by omega)
theorem up_wp (K:Ans prog w A s κ f lt n) {l:List Nat} (h:Num n l) {pend:Array (Nat×Nat×Nat)} {g lo m nrem:Nat} (h1:1≤m) (hm:m≤nrem) (hn:lo + nrem≤l.length) (u:Seg lt l lo (lo + m)) {Q:Option (Option Nat)×Nat→SortSt→Prop}
    (q:∀ k,m≤k→k≤nrem→Seg lt l lo (lo + k)→(k=nrem∨∃ (h1:lo + k < l.length),lt l[lo + k] l[lo + k - 1]=true)→Q (none,k) (St κ f l pend g)) :
    wpS (model prog w) A E s (forIn [m:nrem] ((none,m):Option (Option Nat)×Nat) fun _ c=>ltAtP (lo + c.2) (lo + c.2 - 1) >>= fun z=>match z with
      | some b=>if b=true then pure (ForInStep.done (none,c.2)) else pure (ForInStep.yield (none,c.2 + 1))
      | _=>pure (ForInStep.done (some none,c.2))) Q (St κ f l pend g):=by
  refine wpS_forRange (I:=fun x (c:Option (Option Nat)×Nat) st=>c=(none,x)∧st=St κ f l pend g∧Seg lt l lo (lo + x)) ?_ ?_ ⟨rfl,rfl,u⟩
  · rintro x c st hx1 hx2 ⟨rfl,rfl,u⟩
    refine wpS_bind (at_wp K h (i:=lo + x) (j:=lo + x - 1) (by omega) (by omega) (wpS_ite (fun e=>wpS_pure (q x hx1 (by omega) u (.inr ⟨by omega,e⟩))) fun e=>wpS_pure ⟨rfl,rfl,?_⟩))
    exact Seg.snoc (j:=lo + x) K h u (by omega) (by omega) (K.other h (i:=lo + x) (j:=lo + x - 1) (by omega) (by omega) (by omega) (by simpa using e))
  · rintro c st ⟨rfl,rfl,u⟩
    rw [Nat.max_eq_right hm] at u ⊢
    exact q nrem hm (Nat.le_refl _) u (.inl rfl)
theorem count_wp (K:Ans prog w A s κ f lt n) {l:List Nat} (h:Num n l) {pend:Array (Nat×Nat×Nat)} {g lo nrem:Nat} (h1:1≤nrem) (hn:lo + nrem≤l.length) {Q:Option Nat→SortSt→Prop}
    (q:∀ k l',1≤k→k≤nrem→Beh lo l l'→Seg lt l' lo (lo + k)→Q (some k) (St κ f l' pend g)):wpS (model prog w) A E s (countP lo nrem) Q (St κ f l pend g):=by
  refine wpS_bind (up_wp K h (Nat.le_refl 1) h1 hn (fun x y hx hy a b c=>by omega) fun k k1 k2 u e=>?_)
  refine wpS_ite (fun c=>wpS_pure (q k l k1 k2 (Beh.refl _ _) u)) fun c=>?_
  have c:k≠nrem:=isnt c
  refine wpS_ite (fun (d:k > 1)=>?_) fun (d:¬ k > 1)=>?_
  · refine wpS_bind (at_wp K h (i:=lo) (j:=lo + k - 1) (by omega) (by omega) (wpS_ite (fun _=>wpS_pure (q k l k1 k2 (Beh.refl _ _) u)) fun e2=>?_))
    exact absurd (u lo (lo + k - 1) (by omega) (by omega) (by omega) (by omega) (by omega)) e2
  · obtain rfl:k=1:=by omega
    obtain ⟨hl,e⟩:=e.resolve_left c
    refine wpS_bind (wpS_lift (wpAny_rule ⟨rfl,?_⟩))
    refine wpS_bind (wpS_mono (wpS_forRange (I:=fun x (c:Option (Option Nat)×Nat×Nat) st=>c=(none,x,0)∧st=St κ f l pend g∧∀ a b (ha:a < l.length) (hb:b < l.length),lo≤a→a < b→b < lo + x→lt l[b] l[a]=true)
      (Q:=fun c st=>∃ x,c=(none,x,0)∧2≤x∧x≤nrem∧st=St κ f l pend g∧∀ a b (ha:a < l.length) (hb:b < l.length),lo≤a→a < b→b < lo + x→lt l[b] l[a]=true) ?_ ?_ ⟨rfl,rfl,fun a b ha hb c1 c2 c3=>?_⟩) ?_)
    · rintro x c st hx1 hx2 ⟨rfl,rfl,dn⟩
      refine wpS_bind (at_wp K h (i:=lo + x) (j:=lo + x - 1) (by omega) (by omega) (wpS_ite (fun e=>?_) fun e=>?_))
      · refine wpS_ite (fun (z:0 > 0)=>absurd z (by decide)) fun _=>wpS_pure ⟨rfl,rfl,fun a b ha hb c1 c2 c3=>?_⟩
        by_cases c4:b=lo + x
        · subst c4
          by_cases c5:a=lo + x - 1
          · subst c5; exact e
          · exact K.tr _ _ _ (h.bd hb) (h.bd (i:=lo + x - 1) (by omega)) (h.bd ha) e (dn a (lo + x - 1) ha (by omega) c1 (by omega) (by omega))
        · exact dn a b ha hb c1 c2 (by omega)
      · refine wpS_bind (at_wp K h (i:=lo + x - 1) (j:=lo + x) (by omega) (by omega) (wpS_ite (fun _=>wpS_pure ⟨x,rfl,hx1,by omega,rfl,dn⟩) fun e2=>?_))
        exact absurd (K.other h (i:=lo + x) (j:=lo + x - 1) (by omega) (by omega) (by omega) (by simpa using e)) e2
    · rintro c st ⟨rfl,rfl,dn⟩
      exact ⟨_,rfl,by omega,by omega,rfl,dn⟩
    · obtain rfl:a=lo:=by omega
      obtain rfl:b=a + 1:=by omega
      exact e
    · rintro c st ⟨x,rfl,x1,x2,rfl,dn⟩
      refine wpS_ite (fun (z:0 > 0)=>absurd z (by decide)) fun _=>?_
      refine wpS_bind (rev_wp (i:=lo) (j:=lo + x) ?_)
      have B:=mirror_beh (l:=l) (i:=lo) (j:=lo + x) (by omega)
      exact wpS_bind (up_wp K (h.beh B) (m:=x) (by omega) x2 (by rw [B.len]; omega) (mirror_seg (by omega) dn) fun k k1 k2 u _=>wpS_pure (q k _ (by omega) k2 B u))
theorem bin_wp (K:Ans prog w A s κ f lt n) {l:List Nat} (h:Num n l) {pend:Array (Nat×Nat×Nat)} {g lo m ok:Nat} (h1:1≤ok) (hm:ok≤m) (hn:lo + m≤l.length) (u:Seg lt l lo (lo + ok)) {Q:Bool→SortSt→Prop}
    (q:∀ l',Beh lo l l'→Seg lt l' lo (lo + m)→Q true (St κ f l' pend g)):wpS (model prog w) A E s (binP lo m ok) Q (St κ f l pend g):=by
  refine wpS_bind (wpS_mono (wpS_forRange (I:=fun k (c:Option Bool×Unit) st=>c=(none,())∧∃ l',Beh lo l l'∧Seg lt l' lo (lo + k)∧st=St κ f l' pend g) (Q:=fun c st=>c=(none,())∧∃ l',Beh lo l l'∧Seg lt l' lo (lo + m)∧st=St κ f l' pend g) ?_ ?_ ⟨rfl,l,Beh.refl _ _,by rw [Nat.max_eq_left h1]; exact u,rfl⟩) ?_)
  · rintro k c st hk1 hk2 ⟨rfl,l',B,u,rfl⟩
    have h':=h.beh B
    have len:=B.len
    refine wpS_bind (wpS_mono (wpS_forRange (I:=fun x (c:Option Bool×Nat×Nat) st=>c.1=none∧st=St κ f l' pend g∧c.2.1≤c.2.2∧c.2.2≤k∧c.2.2 - c.2.1≤k - x∧(∀ i (hi:lo + i < l'.length) (hk:lo + k < l'.length),i < c.2.1→lt l'[lo + i] l'[lo + k]=true)∧(∀ i (hi:lo + i < l'.length) (hk:lo + k < l'.length),c.2.2≤i→i < k→lt l'[lo + k] l'[lo + i]=true))
      (Q:=fun c st=>c.1=none∧st=St κ f l' pend g∧c.2.1≤k∧(∀ i (hi:lo + i < l'.length) (hk:lo + k < l'.length),i < c.2.1→lt l'[lo + i] l'[lo + k]=true)∧(∀ i (hi:lo + i < l'.length) (hk:lo + k < l'.length),c.2.1≤i→i < k→lt l'[lo + k] l'[lo + i]=true)) ?_ ?_ ?_) ?_)
    · rintro x ⟨r,lf,rt⟩ st _ hx ⟨rfl,rfl,g1,g2,g3,g4,g5⟩
      dsimp only at g1 g2 g3 g4 g5
      refine wpS_ite (fun (c:lf ≥ rt)=>wpS_pure ⟨rfl,rfl,by dsimp only; omega,g4,fun i hi hk a b=>g5 i hi hk (by dsimp only at a; omega) b⟩) fun (c:¬ lf ≥ rt)=>?_
      refine wpS_bind (at_wp K h' (i:=lo + k) (j:=lo + (lf + rt) / 2) (by omega) (by omega) (wpS_ite (fun e=>?_) fun e=>?_))
      · refine wpS_pure ⟨rfl,rfl,by dsimp only; omega,by dsimp only; omega,by dsimp only; omega,g4,fun i hi hk a b=>?_⟩
        dsimp only at a
        by_cases z:i=(lf + rt) / 2
        · subst z; exact e
        · exact K.tr _ _ _ (h'.bd hk) (h'.bd (i:=lo + (lf + rt) / 2) (by omega)) (h'.bd hi) e (u _ _ (by omega) hi (by omega) (by omega) (by omega))
      · have e':=K.other h' (i:=lo + k) (j:=lo + (lf + rt) / 2) (by omega) (by omega) (by omega) (by simpa using e)
        refine wpS_pure ⟨rfl,rfl,by dsimp only; omega,by dsimp only; omega,by dsimp only; omega,fun i hi hk a=>?_,g5⟩
        dsimp only at a
        by_cases z:i=(lf + rt) / 2
        · subst z; exact e'
        · exact K.tr _ _ _ (h'.bd hi) (h'.bd (i:=lo + (lf + rt) / 2) (by omega)) (h'.bd hk) (u _ _ hi (by omega) (by omega) (by omega) (by omega)) e'
    · rintro ⟨r,lf,rt⟩ st ⟨rfl,rfl,g1,g2,g3,g4,g5⟩
      dsimp only at g1 g2 g3 g4 g5
      exact ⟨rfl,rfl,by dsimp only; omega,g4,fun i hi hk a b=>g5 i hi hk (by dsimp only at a; omega) b⟩
    · exact ⟨rfl,rfl,Nat.zero_le _,Nat.le_refl _,by dsimp only; omega,fun i hi hk a=>absurd a (Nat.not_lt_zero _),fun i hi hk a b=>by dsimp only at a; omega⟩
    · rintro ⟨r,lf,rt⟩ st ⟨rfl,rfl,g1,g4,g5⟩
      dsimp only at g1 g4 g5
      refine wpS_bind (move_wp (i:=lo + k) (j:=lo + lf) (wpS_pure ⟨rfl,_,B.trans (bubble_beh (by omega) (by omega)),?_,rfl⟩))
      intro x y hx hy h1 h2 h3
      have ex:=bubble_get (l:=l') (src:=lo + k) (d:=lo + k - (lo + lf)) (by omega) (by omega) x
      have ey:=bubble_get (l:=l') (src:=lo + k) (d:=lo + k - (lo + lf)) (by omega) (by omega) y
      rw [show lo + k - (lo + k - (lo + lf))=lo + lf by omega] at ex ey
      have bx:(bubble l'.toArray (lo + k) (lo + k - (lo + lf))).toList[x]=if x=lo + lf then l'[lo + k]'(by omega) else if hz:lo + lf < x then l'[x - 1]'(by omega) else l'[x]'(by omega):=by
        by_cases c1:x=lo + lf
        · rw [if_pos c1] at ex ⊢; exact getE hx (by omega) ex
        · rw [if_neg c1] at ex ⊢
          by_cases c2:lo + lf < x
          · rw [if_pos ⟨c2,by omega⟩] at ex; rw [dif_pos c2]; exact getE hx (by omega) ex
          · rw [if_neg (by omega)] at ex; rw [dif_neg c2]; exact getE hx (by omega) ex
      have by':(bubble l'.toArray (lo + k) (lo + k - (lo + lf))).toList[y]=if y=lo + lf then l'[lo + k]'(by omega) else if hz:lo + lf < y then l'[y - 1]'(by omega) else l'[y]'(by omega):=by
        by_cases c1:y=lo + lf
        · rw [if_pos c1] at ey ⊢; exact getE hy (by omega) ey
        · rw [if_neg c1] at ey ⊢
          by_cases c2:lo + lf < y
          · rw [if_pos ⟨c2,by omega⟩] at ey; rw [dif_pos c2]; exact getE hy (by omega) ey
          · rw [if_neg (by omega)] at ey; rw [dif_neg c2]; exact getE hy (by omega) ey
      rw [bx,by']
      have lows:∀ z (hz:z < l'.length),lo≤z→z < lo + lf→lt l'[z] (l'[lo + k]'(by omega))=true:=fun z hz a b=>by
        have:=g4 (z - lo) (by omega) (by omega) (by omega)
        have e:lo + (z - lo)=z:=by omega
        simpa only [e] using this
      have highs:∀ z (hz:z < l'.length),lo + lf≤z→z < lo + k→lt (l'[lo + k]'(by omega)) l'[z]=true:=fun z hz a b=>by
        have:=g5 (z - lo) (by omega) (by omega) (by omega) (by omega)
        have e:lo + (z - lo)=z:=by omega
        simpa only [e] using this
      repeat' split
      all_goals first
        | (exfalso; omega)
        | exact lows _ _ (by omega) (by omega)
        | exact highs _ _ (by omega) (by omega)
        | exact u _ _ _ _ (by omega) (by omega) (by omega)
  · rintro c st ⟨rfl,l',B,u,rfl⟩
    exact ⟨rfl,l',B,by rw [Nat.max_eq_left h1,Nat.max_eq_right hm] at u; exact u,rfl⟩
  · rintro c st ⟨rfl,l',B,u,rfl⟩
    exact wpS_pure (q l' B u)
end
end FhM
namespace FhM
open PySem PyProof.Rows
section
variable {f:Nat→Keyed} {l:List Nat}
theorem T_set {i x:Nat}:(T f l).setIfInBounds i (f x)=T f (l.set i x):=by
  unfold T; rw [List.setIfInBounds_toArray,List.map_set]
theorem put_go (k:Nat):∀ (r:List Nat) (off:Nat) (l:List Nat),k + off + r.length≤l.length →
    ((r.map f).zipIdx off).foldl (fun a (x:Keyed×Nat)=>a.setIfInBounds (k + x.2) x.1) (T f l)=T f (l.take (k + off)++r++l.drop (k + off + r.length))
  | [],off,l,h=>by simp
  | x :: r,off,l,h=>by
    rw [List.map_cons,List.zipIdx_cons,List.foldl_cons,T_set,put_go k r (off + 1) (l.set (k + off) x) (by rw [List.length_set]; simp at h; omega)]
    have hl:k + off < l.length:=by simp at h; omega
    congr 1
    have e1:(l.set (k + off) x).take (k + (off + 1))=l.take (k + off)++[x]:=by
      rw [← Nat.add_assoc,List.take_succ_eq_append_getElem (by rw [List.length_set]; exact hl),List.take_set_of_le (Nat.le_refl _),List.getElem_set_self]
    have e2:(l.set (k + off) x).drop (k + (off + 1) + r.length)=l.drop (k + off + (x :: r).length):=by
      rw [List.drop_set_of_lt (by omega)]
      congr 1
      simp; omega
    rw [e1,e2]
    simp
theorem put_T {r:List Nat} {k:Nat} (h:k + r.length≤l.length):(T f r).toList.zipIdx.foldl (fun a (x:Keyed×Nat)=>a.setIfInBounds (k + x.2) x.1) (T f l)=T f (l.take k++r++l.drop (k + r.length)):=by
  rw [T_list]
  exact put_go k r 0 l (by omega)
end
section
variable {prog:Program} {w:World} {A:Around} {E:Value→Shared→Prop} {s:Shared} {κ:SortKind} {f:Nat→Keyed} {lt:Nat→Nat→Bool} {n:Nat}
theorem one_left (x y z:Nat×Nat×Nat):(((#[x,y]:Array (Nat×Nat×Nat)).setIfInBounds 0 z).eraseIdxIfInBounds (0 + 1)).size≤1:=by simp
theorem grown (n1 pw k:Nat):((#[(0,n1,0)]:Array (Nat×Nat×Nat)).modify (1 - 1) fun x=>(x.1,x.2.1,pw)).push (n1,k,0)=#[(0,n1,pw),(n1,k,0)]:=by simp
theorem wpS_set {M:Model} {σ:Type} {st st':σ} {Q:PUnit→σ→Prop} (h:Q ⟨⟩ st'):wpS M A E s (set st':StateT σ Sem PUnit) Q st:=by
  unfold wpS; rw [StateT.run_set]; exact wpAny_pure ⟨rfl,h⟩
theorem Seg.ord {l:List Nat} (h:Seg lt l 0 l.length):Ord lt l:=List.pairwise_iff_getElem.mpr fun i j hi hj hij=>h i j hi hj (Nat.zero_le _) hij hj
theorem mem_take' {l:List Nat} {i x:Nat} (h:x∈l.take i):∃ j,∃ (hj:j < l.length),j < i∧x=l[j]:=by
  obtain ⟨j,hj,e⟩:=List.mem_iff_getElem.mp h
  rw [List.length_take] at hj
  exact ⟨j,by omega,by omega,by rw [← e]; simp⟩
theorem seg_cut {l:List Nat} {i j:Nat} (h:Seg lt l i j) (k m:Nat) (hk:i≤k) (hm:k + m≤j):Ord lt ((l.drop k).take m):=by
  refine List.pairwise_iff_getElem.mpr fun x y hx hy hxy=>?_
  rw [List.length_take,List.length_drop] at hx hy
  simp only [List.getElem_take,List.getElem_drop]
  exact h _ _ (by omega) (by omega) (by omega) (by omega) (by omega)
theorem join_wp (K:Ans prog w A s κ f lt n) {l:List Nat} (h:Num n l) {g n1 n2 pw p2:Nat} (h1:1≤n1) (h2:1≤n2) (hn:n1 + n2=n) (s1:Seg lt l 0 n1) (s2:Seg lt l n1 n) {Q:Bool→SortSt→Prop}
    (q:∀ l' pend g',l'.Perm l→Ord lt l'→pend.size≤1→Q true (St κ f l' pend g')):wpS (model prog w) A E s (mergeAtP 0) Q (St κ f l #[(0,n1,pw),(n1,n2,p2)] g):=by
  have len:=h.len
  refine wpS_bind (wpS_get ?_)
  refine wpS_bind (wpS_set ?_)
  refine wpS_bind (elem_wp (l:=l) (i:=n1) (by omega) ?_)
  have whole:(∀ (x:Nat) (hx:x < l.length) (y:Nat) (hy:y < l.length),x < n1→n1≤y→lt l[x] l[y]=true)→Ord lt l:=fun z=>List.pairwise_iff_getElem.mpr fun i j hi hj hij=>by
    by_cases c1:j < n1
    · exact s1 i j hi hj (by omega) hij c1
    · by_cases c2:i < n1
      · exact z i hi j hj c2 (by omega)
      · exact s2 i j hi hj (by omega) hij (by omega)
  refine wpS_bind (gallopR (base:=0) (m:=n1) (hint:=0) K rfl h.all (by rw [Nat.zero_add]; exact s1) (h.bd (i:=n1) (by omega)) (by omega) (fun i hi a b=>h.ne hi (by omega) (by omega)) fun k k1 k2 k3=>?_)
  refine wpS_ite (fun c=>wpS_pure (q l _ _ (List.Perm.refl _) (whole fun x hx y hy a b=>?_) (one_left _ _ _))) fun c=>?_
  · have c:n1 - k=0:=isn c
    have e:=k2 x hx (by omega) (by omega)
    by_cases z:y=n1
    · subst z; exact e
    · exact K.tr _ _ _ (h.bd hx) (h.bd (i:=n1) (by omega)) (h.bd hy) e (s2 n1 y (by omega) hy (Nat.le_refl _) (by omega) (by omega))
  have c:n1 - k≠0:=isnt c
  have lastA:0 + k + (n1 - k) - 1=n1 - 1:=by omega
  refine wpS_bind (elem_wp (l:=l) (i:=0 + k + (n1 - k) - 1) (by omega) ?_)
  refine wpS_bind (gallopL (base:=n1) (m:=n2) (hint:=n2 - 1) K rfl h.all (by rw [hn]; exact s2) (h.bd (i:=0 + k + (n1 - k) - 1) (by omega)) (by omega) fun v v1 v2 v3=>?_)
  simp only [lastA] at v2 v3
  have hiB:∀ y (hy:y < l.length),n1 + v≤y→lt (l[n1 - 1]'(by omega)) l[y]=true:=fun y hy a=>K.other h hy (by omega) (by omega) (v3 y hy (by omega) a)
  refine wpS_ite (fun d=>wpS_pure (q l _ _ (List.Perm.refl _) (whole fun x hx y hy a b=>?_) (one_left _ _ _))) fun d=>?_
  · have d:v=0:=isn d
    have e:=hiB y hy (by omega)
    by_cases z:x=n1 - 1
    · subst z; exact e
    · exact K.tr _ _ _ (h.bd hx) (h.bd (i:=n1 - 1) (by omega)) (h.bd hy) (s1 x (n1 - 1) hx (by omega) (by omega) (by omega) (by omega)) e
  have d:v≠0:=isnt d
  have B:Both lt n ((l.drop k).take (n1 - k)) ((l.drop n1).take v):=by
    refine ⟨fun x hx=>h.all x (List.mem_of_mem_drop (List.mem_of_mem_take hx)),fun x hx=>h.all x (List.mem_of_mem_drop (List.mem_of_mem_take hx)),fun x hx y hy=>?_,seg_cut s1 k _ (by omega) (by omega),seg_cut s2 n1 _ (by omega) (by omega),by rw [List.length_take,List.length_drop]; omega,by rw [List.length_take,List.length_drop]; omega,fun _ _=>?_,fun y hy hl=>?_⟩
    · obtain ⟨i,hi,a,rfl⟩:=mem_cut hx
      obtain ⟨j,hj,b,rfl⟩:=mem_cut hy
      exact h.ne hi hj (by omega)
    · simp only [List.getElem_take,List.getElem_drop,Nat.add_zero]
      exact k3 k (by omega) (by omega) (by omega)
    · obtain ⟨j,hj,b,rfl⟩:=mem_cut hy
      have e:k + (((l.drop k).take (n1 - k)).length - 1)=n1 - 1:=by rw [List.length_take,List.length_drop]; omega
      simp only [List.getElem_take,List.getElem_drop,e]
      exact v2 (n1 + j) hj (by omega) (by omega)
  have e1:(T f l).extract (0 + k) n1=T f ((l.drop k).take (n1 - k)):=by rw [Nat.zero_add,T_cut]
  have e2:(T f l).extract n1 (n1 + v)=T f ((l.drop n1).take v):=by rw [T_cut,Nat.add_sub_cancel_left]
  have fin:∀ (r:List Nat) (st':SortSt),Fine lt ((l.drop k).take (n1 - k)++(l.drop n1).take v) r→Fr (St κ f l (((#[(0,n1,pw),(n1,n2,p2)]:Array (Nat×Nat×Nat)).setIfInBounds 0 (0,n1 + n2,pw)).eraseIdxIfInBounds (0 + 1)) g) st' →
      wpS (model prog w) A E s (modify (fun st:SortSt=>SortSt.mk' (kindOf st) ((T f r).toList.zipIdx.foldl (fun a (x:Keyed×Nat)=>a.setIfInBounds (0 + k + x.2) x.1) (arrOf st)) (pendingOf st) (gallopOf st) (failedOf st)) >>= fun _=>(get:StateT SortSt Sem SortSt) >>= fun st=>pure (failedOf st).isNone) Q st':=by
    intro r st' F ⟨g',e⟩
    subst e
    have rl:r.length=n1 - k + v:=by
      have:=F.pm.length_eq
      rw [List.length_append,List.length_take,List.length_take,List.length_drop,List.length_drop] at this
      omega
    refine wpS_bind (wpS_modify (wpS_bind (wpS_get (wpS_pure ?_))))
    have e3:(T f r).toList.zipIdx.foldl (fun a (x:Keyed×Nat)=>a.setIfInBounds (0 + k + x.2) x.1) (T f l)=T f (l.take k++r++l.drop (n1 + v)):=by
      rw [Nat.zero_add,put_T (by omega)]
      congr 3
      omega
    have q':=q (l.take k++r++l.drop (n1 + v)) (((#[(0,n1,pw),(n1,n2,p2)]:Array (Nat×Nat×Nat)).setIfInBounds 0 (0,n1 + n2,pw)).eraseIdxIfInBounds (0 + 1)) g' ?_ ?_ (one_left _ _ _)
    · unfold St at q'
      rw [← e3] at q'
      exact q'
    · have p1:l=l.take k++((l.drop k).take (n1 - k)++(l.drop n1).take v)++l.drop (n1 + v):=by
        have a1:=some_drop l 0 k
        have a2:=some_drop l k (n1 - k)
        have a3:=some_drop l n1 v
        rw [show k + (n1 - k)=n1 by omega] at a2
        rw [List.drop_zero,Nat.zero_add] at a1
        rw [a3] at a2
        rw [a2] at a1
        rw [List.append_assoc,List.append_assoc]
        exact a1
      exact ((F.pm.append_left _).append_right _).trans (by rw [← p1])
    · have inR:∀ x∈r,(∃ i,∃ (hi:i < l.length),k≤i∧i < n1∧x=l[i])∨(∃ i,∃ (hi:i < l.length),n1≤i∧i < n1 + v∧x=l[i]):=fun x hx=>by
        rcases List.mem_append.mp (F.pm.mem_iff.mp hx) with hx | hx
        · obtain ⟨j,hj,a,rfl⟩:=mem_cut hx
          exact .inl ⟨k + j,hj,by omega,by omega,rfl⟩
        · obtain ⟨j,hj,a,rfl⟩:=mem_cut hx
          exact .inr ⟨n1 + j,hj,by omega,by omega,rfl⟩
      have low:∀ x (hx:x < l.length),x < k→∀ y (hy:y < l.length),k≤y→lt l[x] l[y]=true:=fun x hx a y hy b=>by
        by_cases z:y < n1
        · exact s1 x y hx hy (by omega) (by omega) z
        · have e:=k2 x hx (by omega) (by omega)
          by_cases z2:y=n1
          · subst z2; exact e
          · exact K.tr _ _ _ (h.bd hx) (h.bd (i:=n1) (by omega)) (h.bd hy) e (s2 n1 y (by omega) hy (Nat.le_refl _) (by omega) (by omega))
      have high:∀ x (hx:x < l.length),x < n1 + v→∀ y (hy:y < l.length),n1 + v≤y→lt l[x] l[y]=true:=fun x hx a y hy b=>by
        by_cases z:n1≤x
        · exact s2 x y hx hy z (by omega) (by omega)
        · have e:=hiB y hy b
          by_cases z2:x=n1 - 1
          · subst z2; exact e
          · exact K.tr _ _ _ (h.bd hx) (h.bd (i:=n1 - 1) (by omega)) (h.bd hy) (s1 x (n1 - 1) hx (by omega) (by omega) (by omega) (by omega)) e
      refine List.pairwise_append.mpr ⟨List.pairwise_append.mpr ⟨by have z:=seg_cut s1 0 k (by omega) (by omega); rw [List.drop_zero] at z; exact z,F.so,fun x hx y hy=>?_⟩,?_,fun x hx y hy=>?_⟩
      · obtain ⟨i,hi,a,rfl⟩:=mem_take' hx
        rcases inR y hy with ⟨j,hj,b1,b2,rfl⟩ | ⟨j,hj,b1,b2,rfl⟩
        · exact low i hi a j hj b1
        · exact low i hi a j hj (by omega)
      · have:=seg_cut s2 (n1 + v) (n - (n1 + v)) (by omega) (by omega)
        rwa [List.take_of_length_le (by rw [List.length_drop]; omega)] at this
      · obtain ⟨j,hj,b,rfl⟩:=mem_drop' hy
        rcases List.mem_append.mp hx with hx | hx
        · obtain ⟨i,hi,a,rfl⟩:=mem_take' hx
          exact low i hi a j hj (by omega)
        · rcases inR x hx with ⟨i,hi,b1,b2,rfl⟩ | ⟨i,hi,b1,b2,rfl⟩
          · exact high i hi (by omega) j hj b
          · exact high i hi (by omega) j hj b
  refine wpS_ite (fun _=>?_) fun _=>?_
  · refine wpS_bind ?_
    show wpS (model prog w) A E s (mergeLoP ((T f l).extract (0 + k) n1) ((T f l).extract n1 (n1 + v))) _ _
    rw [e1,e2]
    exact lo_wp K rfl B fin
  · refine wpS_bind ?_
    show wpS (model prog w) A E s (mergeHiP ((T f l).extract (0 + k) n1) ((T f l).extract n1 (n1 + v))) _ _
    rw [e1,e2]
    exact hi_wp K rfl B fin
theorem minRun_half {n:Nat} (h2:2≤n) (h:n < 128):n≤2 * minRun' n n 0∧minRun' n n 0≤n:=by
  obtain ⟨r,rfl⟩:∃ r,n=r + 1 + 1:=⟨n - 2,by omega⟩
  rw [minRun'_succ]
  by_cases c:r + 1 + 1 < 64
  · rw [if_pos c]; omega
  · rw [if_neg c,minRun'_succ,if_pos (by omega)]; omega
theorem runs_wp (K:Ans prog w A s κ f lt n) (h2:2≤n) (h:n < 128) {Q:Unit→SortSt→Prop}
    (q:∀ l st',l.Perm (List.range n)→Ord lt l→arrOf st'=T f l→failedOf st'=none→Q () st'):wpS (model prog w) A E s sortRuns' Q (St κ f (List.range n) #[] 7):=by
  have sz:(T f (List.range n)).size=n:=by rw [T_size,List.length_range]
  have N0:Num n (List.range n):=⟨List.length_range ..,fun x hx=>List.mem_range.mp hx,List.nodup_range⟩
  obtain ⟨mr,emr⟩:∃ mr,mr=minRun' n n 0:=⟨_,rfl⟩
  have hmr:=minRun_half h2 h
  rw [← emr] at hmr
  refine wpS_bind (wpS_get ?_)
  show wpS (model prog w) A E s (forIn [0:(T f (List.range n)).size] _ _ >>= _) Q _
  refine wpS_bind (wpS_mono (wpS_forRange (I:=fun x (c:Option Unit×Nat) st=>(x=0∧c=(none,0)∧st=St κ f (List.range n) #[] 7)∨(x=1∧∃ l n1,c=(none,n1)∧mr≤n1∧n1≤n∧Beh 0 (List.range n) l∧Seg lt l 0 n1∧st=St κ f l #[(0,n1,0)] 7)
      ∨ (x=2∧c=(none,n)∧∃ l n1 pw,1≤n1∧n1 < n∧Beh 0 (List.range n) l∧Seg lt l 0 n1∧Seg lt l n1 n∧st=St κ f l #[(0,n1,pw),(n1,n - n1,0)] 7))
    (Q:=fun c st=>c=(none,n)∧((∃ l,Beh 0 (List.range n) l∧Seg lt l 0 n∧st=St κ f l #[(0,n,0)] 7)∨∃ l n1 pw,1≤n1∧n1 < n∧Beh 0 (List.range n) l∧Seg lt l 0 n1∧Seg lt l n1 n∧st=St κ f l #[(0,n1,pw),(n1,n - n1,0)] 7)) ?_ ?_ (.inl ⟨rfl,rfl,rfl⟩)) ?_)
  · rintro x c st _ hx (⟨rfl,rfl,rfl⟩ | ⟨rfl,l,n1,rfl,m1,m2,B,s1,rfl⟩ | ⟨rfl,rfl,l,n1,pw,m1,m2,B,s1,s2,rfl⟩)
    · refine wpS_ite (fun (z:0 ≥ (T f (List.range n)).size)=>absurd z (by rw [sz]; omega)) fun _=>?_
      refine wpS_bind (count_wp K N0 (lo:=0) (nrem:=(T f (List.range n)).size - 0) (by rw [sz]; omega) (by rw [sz,List.length_range]; omega) fun k l k1 k2 B u=>?_)
      rw [sz] at k2
      rw [Nat.zero_add] at u
      refine wpS_ite (fun (c:k < minRun' (T f (List.range n)).size (T f (List.range n)).size 0)=>?_) fun (c:¬ k < minRun' (T f (List.range n)).size (T f (List.range n)).size 0)=>?_
      · rw [sz,← emr] at c
        refine wpS_bind (wpS_lift (wpAny_rule ⟨rfl,?_⟩))
        have ef:min ((T f (List.range n)).size - 0) (minRun' (T f (List.range n)).size (T f (List.range n)).size 0)=mr:=by rw [sz,← emr,Nat.sub_zero,Nat.min_eq_right hmr.2]
        refine wpS_bind (bin_wp K (N0.beh B) (lo:=0) (m:=min ((T f (List.range n)).size - 0) (minRun' (T f (List.range n)).size (T f (List.range n)).size 0)) k1 (by rw [ef]; omega) (by rw [ef,B.len,List.length_range]; omega) (by rw [Nat.zero_add]; exact u) fun l' B' u'=>?_)
        refine wpS_ite (fun (z:(!true)=true)=>absurd z (by decide)) fun _=>?_
        refine wpS_bind (wpS_get ?_)
        refine wpS_bind (wpS_modify (wpS_pure (.inr (.inl ⟨rfl,l',mr,?_,Nat.le_refl _,hmr.2,B.trans B',?_,?_⟩))))
        · show ((none,0 + min ((T f (List.range n)).size - 0) (minRun' (T f (List.range n)).size (T f (List.range n)).size 0)):Option Unit×Nat)=_
          rw [ef,Nat.zero_add]
        · rw [ef,Nat.zero_add] at u'; exact u'
        · show St κ f l' #[(0,min ((T f (List.range n)).size - 0) (minRun' (T f (List.range n)).size (T f (List.range n)).size 0),0)] 7=_
          rw [ef]
      · rw [sz,← emr] at c
        refine wpS_bind (wpS_get ?_)
        refine wpS_bind (wpS_modify (wpS_pure (.inr (.inl ⟨rfl,l,k,?_,by omega,by omega,B,u,rfl⟩))))
        show ((none,0 + k):Option Unit×Nat)=_
        rw [Nat.zero_add]
    · have N:=N0.beh B
      have len:l.length=n:=N.len
      refine wpS_ite (fun (z:n1 ≥ (T f (List.range n)).size)=>?_) fun (z:¬ n1 ≥ (T f (List.range n)).size)=>?_
      · rw [sz] at z
        obtain rfl:n1=n:=by omega
        exact wpS_pure ⟨rfl,.inl ⟨l,B,s1,rfl⟩⟩
      rw [sz] at z
      have two:∀ (l':List Nat),Beh n1 l l'→Seg lt l' n1 n→Beh 0 (List.range n) l'∧Seg lt l' 0 n1:=fun l' B' u=>by
        refine ⟨B.trans ⟨B'.pm,fun i hi=>by omega⟩,fun x y hx hy a b c=>?_⟩
        have e1:=getE hx (by rw [B'.len] at hx; exact hx) (B'.fr x (by omega))
        have e2:=getE hy (by rw [B'.len] at hy; exact hy) (B'.fr y (by omega))
        rw [e1,e2]
        exact s1 x y _ _ a b c
      refine wpS_bind (count_wp K N (lo:=n1) (nrem:=(T f (List.range n)).size - n1) (by rw [sz]; omega) (by rw [sz]; omega) fun k l' k1 k2 B' u=>?_)
      rw [sz] at k2
      refine wpS_ite (fun (c:k < minRun' (T f (List.range n)).size (T f (List.range n)).size 0)=>?_) fun (c:¬ k < minRun' (T f (List.range n)).size (T f (List.range n)).size 0)=>?_
      · rw [sz,← emr] at c
        refine wpS_bind (wpS_lift (wpAny_rule ⟨rfl,?_⟩))
        have ef:min ((T f (List.range n)).size - n1) (minRun' (T f (List.range n)).size (T f (List.range n)).size 0)=n - n1:=by rw [sz,← emr,Nat.min_eq_left (by omega)]
        refine wpS_bind (bin_wp K (N.beh B') (lo:=n1) (m:=min ((T f (List.range n)).size - n1) (minRun' (T f (List.range n)).size (T f (List.range n)).size 0)) k1 (by rw [ef]; omega) (by rw [ef,B'.len]; omega) u fun l2 B2 u2=>?_)
        refine wpS_ite (fun (z:(!true)=true)=>absurd z (by decide)) fun _=>?_
        rw [ef,show n1 + (n - n1)=n by omega] at u2
        refine wpS_bind (wpS_get ?_)
        refine wpS_bind (wpS_mono (wpS_forRange (I:=fun _ (c:Option Unit×Unit) st=>c=(none,())∧st=St κ f l2 #[(0,n1,0)] 7) (Q:=fun c st=>c=(none,())∧st=St κ f l2 #[(0,n1,0)] 7) ?_ (fun c st h=>h) ⟨rfl,rfl⟩) ?_)
        · rintro x c st _ _ ⟨rfl,rfl⟩
          exact wpS_bind (wpS_get (wpS_pure ⟨rfl,rfl⟩))
        · rintro c st ⟨rfl,rfl⟩
          refine wpS_bind (wpS_modify (wpS_bind (wpS_modify (wpS_pure (.inr (.inr ⟨rfl,?_,l2,n1,(power' (T f (List.range n)).size (2 * 0 + n1) (2 * 0 + n1 + n1 + (min ((T f (List.range n)).size - n1) (minRun' (T f (List.range n)).size (T f (List.range n)).size 0))) (T f (List.range n)).size),by omega,by omega,(two l2 (B'.trans B2) u2).1,(two l2 (B'.trans B2) u2).2,u2,?_⟩))))))
          · show ((none,n1 + (min ((T f (List.range n)).size - n1) (minRun' (T f (List.range n)).size (T f (List.range n)).size 0))):Option Unit×Nat)=_
            rw [ef]
            congr 1
            omega
          · show SortSt.mk' κ (T f l2) (((#[(0,n1,0)]:Array (Nat×Nat×Nat)).modify (1 - 1) fun x=>(x.1,x.2.1,(power' (T f (List.range n)).size (2 * 0 + n1) (2 * 0 + n1 + n1 + (min ((T f (List.range n)).size - n1) (minRun' (T f (List.range n)).size (T f (List.range n)).size 0))) (T f (List.range n)).size))).push (n1,(min ((T f (List.range n)).size - n1) (minRun' (T f (List.range n)).size (T f (List.range n)).size 0)),0)) 7 none=_
            rw [grown,ef]
            rfl
      · rw [sz,← emr] at c
        have ek:k=n - n1:=by omega
        have u2:Seg lt l' n1 n:=by rw [ek,show n1 + (n - n1)=n by omega] at u; exact u
        refine wpS_bind (wpS_get ?_)
        refine wpS_bind (wpS_mono (wpS_forRange (I:=fun _ (c:Option Unit×Unit) st=>c=(none,())∧st=St κ f l' #[(0,n1,0)] 7) (Q:=fun c st=>c=(none,())∧st=St κ f l' #[(0,n1,0)] 7) ?_ (fun c st h=>h) ⟨rfl,rfl⟩) ?_)
        · rintro x c st _ _ ⟨rfl,rfl⟩
          exact wpS_bind (wpS_get (wpS_pure ⟨rfl,rfl⟩))
        · rintro c st ⟨rfl,rfl⟩
          refine wpS_bind (wpS_modify (wpS_bind (wpS_modify (wpS_pure (.inr (.inr ⟨rfl,?_,l',n1,(power' (T f (List.range n)).size (2 * 0 + n1) (2 * 0 + n1 + n1 + k) (T f (List.range n)).size),by omega,by omega,(two l' B' u2).1,(two l' B' u2).2,u2,?_⟩))))))
          · show ((none,n1 + k):Option Unit×Nat)=_
            rw [ek]
            congr 1
            omega
          · show SortSt.mk' κ (T f l') (((#[(0,n1,0)]:Array (Nat×Nat×Nat)).modify (1 - 1) fun x=>(x.1,x.2.1,(power' (T f (List.range n)).size (2 * 0 + n1) (2 * 0 + n1 + n1 + k) (T f (List.range n)).size))).push (n1,k,0)) 7 none=_
            rw [grown,ek]
            rfl
    · refine wpS_ite (fun _=>wpS_pure ⟨rfl,.inr ⟨l,n1,pw,m1,m2,B,s1,s2,rfl⟩⟩) fun (z:¬ n ≥ (T f (List.range n)).size)=>absurd (Nat.le_refl n) (by rw [sz] at z; exact z)
  · rintro c st (⟨hx,_⟩ | ⟨hx,_⟩ | ⟨hx,rfl,r⟩)
    · rw [sz] at hx; omega
    · rw [sz] at hx; omega
    · exact ⟨rfl,.inr r⟩
  · rintro c st ⟨rfl,H⟩
    refine wpS_bind (wpS_mono (wpS_forRange (I:=fun x (c:Option Unit×Unit) st'=>c=(none,())∧((∃ l pend g,l.Perm (List.range n)∧Ord lt l∧pend.size≤1∧st'=St κ f l pend g)∨(x=0∧∃ l n1 pw,1≤n1∧n1 < n∧Beh 0 (List.range n) l∧Seg lt l 0 n1∧Seg lt l n1 n∧st'=St κ f l #[(0,n1,pw),(n1,n - n1,0)] 7)))
      (Q:=fun c st'=>c=(none,())∧∃ l pend g,l.Perm (List.range n)∧Ord lt l∧pend.size≤1∧st'=St κ f l pend g) ?_ ?_ ?_) ?_)
    · rintro x c st' _ hx ⟨rfl,(⟨l,pend,g,pm,o,hp,rfl⟩ | ⟨rfl,l,n1,pw,m1,m2,B,s1,s2,rfl⟩)⟩
      · exact wpS_bind (wpS_get (wpS_ite (fun _=>wpS_pure ⟨rfl,l,pend,g,pm,o,hp,rfl⟩) fun z=>absurd hp z))
      · refine wpS_bind (wpS_get (wpS_ite (fun z=>absurd z (show ¬ 2≤1 by decide)) fun _=>?_))
        refine wpS_bind (join_wp K (N0.beh B) m1 (by omega) (by omega) s1 s2 fun l' pend g' pm o hp=>?_)
        exact wpS_ite (fun (z:(!true)=true)=>absurd z (by decide)) fun _=>wpS_pure ⟨rfl,.inl ⟨l',pend,g',pm.trans B.pm,o,hp,rfl⟩⟩
    · rintro c st' ⟨rfl,(r | ⟨hx,_⟩)⟩
      · exact ⟨rfl,r⟩
      · have hx:max 0 (T f (List.range n)).size=0:=hx
        rw [sz] at hx; omega
    · rcases H with ⟨l,B,u,rfl⟩ | r
      · exact ⟨rfl,.inl ⟨l,#[(0,n,0)],7,B.pm,Seg.ord (by rw [B.len,List.length_range]; exact u),Nat.le_refl 1,rfl⟩⟩
      · exact ⟨rfl,.inr ⟨rfl,r⟩⟩
    · rintro c st' ⟨rfl,l,pend,g,pm,o,hp,rfl⟩
      exact wpS_pure (q l _ pm o rfl rfl)
end
end FhM
namespace FX
open PySem PySem.Spec PyProof.Rows L2
set_option linter.all false
section
variable {X:Cx}
def rIsi (K:PySem.W.Frag):List V→Hp→VK→Prop:=fun xs H Q=>∃ x n t b,xs=[x,.ty n]∧TyOf K H x t∧PySem.W.kitOne K t (.type n)=some b∧Q (.bl b) H
theorem call_isi:CallR X (.builtin "isinstance") (rIsi X.K):=by
  intro pins s σ H xs us Q I r h
  obtain ⟨x,n,t,b,rfl,ty,e,q⟩:=h
  obtain ⟨u1,u2,rfl,r1,r2⟩:∃ u1 u2,us=[u1,u2]∧RelV x u1∧RelV (.ty n) u2:=by
    cases r with
    | cons r1 t1=>cases t1 with
      | cons r2 t2=>cases t2; exact ⟨_,_,rfl,r1,r2⟩
  cases (show u2=Value.type n from r2)
  exact isinst_ok I r1 ty e fun tk=>⟨.bl b,H,I.tok tk,rfl,q⟩
theorem kit_same {K:PySem.W.Frag} {n:String}:PySem.W.kitOne K (.type n) (.type n)=some true:=by
  unfold PySem.W.kitOne
  rw [if_pos (by simp)]
end
end FX
namespace FX
open PySem PySem.Spec PyProof.Rows L2
set_option linter.all false
section
variable {X:Cx}
end
end FX
namespace FX
open PySem PySem.Spec PyProof.Rows L2
set_option linter.all false
abbrev T2:=Int×Int
def tk (t:T2):List Key:=[.inl t.1,.inl t.2]
def tv (t:T2):List V:=[.int t.1,.int t.2]
theorem tk_kV (t:T2):(tk t).map kV=tv t:=rfl
theorem tk_inj {a b:T2} (h:tk a=tk b):a=b:=by
  obtain ⟨a1,a2⟩:=a
  obtain ⟨b1,b2⟩:=b
  unfold tk at h
  simp only [List.cons.injEq,Sum.inl.injEq,and_true] at h
  rw [h.1,h.2]
structure HGh where
  num:Int
  made:Int
  ticks:Int
  h:Addr
  o:Addr
  l:Addr
  r:Addr
  hand:List T2
  outs:List (T2×Int)
  holds:List (T2×Addr×List T2)
  recs:List (T2×Int)
def hflds (G:HGh):List (Str×V):=[("number",.int G.num),("made",.int G.made),("ticks",.int G.ticks),("hand",.ref G.h),("outs",.ref G.o),("holds",.ref G.l),("records",.ref G.r)]
def dHand (l:List T2):HO:=.dT (l.map fun t=>(tk t,V.bl true))
def dInt (l:List (T2×Int)):HO:=.dT (l.map fun q=>(tk q.1,V.int q.2))
def dRef (l:List (T2×Addr×List T2)):HO:=.dT (l.map fun q=>(tk q.1,V.ref q.2.1))
theorem valV_tk {α:Type} (l:List α) (k:α→T2) (f:α→V) (t:T2):valV (l.map fun q=>(tk (k q),f q)) (tk t)=(l.find? fun q=>decide (k q=t)).map f:=by
  unfold valV
  rw [List.find?_map,Option.map_map]
  congr 1
  congr 1
  funext q
  show decide (tk (k q)=tk t)=decide (k q=t)
  by_cases e:k q=t
  · rw [e]; simp
  · rw [decide_eq_false e,decide_eq_false fun z=>e (tk_inj z)]
theorem valV_tk_none {α:Type} {l:List α} {k:α→T2} {f:α→V} {t:T2} (h:∀ q∈l,k q≠t):valV (l.map fun q=>(tk (k q),f q)) (tk t)=none:=by
  rw [valV_tk,List.find?_eq_none.mpr fun q hq=>by simpa using h q hq]
  rfl
theorem putK_tk {α:Type} {l:List α} {k:α→T2} {f:α→V} {t:T2} (v:V) (h:∀ q∈l,k q≠t):putK (l.map fun q=>(tk (k q),f q)) (tk t) v=(l.map fun q=>(tk (k q),f q))++[(tk t,v)]:=putK_new v (valV_tk_none h)
def foot (G:HGh):List Addr:=G.h :: G.o :: G.l :: G.r :: G.holds.map (·.2.1)
structure HouseAt (C:Addr) (H:Hp) (p:Addr) (G:HGh):Prop where
  ob:∃ dx,H p=some (.ins C dx (hflds G))
  dh:H G.h=some (dHand G.hand)
  dO:H G.o=some (dInt G.outs)
  dl:H G.l=some (dRef G.holds)
  dr:H G.r=some (dInt G.recs)
  hl:∀ q∈G.holds,H q.2.1=some (dHand q.2.2)
  nd:(foot G).Nodup
section
variable {C p:Addr} {H H':Hp} {G:HGh}
end
def thD (t:T2):PyData:=.tuple [.int t.1,.int t.2]
theorem thD_ok (t:T2):(thD t).canLay0=true∧(thD t).depth≤2:=by
  unfold thD
  constructor
  · simp [PyData.canLay0,PyData.canLayAll0]
  · simp [PyData.depth,PyData.depthAll]
def ThsAt (H:Hp):List Addr→List T2→Prop:=Paired fun a t=>H a=some (.tup (tv t))
theorem th_rep {K:PySem.W.Frag} {H:Hp} {a:Addr} {t:T2} (e:H a=some (.tup (tv t))):RepT K H (.ref a) (thD t):=.tupP (SqT.of e) (.cons (.int _) (.cons (.int _) .nil))
theorem ths_rep {K:PySem.W.Frag} {H:Hp}:∀ {as:List Addr} {ts:List T2},ThsAt H as ts→Paired (RepT K H) (as.map V.ref) (ts.map thD)
  | _,_,.nil=>.nil
  | _,_,.cons e t=>.cons (th_rep e) (ths_rep t)
def lt2 (a b:T2):Prop:=HT.lexLt [a.1,a.2] [b.1,b.2]=true
theorem lt2_iff (a b:T2):lt2 a b↔(a.1 < b.1∨(a.1=b.1∧a.2 < b.2)):=by
  unfold lt2
  rw [HT.lexLt_cons,HT.lexLt_cons]
  by_cases h1:a.1=b.1
  · rw [if_pos h1]
    by_cases h2:a.2=b.2
    · rw [if_pos h2,HT.lexLt_nil_nil]
      constructor
      · intro z; cases z
      · intro z; lia
    · rw [if_neg h2]
      constructor
      · intro z; exact .inr ⟨h1,of_decide_eq_true z⟩
      · intro z; exact decide_eq_true (by lia)
  · rw [if_neg h1]
    constructor
    · intro z; exact .inl (of_decide_eq_true z)
    · intro z; exact decide_eq_true (by lia)
section
variable {X:Cx}
theorem call_sorted_things (hc:X.calm=true):CallR X (.builtin "sorted") (fun xs H Q=>∃ d,∃ l:List (T2×V),∃ ss:List T2,xs=[.ref d]∧Rd H d (.dT (l.map fun q=>(tk q.1,q.2)))∧l.length < 64∧ss.Perm (l.map (·.1))∧ss.Pairwise lt2 ∧
    ∀ (r:Addr) (as:List Addr),H r=none→ThsAt H as ss→Q (.ref r) (upd H r (.lst (as.map V.ref)))):=by
  intro pins s σ H xs us Q I rv h
  obtain ⟨d,l,ss,rfl,hd,h64,pm,pw,q⟩:=h
  refine call_sorted_dict hc pins s σ H _ us Q I rv ⟨d,l.map fun q=>([q.1.1,q.1.2],q.2),rfl,?_,by rw [List.length_map]; exact h64,?_,?_,fun r M hr mp mw ma=>?_⟩
  · have e:((l.map fun q=>(([q.1.1,q.1.2]:List Int),q.2)).map fun p=>((p.1.map Sum.inl:List Key),p.2))=l.map fun q=>(tk q.1,q.2):=by
      rw [List.map_map]; rfl
    rw [e]; exact hd
  · have nd:ss.Nodup:=pw.imp fun {a b} h z=>by
      rw [lt2_iff,z] at h; lia
    have nd2:(l.map (·.1)).Nodup:=pm.nodup_iff.mp nd
    have e:(l.map fun q=>(([q.1.1,q.1.2]:List Int),q.2)).map (·.1)=(l.map (·.1)).map fun t=>[t.1,t.2]:=by
      rw [List.map_map,List.map_map]; rfl
    rw [e]
    exact List.Pairwise.map _ (fun a b h z=>h (by obtain ⟨a1,a2⟩:=a; obtain ⟨b1,b2⟩:=b; simp at z; rw [z.1,z.2])) nd2
  · intro p hp
    obtain ⟨q,_,e⟩:=List.mem_map.mp hp
    rw [← e]; simp
  · have e:(l.map fun q=>(([q.1.1,q.1.2]:List Int),q.2)).map (·.1)=(l.map (·.1)).map fun t=>[t.1,t.2]:=by
      rw [List.map_map,List.map_map]; rfl
    rw [e] at mp
    have e2:M.map (·.1)=ss.map fun t=>[t.1,t.2]:=by
      refine sorted_one (lt:=fun a b=>HT.lexLt a b=true) (fun a z=>by rw [lex_irr] at z; cases z) (fun a b h1 h2=>by have:=lex_tr h1 h2; rw [lex_irr] at this; cases this) (mp.trans (pm.symm.map _)) ?_ ?_
      · rw [List.pairwise_map]; exact mw
      · rw [List.pairwise_map]; exact pw
    have hl:M.length=ss.length:=by have:=congrArg List.length e2; simpa using this
    have e3:(M.map fun p=>V.ref p.2)=(M.map (·.2)).map V.ref:=by rw [List.map_map]; rfl
    rw [e3]
    refine q r _ hr (paired_of (by rw [List.length_map]; exact hl) fun j a t e4 e5=>?_)
    rw [List.getElem?_map] at e4
    cases hm:M[j]? with
    | none=>rw [hm] at e4; cases e4
    | some m =>
      rw [hm] at e4
      cases e4
      have e6:(M.map (·.1))[j]?=some m.1:=by rw [List.getElem?_map,hm]; rfl
      rw [e2,List.getElem?_map,e5] at e6
      have e7:[t.1,t.2]=m.1:=Option.some.inj e6
      have:=ma m (List.mem_of_getElem? hm)
      rw [← e7] at this
      exact this
end
theorem int_rd {H:Hp} {d:Addr} {l:List (T2×Int)} (h:H d=some (dInt l)):Rd H d (.dT ((l.map fun q=>(q.1,V.int q.2)).map fun q=>(tk q.1,q.2))):=by
  have e:((l.map fun q=>(q.1,V.int q.2)).map fun q=>(tk q.1,q.2))=l.map fun q=>(tk q.1,V.int q.2):=by rw [List.map_map]; rfl
  rw [e]; exact .inl h
theorem comp_list {K:PySem.W.Frag} {a p:Addr} {xs:List V} {tt:TT} {te:TE} {caps:List (Str×Nat)} {σ:L2.St} {H:Hp} {Q:Hp→Prop} (Pv:Nat→List V→Hp→Prop) (h0:Pv 0 [] (upd H p (.lst [])))
    (hl:∀ i ys H2,i≤xs.length→Pv i ys H2→SqL K H2 a xs∧H2 p=some (.lst ys))
    (hs:∀ i x ys H2 (N:List V→Hp→Prop),xs[i]?=some x→Pv i ys H2→(∀ ys H,Pv (i + 1) ys H→N ys H)→tt (some x :: capv σ caps) H2 fun b H4 =>
      if b=true then te (some x :: capv σ caps) H4 fun v H5=>H5 p=some (.lst ys)∧ys.length < sizeLine∧N (ys++[v]) (upd H5 p (.lst (ys++[v]))) else N ys H4)
    (hd:∀ ys H2,Pv xs.length ys H2→Q H2) :
    ∃ W:Nat→Nat→List V→Hp→Prop,(∃ m,W 0 m [] (upd H p (.lst [])))∧∀ i m ys H2,W i m ys H2→H2 p=some (.lst ys) ∧
      (((Itl K a).stop i H2∧Q H2)∨((Itl K a).go i H2∧∀ x H3,(Itl K a).yld i H2 x H3→tt (some x :: capv σ caps) H3 fun b H4 =>
        if b=true then te (some x :: capv σ caps) H4 fun v H5=>H5 p=some (.lst ys)∧ys.length < sizeLine∧∃ m',m' < m∧W (i + 1) m' (ys++[v]) (upd H5 p (.lst (ys++[v])))
        else ∃ m',m' < m∧W (i + 1) m' ys H4)):=by
  refine ⟨fun i m ys H=>m=xs.length - i∧i≤xs.length∧Pv i ys H,⟨xs.length,by simp,Nat.zero_le _,h0⟩,?_⟩
  rintro i m ys H2 ⟨rfl,hi,pv⟩
  obtain ⟨q1,q2⟩:=hl i ys H2 hi pv
  refine ⟨q2,?_⟩
  by_cases hlt:i < xs.length
  · refine .inr ⟨⟨xs,xs[i],q1,by simp [hlt]⟩,fun x H3 y=>?_⟩
    obtain ⟨e,y⟩:=y
    subst e
    exact hs i x ys _ (fun zs H'=>∃ m',m' < xs.length - i∧(m'=xs.length - (i + 1)∧i + 1≤xs.length∧Pv (i + 1) zs H')) (y xs q1) pv fun zs H' pz=>⟨_,by lia,rfl,hlt,pz⟩
  · have e:i=xs.length:=by lia
    subst e
    exact .inl ⟨⟨xs,q1,Nat.le_refl _⟩,hd ys H2 pv⟩
theorem comp_range {lo:Int} {n:Nat} {p:Addr} {tt:TT} {te:TE} {caps:List (Str×Nat)} {σ:L2.St} {H:Hp} {Q:Hp→Prop} (Pv:Nat→List V→Hp→Prop) (h0:Pv 0 [] (upd H p (.lst [])))
    (hl:∀ i ys H2,i≤n→Pv i ys H2→H2 p=some (.lst ys))
    (hs:∀ i ys H2 (N:List V→Hp→Prop),i < n→Pv i ys H2→(∀ ys H,Pv (i + 1) ys H→N ys H)→tt (some (.int (lo + i)) :: capv σ caps) H2 fun b H4 =>
      if b=true then te (some (.int (lo + i)) :: capv σ caps) H4 fun v H5=>H5 p=some (.lst ys)∧ys.length < sizeLine∧N (ys++[v]) (upd H5 p (.lst (ys++[v]))) else N ys H4)
    (hd:∀ ys H2,Pv n ys H2→Q H2) :
    ∃ W:Nat→Nat→List V→Hp→Prop,(∃ m,W 0 m [] (upd H p (.lst [])))∧∀ i m ys H2,W i m ys H2→H2 p=some (.lst ys) ∧
      (((Itr lo n).stop i H2∧Q H2)∨((Itr lo n).go i H2∧∀ x H3,(Itr lo n).yld i H2 x H3→tt (some x :: capv σ caps) H3 fun b H4 =>
        if b=true then te (some x :: capv σ caps) H4 fun v H5=>H5 p=some (.lst ys)∧ys.length < sizeLine∧∃ m',m' < m∧W (i + 1) m' (ys++[v]) (upd H5 p (.lst (ys++[v])))
        else ∃ m',m' < m∧W (i + 1) m' ys H4)):=by
  refine ⟨fun i m ys H=>m=n - i∧i≤n∧Pv i ys H,⟨n,by simp,Nat.zero_le _,h0⟩,?_⟩
  rintro i m ys H2 ⟨rfl,hi,pv⟩
  refine ⟨hl i ys H2 hi pv,?_⟩
  by_cases hlt:i < n
  · refine .inr ⟨hlt,fun x H3 y=>?_⟩
    obtain ⟨e,y⟩:=y
    subst e y
    exact hs i ys _ (fun zs H'=>∃ m',m' < n - i∧(m'=n - (i + 1)∧i + 1≤n∧Pv (i + 1) zs H')) hlt pv fun zs H' pz=>⟨_,by lia,rfl,hlt,pz⟩
  · have e:i=n:=by lia
    subst e
    exact .inl ⟨Nat.le_refl _,hd ys H2 pv⟩
end FX
namespace FX
open PySem PySem.Spec PyProof.Rows L2
set_option linter.all false
section
variable {M:Model} {A:Around} {E:Value→Shared→Prop} {s:Shared} {base:Heap} {env:Env} {outer:List Env} {L e:Addr} {cls:Value} {g:Addr→Prop}
end
end FX
namespace FX
open PySem PySem.Spec PyProof.Rows L2
set_option linter.all false
section
variable {X:Cx} {pins:List (Addr×Obj)} {σ:L2.St} {H H1:Hp} {s s1:Shared} {h':Heap} {g:Addr→Prop} {ex:Addr} {cls:Value}
end
section
variable {P:Program} {w:World} {K:PySem.W.Frag} {mg:Str→Option Value} {base:Heap} {N:List Str} {qual:Str} {scope:Scope} {f:Addr} {cd:Value} {A:Around} {outer:List Env} {s:Shared} {H:Hp} {E:XK}
end
section
variable {P:Program} {w:World} {K:PySem.W.Frag} {mg:Str→Option Value} {base:Heap}
end
section
variable {X:Cx} {x:Str} {C:Addr} {E:XK} {np cpos pos p1:Pos} {msg:Str} {j:Nat}
end
end FX
namespace FX
open PySem PySem.Spec PyProof.Rows L2
set_option linter.all false
section
variable {X:Cx} {pins:List (Addr×Obj)} {σ:L2.St} {H:Hp} {s:Shared}
end
section
variable {X:Cx} {pins pins':List (Addr×Obj)} {σ:L2.St} {H:Hp} {s:Shared} {E:Value→Shared→Prop} {ex:Addr}
end
section
variable {X:Cx} {k:Nat} {f C:Addr} {fd:FuncData} {ps:List Str} {sp:Sp} {ES:L2.St→XK} {x m:Str} {p pos apos:Pos} {e o:Expr} {es:List Expr} {ta:TE} {t:TA}
end
end FX
namespace FX
open PySem PySem.Spec PyProof.Rows L2
set_option linter.all false
def gone (D:Ends) (i:Nat):Ends:={ nx:=fun σ H=>D.nx (σ.set i none) H,bk:=fun σ H=>D.bk (σ.set i none) H,ct:=fun σ H=>D.ct (σ.set i none) H,rt:=D.rt }
section
variable {X:Cx} {body suite:List Stmt} {b₀:Stmt} {n x:Str} {D:Addr} {i:Nat} {np hpos pos:Pos} {tb:(L2.St→XK)→TS} {ts:Addr→TS}
end
end FX
namespace FX
open PySem PySem.Spec PySem.Calls PyProof.Rows L2 Builtin Builtin.ObjectAttr Builtin.Getset_descriptor
set_option linter.all false
set_option maxHeartbeats 400000
section
variable {prog:Program} {w:World} {A:Around} {E:Value→Shared→Prop} {s:Shared} {K:PySem.W.Frag} {x C:Addr}
end
theorem vals_refs:∀ {ds:List Addr} {its:List Value},Vals (ds.map V.ref) its→its=ds.map Value.ref
  | [],_,.nil=>rfl
  | d :: ds,_,.cons h1 h2=>by
    cases h1
    rw [vals_refs h2]; rfl
section
variable {X:Cx}
end
end FX
namespace FX
open PySem PySem.Spec PyProof.Rows L2
set_option linter.all false
end FX
namespace FX
open PySem L2
end FX
namespace FX
open PySem PySem.Spec PyProof.Rows L2
set_option linter.all false
section
variable {prog:Program} {w:World} {A:Around} {E:Value→Shared→Prop} {s:Shared} {it d:Addr} {i n ep:Nat}
end
section
variable {prog:Program} {w:World} {A:Around} {R:Result→Shared→Prop} {S it d:Addr} {ep:Nat} {es:Array DictEntry}
end
section
variable {prog:Program} {w:World} {A:Around} {E:Value→Shared→Prop} {s:Shared} {v d:Addr} {ep:Nat} {es:Array DictEntry}
end
end FX
namespace FX
open PySem PySem.Spec PyProof.Rows L2
set_option linter.all false
section
variable {prog:Program} {w:World} {A:Around} {E:Value→Shared→Prop} {s:Shared}
theorem ints_items:∀ {vs:List Value} {ns:List Int},IntsAre vs ns→ItemsAre (intKind prog w) ns vs
  | _,_,.nil=>.nil
  | _,_,.cons n t r=>.cons (intKind_is prog w n t) (ints_items r)
theorem tup_key {h:Heap} {a:Addr} {its:Array Value} {ns:List Int} (x:IsTup h a its) (y:IntsAre its.toList ns):IsTupleKey (intKind prog w) h ns a :=
  let ⟨o,ho,hc,n,hd⟩:=x; ⟨o,its,n,ho,hc,hd,ints_items y⟩
end
end FX
namespace FX
open PySem PySem.Spec PyProof.Rows L2
set_option linter.all false
section
variable {X:Cx} {pins:List (Addr×Obj)} {σ:L2.St} {H:Hp} {s:Shared}
end
section
variable {X:Cx}
end
end FX
namespace FX
open PySem PySem.Spec PyProof.Rows L2
set_option linter.all false
section
variable {prog:Program} {w:World} {K:Type} [DecidableEq K] {knd:HeapKind prog w K} {A:Around} {E:Value→Shared→Prop} {s:Shared}
end
section
variable {κ:Type} [DecidableEq κ]
end
section
variable {X:Cx} {pins:List (Addr×Obj)} {σ:L2.St} {H:Hp} {s:Shared} {A:Around} {E:Value→Shared→Prop} {a b:Addr}
end
end FX
namespace FX
open PySem PySem.Spec PyProof.Rows L2
set_option linter.all false
section
variable {C p:Addr} {H H':Hp} {G:HGh}
end
def addT (l:List T2) (t:T2):List T2:=if t∈l then l else l++[t]
theorem hand_find (l:List T2) (t:T2):l.find? (fun q=>decide (q=t))=if t∈l then some t else none:=by
  by_cases h:t∈l
  · rw [if_pos h]
    cases e:l.find? fun q=>decide (q=t) with
    | none=>exact absurd (List.find?_eq_none.mp e t h) (by simp)
    | some u =>
      have:=List.find?_some e
      have:u=t:=by simpa using this
      rw [this]
  · rw [if_neg h]
    exact List.find?_eq_none.mpr fun u hu=>by
      have:¬ u=t:=fun z=>h (z ▸ hu)
      simpa using this
theorem valV_hand (l:List T2) (t:T2):valV (l.map fun q=>(tk q,V.bl true)) (tk t)=if t∈l then some (V.bl true) else none:=by
  rw [valV_tk (k:=fun q:T2=>q) (f:=fun _=>V.bl true),hand_find]
  by_cases h:t∈l
  · rw [if_pos h,if_pos h]; rfl
  · rw [if_neg h,if_neg h]; rfl
theorem putK_hand (l:List T2) (t:T2):putK (l.map fun q=>(tk q,V.bl true)) (tk t) (V.bl true)=(addT l t).map fun q=>(tk q,V.bl true):=by
  unfold addT
  by_cases h:t∈l
  · rw [if_pos h]
    unfold putK
    rw [valV_any,valV_hand,if_pos h,if_pos (show (some (V.bl true)).isSome=true from rfl),List.map_map]
    refine List.map_congr_left fun q _=>?_
    show (if tk q=tk t then (tk q,V.bl true) else (tk q,V.bl true))=_
    by_cases e:tk q=tk t
    · rw [if_pos e]
    · rw [if_neg e]
  · rw [if_neg h,putK_tk (k:=fun q:T2=>q) (f:=fun _=>V.bl true) _ (fun q hq z=>h (by rw [← z]; exact hq)),List.map_append]
    rfl
def putI (l:List (T2×Int)) (t:T2) (v:Int):List (T2×Int):=if t∈l.map (·.1) then l.map fun q=>if q.1=t then (q.1,v) else q else l++[(t,v)]
theorem putK_int (l:List (T2×Int)) (t:T2) (v:Int):putK (l.map fun q=>(tk q.1,V.int q.2)) (tk t) (V.int v)=(putI l t v).map fun q=>(tk q.1,V.int q.2):=by
  unfold putI
  by_cases h:t∈l.map (·.1)
  · rw [if_pos h]
    unfold putK
    have e1:((l.map fun q=>(tk q.1,V.int q.2)).any fun kv=>decide (kv.1=tk t))=true:=by
      obtain ⟨q,hq,e⟩:=List.mem_map.mp h
      exact List.any_eq_true.mpr ⟨(tk q.1,V.int q.2),List.mem_map_of_mem hq,by simp [e]⟩
    rw [e1,if_pos rfl,List.map_map,List.map_map]
    refine List.map_congr_left fun q _=>?_
    show (if tk q.1=tk t then (tk q.1,V.int v) else (tk q.1,V.int q.2))=(tk (if q.1=t then (q.1,v) else q).1,V.int (if q.1=t then (q.1,v) else q).2)
    by_cases e:q.1=t
    · rw [if_pos e,if_pos (by rw [e])]
    · rw [if_neg e,if_neg fun z=>e (tk_inj z)]
  · rw [if_neg h,putK_tk (k:=fun q:T2×Int=>q.1) (f:=fun q=>V.int q.2) _ fun q hq z=>h (List.mem_map.mpr ⟨q,hq,z⟩),List.map_append]
    rfl
end FX
namespace FX
open PySem PySem.Spec PyProof.Rows L2
set_option linter.all false
section
variable {X:Cx}
theorem call_sorted_list (hc:X.calm=true):CallR X (.builtin "sorted") (fun xs H Q=>∃ (l:Addr) (as:List Addr) (ts ss:List T2),xs=[.ref l]∧H l=some (.lst (as.map V.ref))∧ThsAt H as ts∧ts.length < 64∧ss.Perm ts∧ss.Pairwise lt2 ∧
    ∀ (r:Addr) (as':List Addr),H r=none→ThsAt H as' ss→Q (.ref r) (upd H r (.lst (as'.map V.ref)))):=by
  intro pins s σ H xs us Q I rv h
  obtain ⟨l,as,ts,ss,rfl,hl,th,h64,pm,pw,q⟩:=h
  obtain ⟨u,rfl,rx⟩:=vals1 rv
  cases rx
  obtain ⟨z,its,n,vl,gl⟩:=(show ObjOk X.prog X.w H s.heap l (.lst (as.map V.ref)) from I.hok l _ hl)
  have ei:=vals_refs vl
  subst ei
  have hal:=Paired.length th
  have nd:ts.Nodup:=pm.nodup_iff.mp (List.Pairwise.imp (fun {a b} (h:lt2 a b) (z:a=b)=>by rw [lt2_iff,z] at h; lia) pw)
  have ndK:(ts.map fun t=>([t.1,t.2]:List Int)).Nodup:=List.Pairwise.map _ (fun a b h z=>h (by obtain ⟨a1,a2⟩:=a; obtain ⟨c1,c2⟩:=b; simp at z; rw [z.1,z.2])) nd
  have t0:TupsAt s.heap as (ts.map fun t=>[t.1,t.2]):=paired_of (by rw [List.length_map]; exact hal) fun j a ns e1 e2=>by
    rw [List.getElem?_map] at e2
    cases ht:ts[j]? with
    | none=>rw [ht] at e2; cases e2
    | some t =>
      rw [ht] at e2
      cases e2
      obtain ⟨its,rv,it,_⟩:=I.tuple (SqT.of (K:=X.K) (paired_get th j a t e1 ht))
      exact ⟨by simp,its.toArray,it,by simpa using intsAre_of (ns:=[t.1,t.2]) rv⟩
  refine Calls.call_function_entry kind_sorted plain_sorted entry_sorted (args_sorted1 _) (by
    unfold Builtin.«sorted»
    refine wpAny_bind (m:=checkCount "sorted" 1 1 _) (wpAny_pure (wpAny_bind (collect_list ⟨_,gl,rfl,_,rfl⟩ ?_ (by rw [List.length_map,sizeLine_eq]; lia))))
    have kp:∀ b o,s.heap.get? b=some o→((s.heap.push (seqObj "list" #[] 0)).update s.heap.objs.size (Obj.mapSeq (·++(as.map Value.ref).toArray))).get? b=some o:=fun b o e =>
      (Heap.get?_update_other _ _ (Nat.ne_of_gt (Heap.lt_size e))).trans (Heap.get?_push_of_some _ e)
    generalize (s.heap.push (seqObj "list" #[] 0)).update s.heap.objs.size (Obj.mapSeq (·++(as.map Value.ref).toArray))=h1 at kp
    have I1:Inv X pins σ H { s with heap:=h1,toks:=s.toks }:=I.kept kp
    refine wpAny_bind (wpAny_newList ?_ (by rw [List.length_map,sizeLine_eq]; lia))
    have g1:(h1.push (seqObj "list" (as.map Value.ref).toArray 0)).get? h1.objs.size=some (seqObj "list" (as.map Value.ref).toArray 0):=Heap.get?_push_size _ rfl
    have t1:TupsAt (h1.push (seqObj "list" (as.map Value.ref).toArray 0)) as (ts.map fun t=>[t.1,t.2]):=t0.keep fun b o e _=>Heap.get?_push_of_some _ (kp b o e)
    refine wpAny_bind (wpAny_holding (wpAny_call_entry slot_list_sort ⟨_,g1,rfl⟩ entry_list_sort (lsort_tups g1 (by lia) t1 ndK fun p pp po h2 c kp2 e=>⟨_,rfl,?_⟩) (args_list_sort _)))
    have hn:H h1.objs.size=none:=I1.hok.fresh (Nat.le_refl _)
    have inr:∀ i∈p,i < as.length:=fun i hi=>List.mem_range.mp (pp.mem_iff.mp hi)
    have eR:p.map (fun i=>ts.getD i (0,0))=ss:=by
      refine sorted_one (lt:=lt2) (fun a z=>by rw [lt2_iff] at z; lia) (fun a b h1 h2=>by rw [lt2_iff] at h1 h2; lia) ?_ ?_ pw
      · have e2:(List.range as.length).map (fun i=>ts.getD i (0,0))=ts:=by
          refine List.ext_getElem? fun j=>?_
          rw [List.getElem?_map]
          by_cases hj:j < ts.length
          · rw [show (List.range as.length)[j]?=some j by simp [hal,hj]]; simp [hj]
          · rw [show (List.range as.length)[j]?=none by simp [hal]; lia,List.getElem?_eq_none (by lia)]; rfl
        have e7:=pp.map fun i=>ts.getD i (0,0)
        rw [e2] at e7
        exact e7.trans pm.symm
      · rw [List.pairwise_map]
        refine List.Pairwise.imp_of_mem (fun {i j} hi hj z=>?_) po
        have li:=inr i hi
        have lj:=inr j hj
        simpa [lt2,show i < ts.length by lia,show j < ts.length by lia] using z
    have eV:(p.map fun i=>(as.map Value.ref).getD i .none)=(p.map fun i=>as.getD i 0).map Value.ref:=by
      rw [List.map_map]
      refine List.map_congr_left fun i hi=>?_
      have:=inr i hi
      simp [this]
    have th2:ThsAt H (p.map fun i=>as.getD i 0) ss:=by
      rw [← eR]
      refine paired_of (by rw [List.length_map,List.length_map]) fun j a t e1 e2=>?_
      rw [List.getElem?_map] at e1 e2
      cases hp:p[j]? with
      | none=>rw [hp] at e1; cases e1
      | some i =>
        rw [hp] at e1 e2
        cases e1
        cases e2
        have li:=inr i (List.mem_of_getElem? hp)
        exact paired_get th i (as.getD i 0) (ts.getD i (0,0)) (by simp [li]) (by simp [show i < ts.length by lia])
    refine wpAny_pure ⟨_,rfl,.ref h1.objs.size,_,I1.laid (a:=h1.objs.size) (o:=.lst ((p.map fun i=>as.getD i 0).map V.ref)) (t':=s.toks) (fun b o hb=>kp2 b o (Nat.ne_of_lt (Heap.lt_size hb)) (Heap.get?_push_of_some _ hb)) (Nat.le_refl _) ⟨?_,(p.map fun i=>as.getD i 0).map Value.ref,c,refs_vals _,?_⟩,rfl,q _ (p.map fun i=>as.getD i 0) hn th2⟩
    · rw [List.length_map,List.length_map,pp.length_eq,List.length_range,sizeLine_eq]; lia
    · rw [← eV]; exact e)
end
end FX
namespace FX
open PySem PySem.Spec PyProof.Rows L2
set_option linter.all false
noncomputable def isT (H:Hp) (tb:T2):Value→Bool
  | .ref a=>@decide (H a=some (.tup (tv tb))) (Classical.propDecidable _)
  | _=>false
theorem isT_at {H:Hp} {a:Addr} {t tb:T2} (h:H a=some (.tup (tv t))):isT H tb (.ref a)=decide (t=tb):=by
  show @decide (H a=some (.tup (tv tb))) (Classical.propDecidable _)=_
  by_cases e:t=tb
  · rw [decide_eq_true e]
    exact @decide_eq_true _ (Classical.propDecidable _) (by rw [h,e])
  · rw [decide_eq_false e]
    refine @decide_eq_false _ (Classical.propDecidable _) fun z=>e ?_
    rw [h] at z
    have z:tv t=tv tb:=HO.tup.inj (Option.some.inj z)
    unfold tv at z
    simp only [List.cons.injEq,V.int.injEq,and_true] at z
    exact Prod.ext z.1 z.2
theorem any_isT {H:Hp} {tb:T2}:∀ {as:List Addr} {ts:List T2},ThsAt H as ts→(as.map Value.ref).any (isT H tb)=decide (tb∈ts)
  | _,_,.nil=>by simp
  | _,t :: ts,.cons r q=>by
    rw [List.map_cons,List.any_cons,isT_at r,any_isT q]
    by_cases e:t=tb
    · rw [e]; simp
    · have:¬ tb=t:=fun z=>e z.symm
      simp [e,this]
section
variable {X:Cx} {pins:List (Addr×Obj)} {σ:L2.St} {H:Hp} {s:Shared} {A:Around}
theorem eqAt_th {a b:Addr} {t tb:T2} (hu:A.units < cLine) (I:Inv X pins σ H s) (ha:H a=some (.tup (tv t))) (hb:H b=some (.tup (tv tb))):SeqAt.EqAt A s (.ref a) (.ref b) (isT H tb (.ref a)):=by
  intro prog w E Q q
  obtain ⟨its,rv,it,_⟩:=I.tuple (SqT.of (K:=X.K) ha)
  obtain ⟨jts,rw',jt,_⟩:=I.tuple (SqT.of (K:=X.K) hb)
  have i1:IntsAre its [t.1,t.2]:=intsAre_of (ns:=[t.1,t.2]) rv
  have i2:IntsAre jts [tb.1,tb.2]:=intsAre_of (ns:=[tb.1,tb.2]) rw'
  refine wpAny_eqBool_tuple hu (tup_key it (by simpa using i1)) (tup_key jt (by simpa using i2)) ?_
  rw [isT_at ha] at q
  have e:decide (([t.1,t.2]:List Int)=[tb.1,tb.2])=decide (t=tb):=by
    by_cases e:t=tb
    · rw [e]; simp
    · have:¬ ([t.1,t.2]:List Int)=[tb.1,tb.2]:=fun z=>e (by simp at z; exact Prod.ext z.1 z.2)
      rw [decide_eq_false e,decide_eq_false this]
  rw [e]; exact q
def rInT (neg:Bool):R2:=fun x y H Q=>∃ (b l:Addr) (tb:T2) (as:List Addr) (ts:List T2),x=.ref b∧y=.ref l∧H b=some (.tup (tv tb))∧H l=some (.lst (as.map V.ref))∧ThsAt H as ts∧Q (.bl (if neg then !decide (tb∈ts) else decide (tb∈ts))) H
theorem things_at (hu:X.A.units + 64 < cLine) {l b:Addr} {tb:T2} {as:List Addr} {ts:List T2} (I:Inv X pins σ H s) (hb:H b=some (.tup (tv tb))) (hl:H l=some (.lst (as.map V.ref))) (th:ThsAt H as ts) :
    s.heap.IsList l (as.map Value.ref).toArray∧∀ y,y∈(as.map Value.ref).toArray→SeqAt.EqAt X.A.in1 s y (.ref b) (isT H tb y):=by
  obtain ⟨z,its,n,vl,gl⟩:=(show ObjOk X.prog X.w H s.heap l (.lst (as.map V.ref)) from I.hok l _ hl)
  have ei:=vals_refs vl
  subst ei
  refine ⟨⟨_,gl,rfl,_,rfl⟩,fun y hy=>?_⟩
  have hy:y∈as.map Value.ref:=by simpa using hy
  obtain ⟨a,ha,rfl⟩:=List.mem_map.mp hy
  obtain ⟨j,hj⟩:=List.mem_iff_getElem?.mp ha
  obtain ⟨t,ht⟩:=get_of_lt (xs:=ts) (j:=j) (by rw [← Paired.length th]; exact (List.getElem?_eq_some_iff.mp hj).1)
  exact eqAt_th (by show X.A.units + 1 < cLine; omega) I (paired_get th j a t hj ht) hb
theorem op_notIn_things (hu:X.A.units + 64 < cLine):OpR X (compareOp .NotIn) (rInT true):=by
  intro pins s σ H x y v u Q I rx ry h
  obtain ⟨b,l,tb,as,ts,rfl,rfl,hb,hl,th,q⟩:=h
  cases rx
  cases ry
  obtain ⟨a1,a2⟩:=things_at hu I hb hl th
  refine SeqAt.notIn_listAt (isT H tb) a1 a2 ⟨.bl _,H,I,rfl,?_⟩
  rw [show (as.map Value.ref).toArray.any (isT H tb)=(as.map Value.ref).any (isT H tb) by simp,any_isT th]
  exact q
end
end FX
namespace FX
open PySem PySem.Spec PyProof.Rows L2
set_option linter.all false
section
variable {prog:Program} {w:World} {A:Around} {R:Result→Shared→Prop} {s:Shared} {l:Addr} {items:Array Value} {n:Nat} {x:Value}
end
section
variable {X:Cx}
end
end FX
namespace FX
open PySem PySem.Spec PyProof.Rows L2
set_option linter.all false
def rngO (p:Addr) (j:Int):HO:=.ext fun h=>∃ t u v,IsRange h p 0 j 1 t u v
def rg (n:Nat):List Int:=(List.range n).map fun k:Nat=>(k:Int)
theorem rg_len (n:Nat):(rg n).length=n:=by unfold rg; rw [List.length_map,List.length_range]
theorem rg_nd (n:Nat):(rg n).Nodup:=List.Pairwise.map _ (fun a b h z=>h (by omega)) List.nodup_range
theorem rg_get {n k:Nat} (h:k < n):(rg n)[k]?=some (k:Int):=by
  unfold rg
  rw [List.getElem?_map,List.getElem?_range h]; rfl
section
variable {X:Cx}
theorem call_rangeO:CallR X (.type "range") (fun xs H Q=>∃ j:Int,xs=[.int j]∧∀ p,H p=none→Q (.ref p) (upd H p (rngO p j))):=by
  intro pins s σ H xs us Q I r h
  obtain ⟨j,rfl,q⟩:=h
  obtain ⟨u,rfl,t,rfl⟩:=vals1 r
  have hn:H s.heap.objs.size=none:=I.hok.fresh (Nat.le_refl _)
  refine call_range_1 ⟨.ref s.heap.objs.size,_,I.laid (a:=s.heap.objs.size) (o:=rngO s.heap.objs.size j) (t':=s.toks + 1 + 1) (fun b o e=>Heap.get?_push_of_some _ e) (Nat.le_refl _) ?_,rfl,q _ hn⟩
  exact ⟨⟨_,_,_,IsRange.new ..⟩,⟨_,Heap.get?_push_size _ rfl⟩,fun h1 h2 ⟨t,u,v,e⟩ k=>⟨t,u,v,k _ e⟩⟩
theorem call_list_rng (hc:X.calm=true):CallR X (.type "list") (fun xs H Q=>∃ (p:Addr) (n:Nat),xs=[.ref p]∧H p=some (rngO p n)∧n≤1000∧∀ l,H l=none→Q (.ref l) (upd H l (.lst ((rg n).map V.int)))):=by
  intro pins s σ H xs us Q I r h
  obtain ⟨p,n,rfl,hp,hz,q⟩:=h
  obtain ⟨u,rfl,rx⟩:=vals1 r
  cases rx
  obtain ⟨⟨t,u,v,hr⟩,_⟩:=I.hok p _ hp
  have hsz:Builtin.Range.rangeSize 0 (n:Int) 1=n:=by rw [rangeSize_one]; split <;> omega
  refine call_list_range (n:=n) (I.ok.hd hc) hr (small_one (by omega) (by omega) (by omega) (by omega)) hsz (Nat.le_trans hz (by decide)) fun h' tk acc' c' kp e it=>?_
  have hn:H s.heap.objs.size=none:=I.hok.fresh (Nat.le_refl _)
  have lv:Vals ((rg n).map V.int) acc'.toList:=paired_of (by rw [List.length_map,rg_len,Array.length_toList]; exact it.1.symm) fun j x u e1 e2=>by
    have hj:=(List.getElem?_eq_some_iff.mp e1).1
    rw [List.length_map,rg_len] at hj
    rw [List.getElem?_map,rg_get hj] at e1
    have e1:V.int (j:Int)=x:=Option.some.inj e1
    subst e1
    obtain ⟨t,et⟩:=it.2 j u (by rw [← Array.getElem?_toList]; exact e2)
    exact ⟨t,by rw [et]; congr 1; omega⟩
  refine ⟨.ref s.heap.objs.size,_,I.laid (t':=tk) kp (Nat.le_refl _) (show ObjOk X.prog X.w _ h' _ (.lst ((rg n).map V.int)) from ⟨?_,acc'.toList,c',lv,by simpa using e⟩),rfl,q _ hn⟩
  rw [List.length_map,rg_len,sizeLine_eq]; omega
end
end FX
namespace FX
open PySem PySem.Spec PyProof.Rows L2
set_option linter.all false
def mflds (G:HGh):List (Key×V):=[(.inr "house",.int G.num),(.inr "hand",.ref G.h),(.inr "holds",.ref G.l),(.inr "outs",.ref G.o),(.inr "records",.ref G.r),(.inr "made",.int G.made),(.inr "ticks",.int G.ticks)]
def LstAt (H:Hp) (b:Addr) (ts:List T2):Prop:=∃ as:List Addr,H b=some (.lst (as.map V.ref))∧ThsAt H as ts
theorem ThsAt.keep {H H':Hp} (k:KeepT H H') {as:List Addr} {ts:List T2} (x:ThsAt H as ts):ThsAt H' as ts:=paired_mono (fun _ _ e=>k.tup _ _ e) x
structure ModelAt (H:Hp) (p:Addr) (G:HGh):Prop where
  ob:H p=some (.dK (mflds G))
  dh:LstAt H G.h G.hand
  dO:H G.o=some (dInt G.outs)
  dl:H G.l=some (dRef G.holds)
  dr:H G.r=some (dInt G.recs)
  hl:∀ q∈G.holds,LstAt H q.2.1 q.2.2
  nd:(p :: foot G).Nodup
section
variable {p:Addr} {H H':Hp} {G:HGh}
theorem nd_map_inj {α β:Type} {f:α→β}:∀ {l:List α},(l.map f).Nodup→∀ {a b:α},a∈l→b∈l→f a=f b→a=b
  | [],_,_,_,ha,_,_=>by cases ha
  | x :: l,nd,a,b,ha,hb,e=>by
    have nd:=List.nodup_cons.mp nd
    rcases List.mem_cons.mp ha with ha | ha <;> rcases List.mem_cons.mp hb with hb | hb
    · rw [ha,hb]
    · exact absurd (List.mem_map.mpr ⟨b,hb,by rw [← e,ha]⟩) nd.1
    · exact absurd (List.mem_map.mpr ⟨a,ha,by rw [e,hb]⟩) nd.1
    · exact nd_map_inj nd.2 ha hb e
end
end FX
namespace FX
open PySem PySem.Spec PyProof.Rows L2
set_option linter.all false
abbrev HL:=List (T2×Addr×List T2)
def hs0 (l:HL):List (T2×List T2):=l.map fun q=>(q.1,q.2.2)
def getH (l:HL) (t:T2):List T2:=((l.find? fun q=>decide (q.1=t)).map (·.2.2)).getD []
theorem find_of {l:HL} {t:T2} (h:t∈l.map (·.1)):∃ a,l.find? (fun q=>decide (q.1=t))=some (t,a,getH l t):=by
  cases e:l.find? fun q=>decide (q.1=t) with
  | none =>
    obtain ⟨q,hq,e2⟩:=List.mem_map.mp h
    have:=List.find?_eq_none.mp e q hq
    exact absurd e2 (by simpa using this)
  | some q =>
    have h1:q.1=t:=by have:=List.find?_some e; simpa using this
    refine ⟨q.2.1,?_⟩
    have:getH l t=q.2.2:=by unfold getH; rw [e]; rfl
    rw [this,← h1]
structure Like (M G:HGh):Prop where
  num:M.num=G.num
  made:M.made=G.made
  ticks:M.ticks=G.ticks
  hand:M.hand=G.hand
  outs:M.outs=G.outs
  recs:M.recs=G.recs
  holds:hs0 M.holds=hs0 G.holds
structure Ok (G:HGh) (n:Nat):Prop where
  hn:G.hand.Nodup
  hz:G.hand.length≤n
  on:(G.outs.map (·.1)).Nodup
  oz:G.outs.length≤n
  ke:G.holds.map (·.1)=G.outs.map (·.1)
  rn:(G.recs.map (·.1)).Nodup
  rz:G.recs.length≤n
  ln:∀ q∈G.holds,q.2.2.Nodup∧q.2.2.length≤n
  new:∀ t∈G.outs.map (·.1),t.1=G.num∧t.2 < G.made
  hk:∀ t∈G.hand,t.1=G.num→t∈G.outs.map (·.1)
  lk:∀ q∈G.holds,∀ t∈q.2.2,t.1=G.num→t∈G.outs.map (·.1)
  rk:∀ t∈G.recs.map (·.1),t.1≠G.num
def tk1 (G:HGh):HGh:={ G with ticks:=G.ticks + 1 }
theorem mem_addT' {l:List T2} {t u:T2}:u∈addT l t↔u∈l∨u=t:=by
  unfold addT
  by_cases h:t∈l
  · rw [if_pos h]
    exact ⟨.inl,fun z=>z.elim id fun z=>by rw [z]; exact h⟩
  · rw [if_neg h]; simp
theorem len_addT' (l:List T2) (t:T2):(addT l t).length≤l.length + 1:=by
  unfold addT
  by_cases e:t∈l
  · rw [if_pos e]; lia
  · rw [if_neg e]; simp
section
variable {M G:HGh} {n:Nat}
end
def Dj (p m:Addr) (G M:HGh):Prop:=∀ b,(b=m∨b∈foot M)→b≠p∧b∉foot G
structure Two (C p m:Addr) (H:Hp) (G M:HGh) (n:Nat):Prop where
  hs:HouseAt C H p G
  md:ModelAt H m M
  lk:Like M G
  ok:Ok G n
  dj:Dj p m G M
  mz:0≤G.made∧G.made≤n
section
variable {C p m:Addr} {H H':Hp} {G M:HGh} {n:Nat}
end
end FX
namespace FX
open PySem PySem.Spec PyProof.Rows L2
set_option linter.all false
section
variable {G M:HGh} {n:Nat}
end
end FX
namespace FX
open PySem PySem.Spec PyProof.Rows L2
set_option linter.all false
section
variable {prog:Program} {w:World}
theorem meets_lenT {d:Addr} {t:Shared} {o:Obj} {es:Array DictEntry} {ep:Nat} (ns:(d == sysModules)=false) (g1:t.heap.get? d=some o) (g3:o.data=.dict es ep) :
    MeetsIn prog w (Builtin.«dict.__len__» ⟨[.ref d],[]⟩) (fun _ R s=>s=t∧R (.ok (.ret (.int es.size t.toks))) { t with toks:=t.toks + 1 }):=.of_wp fun A R s hS=>by
  obtain ⟨rfl,hR⟩:=hS
  change wpAny _ _ ((dictEntries d >>= fun es=>pure es.size) >>= _) _ _ s
  exact wpAny_bind (wpAny_bind (wpAny_dictEntries g1 g3 (wpAny_pure (wpAny_bind (wpAny_pendingCount_other ns (wpAny_ret_mkInt (by simpa using hR)))))))
end
section
variable {X:Cx}
theorem call_lenT:CallR X (.builtin "len") (fun xs H Q=>∃ a kvs,xs=[V.ref a]∧H a=some (.dT kvs)∧Q (.int kvs.length) H):=by
  intro pins s σ H xs us Q I rv h
  obtain ⟨d,kvs,rfl,hd,q⟩:=h
  obtain ⟨u,rfl,rx⟩:=vals1 rv
  cases rx
  obtain ⟨z,ns,ys,rel,o,es,ep,g1,g2,g3,g4,g5⟩:=(show ObjOk X.prog X.w H s.heap d (.dT kvs) from I.hok d _ hd)
  obtain ⟨_,_,_,_,dd⟩:=dt_of I.hok hd
  have hz:es.size=kvs.length:=by
    have h1:=congrArg List.length g4
    have h2:=Paired.length rel
    simp only [List.length_map,Array.length_toList] at h1
    rw [h1,← h2]
  rw [sizeLine_eq] at z
  refine Calls.call_function_entry kind_len plain_len entry_len (args_len1 _) ?_
  unfold Builtin.«len»
  refine wpAny_bind (m:=oneArg "len" _) (wpAny_pure (wpAny_bind (m:=callSpecial? (.ref d) (Str.ofString "__len__")) (wpAny_callSpecial?_slot (name:=Str.ofString "__len__") dd.typeIs PySem.F.slot_dict_len
    (call_meetsIn PySem.F.slot_dict_len dd.typeIs PySem.F.entry_dict_len (PySem.F.args_dict_len_1 _) (meets_lenT ns g1 g3) ⟨rfl,?_⟩))))
  rw [hz]
  refine wpAny_bind (s:={ s with toks:=s.toks + 1 }) (wpAny_holding (wpAny_pure (wpAny_bind (wpAny_letGo ?_))))
  change wpAny _ _ (if ((kvs.length:Nat):Int) < 0 then _ else (if ((kvs.length:Nat):Int) ≥ 2 ^ 63 then _ else _)) _ _ _
  rw [if_neg (by lia),if_neg (by lia)]
  exact wpAny_bind (wpAny_mkInt (wpAny_pure ⟨_,rfl,.int kvs.length,H,(I.tok _).tok _,⟨_,rfl⟩,q⟩))
end
end FX
namespace FX
open PySem PySem.Spec PyProof.Rows L2
set_option linter.all false
section
variable {prog:Program} {w:World} {K:Type} [DecidableEq K] {knd:HeapKind prog w K} {A:Around} {E:Value→Shared→Prop} {s:Shared}
end
end FX
namespace FX
open PySem PySem.Spec PyProof.Rows L2
set_option linter.all false
section
variable {X:Cx} {pins:List (Addr×Obj)} {σ:L2.St} {H:Hp} {s:Shared} {A:Around} {E:Value→Shared→Prop}
end
section
variable {X:Cx}
end
end FX
namespace FX
open PySem PySem.Spec PyProof.Rows L2
set_option linter.all false
def hN (a b:Nat):Int:=reduceHash (Builtin.Tuple.tupleHashOf [hashInt (a:Int),hashInt (b:Int)])
end FX
namespace FX
open PySem PySem.Spec PyProof.Rows L2
set_option linter.all false
theorem paired_snoc' {α β:Type} {R:α→β→Prop}:∀ {as:List α} {bs:List β},Paired R as bs→∀ {a:α} {b:β},R a b→Paired R (as++[a]) (bs++[b])
  | _,_,.nil,_,_,h=>.cons h .nil
  | _,_,.cons h t,_,_,h'=>.cons h (paired_snoc' t h')
theorem filter_take {α:Type} (b:α→Bool) {ts:List α} {i:Nat} {t:α} (h:ts[i]?=some t):(ts.take (i + 1)).filter b=(ts.take i).filter b++(if b t=true then [t] else []):=by
  rw [List.take_succ,h,List.filter_append]
  cases e:b t <;> simp [e]
theorem len_filter_take {α:Type} (b:α→Bool) (ts:List α) (i:Nat):((ts.take i).filter b).length≤ts.length:=by
  have h1:=List.length_filter_le b (ts.take i)
  have h2:(ts.take i).length≤ts.length:=by rw [List.length_take]; lia
  lia
def Chosen (p:Addr) (b:T2→Bool) (ts:List T2) (H:Hp) (i:Nat) (ys:List V) (H2:Hp):Prop :=
  ∃ bs:List Addr,ys=bs.map V.ref∧Same H H2∧H2 p=some (.lst ys)∧ThsAt H2 bs ((ts.take i).filter b)
section
variable {p:Addr} {b:T2→Bool} {ts:List T2} {H:Hp} {tt:TT} {caps:List (Str×Nat)} {σ:L2.St} {Q:Hp→Prop}
theorem Chosen.start (hp:H p=none):Chosen p b ts H 0 [] (upd H p (.lst [])):=⟨[],rfl,same_new hp,upd_same,.nil⟩
theorem Chosen.turn (hp:H p=none) (hz:ts.length≤900) (ht:∀ (H2:Hp) (a:Addr) (t:T2) (Q':Bool→Hp→Prop),Same H H2→H2 a=some (.tup (tv t))→t∈ts→Q' (b t) H2→tt (some (.ref a) :: capv σ caps) H2 Q')
    {i:Nat} {ys:List V} {H2:Hp} {a:Addr} {t:T2} {N:List V→Hp→Prop} (pv:Chosen p b ts H i ys H2) (hi:ts[i]?=some t) (ha:H2 a=some (.tup (tv t))) (n:∀ ys H',Chosen p b ts H (i + 1) ys H'→N ys H') :
    tt (some (.ref a) :: capv σ caps) H2 fun c H4=>if c=true then tVar 0 (some (.ref a) :: capv σ caps) H4 fun v H5=>H5 p=some (.lst ys)∧ys.length < sizeLine∧N (ys++[v]) (upd H5 p (.lst (ys++[v]))) else N ys H4:=by
  obtain ⟨bs,ey,sm,hp2,th⟩:=pv
  have e1:=filter_take b hi
  have ln:ys.length≤ts.length:=by rw [ey,List.length_map,Paired.length th]; exact len_filter_take b ts i
  refine ht H2 a t _ sm ha (List.mem_of_getElem? hi) ?_
  cases c:b t with
  | false =>
    rw [c] at e1
    rw [if_neg (by decide)]
    exact n ys H2 ⟨bs,ey,sm,hp2,by rw [e1]; simpa using th⟩
  | true =>
    rw [c,if_pos rfl] at e1
    rw [if_pos rfl]
    have s2:Same H (upd H2 p (.lst (ys++[V.ref a]))):=fun d o e=>by
      rw [upd_ne (ne_of_none e hp)]; exact sm d o e
    have kt:KeepT H2 (upd H2 p (.lst (ys++[V.ref a]))):=KeepT.upd fun o' e=>by
      rw [hp2] at e; cases e; exact ⟨fun _ z=>(by cases z),fun _ _ z=>(by cases z)⟩
    refine ⟨_,rfl,hp2,small1000 (by lia),n _ _ ⟨bs++[a],by rw [ey,List.map_append]; rfl,s2,upd_same,?_⟩⟩
    rw [e1]
    exact paired_snoc' (ThsAt.keep kt th) (kt.tup _ _ ha)
theorem filt_list {K:PySem.W.Frag} {l:Addr} {as:List Addr} (hp:H p=none) (hz:ts.length≤900) (hl:H l=some (.lst (as.map V.ref))) (th:ThsAt H as ts)
    (ht:∀ (H2:Hp) (a:Addr) (t:T2) (Q':Bool→Hp→Prop),Same H H2→H2 a=some (.tup (tv t))→t∈ts→Q' (b t) H2→tt (some (.ref a) :: capv σ caps) H2 Q')
    (k:∀ (H2:Hp) (bs:List Addr),Same H H2→H2 p=some (.lst (bs.map V.ref))→ThsAt H2 bs (ts.filter b)→Q H2) :
    ∃ W:Nat→Nat→List V→Hp→Prop,(∃ m,W 0 m [] (upd H p (.lst [])))∧∀ i m ys H2,W i m ys H2→H2 p=some (.lst ys) ∧
      (((Itl K l).stop i H2∧Q H2)∨((Itl K l).go i H2∧∀ x H3,(Itl K l).yld i H2 x H3→tt (some x :: capv σ caps) H3 fun b H4 =>
        if b=true then tVar 0 (some x :: capv σ caps) H4 fun v H5=>H5 p=some (.lst ys)∧ys.length < sizeLine∧∃ m',m' < m∧W (i + 1) m' (ys++[v]) (upd H5 p (.lst (ys++[v])))
        else ∃ m',m' < m∧W (i + 1) m' ys H4)):=by
  have lt:=Paired.length th
  refine comp_list (K:=K) (a:=l) (p:=p) (xs:=as.map V.ref) (caps:=caps) (fun i ys H2=>Chosen p b ts H i ys H2) (Chosen.start hp) (fun i ys H2 _ pv=>?_) (fun i x ys H2 N hx pv n=>?_) fun ys H2 pv=>?_
  · obtain ⟨bs,_,sm,hp2,_⟩:=pv
    exact ⟨SqL.of (sm _ _ hl),hp2⟩
  · rw [List.getElem?_map] at hx
    cases ea:as[i]? with
    | none=>rw [ea] at hx; cases hx
    | some a =>
      rw [ea] at hx
      have hx:V.ref a=x:=Option.some.inj hx
      subst hx
      obtain ⟨t,et⟩:=get_of_lt (xs:=ts) (j:=i) (by have:=(List.getElem?_eq_some_iff.mp ea).1; lia)
      have ha:=paired_get th i a t ea et
      obtain ⟨bs,e0,sm,hp2,th2⟩:=id pv
      exact Chosen.turn hp hz ht pv et (sm _ _ ha) n
  · obtain ⟨bs,ey,sm,hp2,th2⟩:=pv
    rw [List.length_map,lt,List.take_length] at th2
    exact k H2 bs sm (by rw [← ey]; exact hp2) th2
theorem filt_dict {α:Type} {d:Addr} {l:List α} {key:α→T2} {val:α→V} {ob:Obj} (hp:H p=none) (hz:l.length≤900) (hd:H d=some (.frz ob (.dT (l.map fun q=>(tk (key q),val q)))))
    (ht:∀ (H2:Hp) (a:Addr) (t:T2) (Q':Bool→Hp→Prop),Same H H2→H2 a=some (.tup (tv t))→t∈l.map key→Q' (b t) H2→tt (some (.ref a) :: capv σ caps) H2 Q')
    (k:∀ (H2:Hp) (bs:List Addr),Same H H2→H2 p=some (.lst (bs.map V.ref))→ThsAt H2 bs ((l.map key).filter b)→Q H2) :
    ∃ W:Nat→Nat→List V→Hp→Prop,(∃ m,W 0 m [] (upd H p (.lst [])))∧∀ i m ys H2,W i m ys H2→H2 p=some (.lst ys) ∧
      (((ItD d (l.map fun q=>(tk (key q),val q)) ob).stop i H2∧Q H2)∨((ItD d (l.map fun q=>(tk (key q),val q)) ob).go i H2∧∀ x H3,(ItD d (l.map fun q=>(tk (key q),val q)) ob).yld i H2 x H3→tt (some x :: capv σ caps) H3 fun b H4 =>
        if b=true then tVar 0 (some x :: capv σ caps) H4 fun v H5=>H5 p=some (.lst ys)∧ys.length < sizeLine∧∃ m',m' < m∧W (i + 1) m' (ys++[v]) (upd H5 p (.lst (ys++[v])))
        else ∃ m',m' < m∧W (i + 1) m' ys H4)):=by
  have hz':(l.map key).length≤900:=by rw [List.length_map]; exact hz
  refine ⟨fun i m ys H2=>m=l.length - i∧i≤l.length∧Chosen p b (l.map key) H i ys H2,⟨l.length,by simp,Nat.zero_le _,Chosen.start hp⟩,?_⟩
  rintro i m ys H2 ⟨rfl,hi,pv⟩
  obtain ⟨bs,ey,sm,hp2,th2⟩:=id pv
  have hd2:=sm _ _ hd
  refine ⟨hp2,?_⟩
  by_cases hlt:i < l.length
  · refine .inr ⟨⟨hd2,by rw [List.length_map]; exact hlt⟩,fun x H3 y=>?_⟩
    obtain ⟨e,a,kk,v,ex,ek,ha⟩:=y
    subst e ex
    rw [List.getElem?_map] at ek
    obtain ⟨q,hq⟩:=get_of_lt hlt
    rw [hq] at ek
    have ek:(tk (key q),val q)=(kk,v):=Option.some.inj ek
    have e1:kk=tk (key q):=(Prod.mk.inj ek).1.symm
    rw [e1,tk_kV] at ha
    exact Chosen.turn (N:=fun zs H'=>∃ m',m' < l.length - i∧(m'=l.length - (i + 1)∧i + 1≤l.length∧Chosen p b (l.map key) H (i + 1) zs H')) hp hz' ht pv (by rw [List.getElem?_map,hq]; rfl) ha fun zs H' pz=>⟨_,by lia,rfl,hlt,pz⟩
  · have e:i=l.length:=by lia
    subst e
    refine .inl ⟨⟨hd2,by rw [List.length_map]; exact Nat.le_refl _⟩,?_⟩
    have e2:(l.map key).take l.length=l.map key:=by rw [← List.length_map (f:=key),List.take_length]
    rw [e2] at th2
    exact k H2 bs sm (by rw [← ey]; exact hp2) th2
end
end FX
namespace FX
open PySem PySem.Spec PyProof.Rows L2
set_option linter.all false
def Rch (nx:T2→List T2):Nat→List T2→List T2→List T2→Prop
  | 0,ahead,found,R=>ahead=[]∧R=found
  | n + 1,ahead,found,R=>∃ a t,ahead=a++[t]∧((t∈found∧Rch nx n a found R)∨(t∉found∧Rch nx n (a++nx t) (found++[t]) R))
theorem Rch.len {nx:T2→List T2}:∀ {n:Nat} {ahead found R:List T2},Rch nx n ahead found R→ahead.length≤n
  | 0,_,_,_,h=>by rw [h.1]; exact Nat.le_refl _
  | n + 1,_,_,_,⟨a,t,e,h⟩=>by
    rw [e,List.length_append]
    rcases h with ⟨_,h⟩ | ⟨_,h⟩
    · have:=h.len; show a.length + 1≤n + 1; lia
    · have:=h.len; rw [List.length_append] at this; show a.length + 1≤n + 1; lia
theorem Rch.sub {nx:T2→List T2}:∀ {n:Nat} {ahead found R:List T2},Rch nx n ahead found R→(∀ t∈found,t∈R)∧∀ t∈ahead,t∈R
  | 0,_,_,_,h=>by rw [h.1,h.2]; exact ⟨fun _ z=>z,fun _ z=>by cases z⟩
  | n + 1,_,_,_,⟨a,t,e,h⟩=>by
    rw [e]
    rcases h with ⟨ht,h⟩ | ⟨_,h⟩
    · refine ⟨h.sub.1,fun u hu=>?_⟩
      rcases List.mem_append.mp hu with hu | hu
      · exact h.sub.2 u hu
      · have:u=t:=by simpa using hu
        rw [this]; exact h.sub.1 t ht
    · refine ⟨fun u hu=>h.sub.1 u (List.mem_append_left _ hu),fun u hu=>?_⟩
      rcases List.mem_append.mp hu with hu | hu
      · exact h.sub.2 u (List.mem_append_left _ hu)
      · exact h.sub.1 u (List.mem_append_right _ hu)
theorem Rch.closed {nx:T2→List T2}:∀ {n:Nat} {ahead found R:List T2},Rch nx n ahead found R→(∀ t∈found,∀ u∈nx t,u∈found∨u∈ahead)→∀ t∈R,∀ u∈nx t,u∈R
  | 0,_,_,_,h,c=>by
    rw [h.2]; rw [h.1] at c
    exact fun t ht u hu=>(c t ht u hu).elim id fun z=>by cases z
  | n + 1,_,found,_,⟨a,t,e,h⟩,c=>by
    rw [e] at c
    rcases h with ⟨ht,h⟩ | ⟨_,h⟩
    · refine h.closed fun s hs u hu=>?_
      rcases c s hs u hu with z | z
      · exact .inl z
      · rcases List.mem_append.mp z with z | z
        · exact .inr z
        · have:u=t:=by simpa using z
          rw [this]; exact .inl ht
    · refine h.closed fun s hs u hu=>?_
      rcases List.mem_append.mp hs with hs | hs
      · rcases c s hs u hu with z | z
        · exact .inl (List.mem_append_left _ z)
        · rcases List.mem_append.mp z with z | z
          · exact .inr (List.mem_append_left _ z)
          · exact .inl (List.mem_append_right _ z)
      · have:s=t:=by simpa using hs
        rw [this] at hu
        exact .inr (List.mem_append_right _ hu)
theorem Rch.least {nx:T2→List T2} {S:T2→Prop} (cl:∀ t,S t→∀ u∈nx t,S u):∀ {n:Nat} {ahead found R:List T2},Rch nx n ahead found R→(∀ t∈found,S t)→(∀ t∈ahead,S t)→∀ t∈R,S t
  | 0,_,_,_,h,f,_=>by rw [h.2]; exact f
  | n + 1,_,_,_,⟨a,t,e,h⟩,f,g=>by
    rw [e] at g
    have gt:=g t (List.mem_append_right _ (by simp))
    rcases h with ⟨ht,h⟩ | ⟨_,h⟩
    · exact h.least cl f fun u hu=>g u (List.mem_append_left _ hu)
    · refine h.least cl (fun u hu=>?_) fun u hu=>?_
      · rcases List.mem_append.mp hu with hu | hu
        · exact f u hu
        · have:u=t:=by simpa using hu
          rw [this]; exact gt
      · rcases List.mem_append.mp hu with hu | hu
        · exact g u (List.mem_append_left _ hu)
        · exact cl t gt u hu
theorem split_last {α:Type}:∀ {l:List α},l≠[]→∃ a t,l=a++[t]
  | [],h=>absurd rfl h
  | [x],_=>⟨[],x,rfl⟩
  | x :: y :: l,_=>by
    obtain ⟨a,t,e⟩:=split_last (l:=y :: l) (by simp)
    exact ⟨x :: a,t,by rw [e]; rfl⟩
theorem Rch.ex {nx:T2→List T2} {keys:List T2} {B:Nat} (sub:∀ t,∀ u∈nx t,u∈keys) (sz:∀ t,(nx t).length≤B):∀ (m:Nat) (ahead found:List T2),(∀ t∈ahead,t∈keys)→(keys.filter fun t=>decide (t∉found)).length * (B + 1) + ahead.length≤m→∃ n R,n≤m∧Rch nx n ahead found R
  | m,ahead,found,ha,hm=>by
    by_cases e:ahead=[]
    · exact ⟨0,found,Nat.zero_le _,e,rfl⟩
    obtain ⟨a,t,ea⟩:=split_last e
    have l1:ahead.length=a.length + 1:=by rw [ea,List.length_append]; rfl
    have ha':∀ u∈a,u∈keys:=fun u hu=>ha u (by rw [ea]; exact List.mem_append_left _ hu)
    have ht:t∈keys:=ha t (by rw [ea]; exact List.mem_append_right _ (by simp))
    match m,hm with
    | 0,hm=>exact absurd hm (by lia)
    | m + 1,hm =>
      by_cases hf:t∈found
      · obtain ⟨n,R,h1,h2⟩:=Rch.ex sub sz m a found ha' (by lia)
        exact ⟨n + 1,R,by lia,a,t,ea,.inl ⟨hf,h2⟩⟩
      · have lt:(keys.filter fun u=>decide (u∉found++[t])).length < (keys.filter fun u=>decide (u∉found)).length:=by
          have e1:(keys.filter fun u=>decide (u∉found++[t]))=(keys.filter fun u=>decide (u∉found)).filter fun u=>decide (u≠t):=by
            rw [List.filter_filter]
            refine List.filter_congr fun u _=>?_
            by_cases c1:u∈found <;> by_cases c2:u=t <;> simp [c1,c2]
          rw [e1]
          refine List.length_filter_lt_length_iff_exists.mpr ⟨t,List.mem_filter.mpr ⟨ht,by simpa using hf⟩,by simp⟩
        have l2:=sz t
        have key:(keys.filter fun u=>decide (u∉found++[t])).length * (B + 1) + (a++nx t).length≤m:=by
          rw [List.length_append]
          have:((keys.filter fun u=>decide (u∉found++[t])).length + 1) * (B + 1)≤(keys.filter fun u=>decide (u∉found)).length * (B + 1):=Nat.mul_le_mul_right _ lt
          rw [Nat.add_mul,Nat.one_mul] at this
          lia
        obtain ⟨n,R,h1,h2⟩:=Rch.ex sub sz m (a++nx t) (found++[t]) (fun u hu=>(List.mem_append.mp hu).elim (ha' u) (sub t u)) key
        exact ⟨n + 1,R,by lia,a,t,ea,.inr ⟨hf,h2⟩⟩
def nxT (hl:HL) (t:T2):List T2:=(getH hl t).filter fun u=>decide (u∈hl.map (·.1))
end FX
namespace FX
open PySem PySem.Spec PyProof.Rows L2
set_option linter.all false
section
variable {C p m:Addr} {H H':Hp} {G M:HGh} {n:Nat}
end
theorem for_dict {d:Addr} {kvs:List (List Key×V)} {ob:Obj} {g:TG} {tb:TS} {D:Ends} {σ:L2.St} {H:Hp} (Pv:Nat→L2.St→Hp→Prop) (h0:Pv 0 σ H) (hf:∀ i σ H,i≤kvs.length→Pv i σ H→H d=some (.frz ob (.dT kvs)))
    (hs:∀ i a k v σ H,kvs[i]?=some (k,v)→H a=some (.tup (k.map kV))→Pv i σ H→g (.ref a) σ H fun σ2 H2=>tb { D with nx:=Pv (i + 1),ct:=Pv (i + 1),bk:=D.nx } σ2 H2) (hd:∀ σ H,Pv kvs.length σ H→D.nx σ H) :
    ∃ W:Nat→Nat→L2.St→Hp→Prop,(∃ m,W 0 m σ H)∧∀ i m σ H,W i m σ H →
      ((ItD d kvs ob).stop i H∧D.nx σ H)∨((ItD d kvs ob).go i H∧∃ N:L2.St→Hp→Prop,(∀ σ' H',N σ' H'→∃ m',m' < m∧W (i + 1) m' σ' H')∧∀ x H',(ItD d kvs ob).yld i H x H'→g x σ H' fun σ2 H2=>tb { D with nx:=N,ct:=N,bk:=D.nx } σ2 H2):=by
  refine ⟨fun i m σ H=>m=kvs.length - i∧i≤kvs.length∧Pv i σ H,⟨kvs.length,by simp,Nat.zero_le _,h0⟩,?_⟩
  rintro i m σ H ⟨rfl,hi,pv⟩
  have fz:=hf i σ H hi pv
  by_cases hlt:i < kvs.length
  · refine .inr ⟨⟨fz,hlt⟩,Pv (i + 1),fun σ' H' p'=>⟨kvs.length - (i + 1),by lia,rfl,hlt,p'⟩,fun x H' y=>?_⟩
    obtain ⟨e,a,k,v,ex,ek,ha⟩:=y
    subst e ex
    exact hs i a k v σ _ ek ha pv
  · have e:i=kvs.length:=by lia
    subst e
    exact .inl ⟨⟨fz,Nat.le_refl _⟩,hd σ H pv⟩
def addAll (l m:List T2):List T2:=m.foldl addT l
theorem mem_addAll:∀ {m l:List T2} {t:T2},t∈addAll l m↔t∈l∨t∈m
  | [],l,t=>by simp [addAll]
  | u :: m,l,t=>by
    show t∈addAll (addT l u) m↔_
    rw [mem_addAll,mem_addT',List.mem_cons,or_assoc]
theorem addAll_len:∀ (m l:List T2),(addAll l m).length≤l.length + m.length
  | [],l=>Nat.le_refl _
  | u :: m,l=>by
    have h1:(addAll (addT l u) m).length≤_:=addAll_len m (addT l u)
    have h2:=len_addT' l u
    show (addAll (addT l u) m).length≤l.length + (m.length + 1)
    lia
end FX
namespace FX
open PySem PySem.Spec PyProof.Rows L2
set_option linter.all false
theorem rel_key {k:Key} {u:Value} (h:keyIs k u=true):RelV (kV k) u:=by
  rcases keyIs_shape h with ⟨i,t,rfl,rfl⟩ | ⟨x,t,rfl,rfl⟩
  · exact ⟨t,rfl⟩
  · exact ⟨t,rfl⟩
section
variable {X:Cx} {pins:List (Addr×Obj)} {σ:L2.St} {H:Hp} {s:Shared} {d:Addr}
theorem inv_freezeK {kvs:List (Key×V)} (I:Inv X pins σ H s) (e:H d=some (.dK kvs)):∃ o,s.heap.get? d=some o∧Inv X pins σ (upd H d (.frz o (.dK kvs))) s:=by
  have ok:=I.hok d _ e
  obtain ⟨_,_,vs,_,o,es,ep,g,_⟩:=id ok
  refine ⟨o,g,inv_retold I ⟨_,e⟩ (fun xs z=>by rw [e] at z; cases z) (fun y z=>by rw [e] at z; cases z) (fun ob v z=>by have:=I.base.frzs d ob v z; rw [e] at this; cases this) (fun ps z=>by rw [e] at z; cases z) ⟨g,?_⟩⟩
  refine ok.stay (fun c w' _ q=>q) (fun c q=>?_) fun c xs q=>?_
  · rw [upd_ne fun z=>by rw [z,e] at q; cases q]; exact q
  · rw [upd_ne fun z=>by rw [z,e] at q; cases q]; exact q
theorem dk_at {kvs:List (Key×V)} {o:Obj} {es:Array DictEntry} {ep:Nat} (I:Inv X pins σ H s) (hg:H d=some (.frz o (.dK kvs))) (hd:o.data=.dict es ep):∃ vs,KV kvs vs∧(d == sysModules)=false∧s.heap.DictAt (mixKind X.prog X.w) d vs ep:=by
  obtain ⟨g,z,lo,vs,rel,o',es',ep',g',c',q',k',p',n'⟩:=(show ObjOk X.prog X.w H s.heap d (.frz o (.dK kvs)) from I.hok d _ hg)
  rw [g] at g'; cases g'
  rw [hd] at q'
  injection q' with q1 q2
  subst q1; subst q2
  exact ⟨vs,rel,lo,o,es,g,c',hd,k',p',n'⟩
end
def ItK (d:Addr) (kvs:List (Key×V)) (o:Obj):It :=
  ⟨fun i H=>H d=some (.frz o (.dK kvs))∧i < kvs.length,fun i H x H'=>H'=H∧∃ k v,x=kV k∧kvs[i]?=some (k,v),fun i H=>H d=some (.frz o (.dK kvs))∧kvs.length≤i⟩
def ItV (d:Addr) (kvs:List (Key×V)) (o:Obj):It :=
  ⟨fun i H=>H d=some (.frz o (.dK kvs))∧i < kvs.length,fun i H x H'=>H'=H∧∃ k,kvs[i]?=some (k,x),fun i H=>H d=some (.frz o (.dK kvs))∧kvs.length≤i⟩
theorem turn_dictK {P:Program} {w:World} {K:PySem.W.Frag} {tg:Expr} (d it:Addr) (kvs:List (Key×V)) (o:Obj) (es:Array DictEntry) (ep:Nat) (hd:o.data=.dict es ep):Turn P w K tg (ItK d kvs o) [it] it (fun i h=>h.IsKeyIter it d i kvs.length ep) where
  mem:=by simp
  obj:=fun i h st b hb=>by
    have e:b=it:=by simpa using hb
    subst e
    obtain ⟨oi,e,c,q⟩:=st
    exact ⟨oi,e,fun v z=>by rw [q] at z; cases z⟩
  keep:=fun i h h' ⟨oi,e,r⟩ k=>⟨oi,k it (by simp) oi e,r⟩
  item:=by
    intro X hP hw hK hc i pins s σ H E I hf st ⟨hg,hi⟩
    subst hP hw hK
    obtain ⟨f0,f1,f2,f3,f4,f5⟩:=hf it (by simp)
    obtain ⟨vs,rel,lo,da⟩:=dk_at I hg hd
    have hl:kvs.length=vs.length:=Paired.length rel
    have hx:kvs[i]?=some kvs[i]:=by simp [hi]
    have hy:vs[i]?=some (vs[i]'(by lia)):=by simp [show i < vs.length by lia]
    obtain ⟨ek,rv⟩:=paired_get rel i _ _ hx hy
    have st':s.heap.IsKeyIter it d i vs.length ep:=by rw [← hl]; exact st
    refine wpAny_pyNext_dict_item st' da (k:=(vs[i]'(by lia)).1) (v:=(vs[i]'(by lia)).2) hy fun key h' hkey st2 sb=>?_
    have I1:Inv X pins σ H { s with heap:=h' }:=I.turned (t':=s.toks) (fun b ob hb e=>(sb.2 b hb).trans e) f0 f1 f3 f4 f5
    obtain ⟨oi,e,c,q⟩:=id st2
    refine ⟨_,rfl,go_of (s:={ s with heap:=h' }) e c q (by decide) ⟨kV kvs[i].1,H,I1,?_,⟨rfl,kvs[i].1,kvs[i].2,rfl,hx⟩,(by rw [hl]; exact st2),fun b hb=>(hf b hb).1⟩⟩
    rw [ek]
    exact rel_key hkey
  done:=by
    intro X hP hw hK hc i pins s σ H E I hf st ⟨hg,hi⟩
    subst hP hw hK
    obtain ⟨f0,f1,f2,f3,f4,f5⟩:=hf it (by simp)
    obtain ⟨vs,rel,lo,da⟩:=dk_at I hg hd
    have hl:kvs.length=vs.length:=Paired.length rel
    have st':s.heap.IsKeyIter it d i vs.length ep:=by rw [← hl]; exact st
    exact wpAny_pyNext_dict_end (I.ok.hd hc) st' da (by rw [List.getElem?_eq_none_iff]; lia) fun h' eb=>⟨rfl,I.turned (t':=s.toks) (fun b ob hb e=>eb b ob hb e) f0 f1 f3 f4 f5⟩
  self:=fun _ _ _ _ _ st h=>wpAny_pyIter_keyiter st h
theorem turn_values {P:Program} {w:World} {K:PySem.W.Frag} {tg:Expr} (d it:Addr) (kvs:List (Key×V)) (o:Obj) (es:Array DictEntry) (ep:Nat) (hd:o.data=.dict es ep):Turn P w K tg (ItV d kvs o) [it] it (fun i h=>h.IsValIter it d i kvs.length ep) where
  mem:=by simp
  obj:=fun i h st b hb=>by
    have e:b=it:=by simpa using hb
    subst e
    obtain ⟨oi,e,c,q⟩:=st
    exact ⟨oi,e,fun v z=>by rw [q] at z; cases z⟩
  keep:=fun i h h' ⟨oi,e,r⟩ k=>⟨oi,k it (by simp) oi e,r⟩
  item:=by
    intro X hP hw hK hc i pins s σ H E I hf st ⟨hg,hi⟩
    subst hP hw hK
    obtain ⟨f0,f1,f2,f3,f4,f5⟩:=hf it (by simp)
    obtain ⟨vs,rel,lo,da⟩:=dk_at I hg hd
    have hl:kvs.length=vs.length:=Paired.length rel
    have hx:kvs[i]?=some kvs[i]:=by simp [hi]
    have hy:vs[i]?=some (vs[i]'(by lia)):=by simp [show i < vs.length by lia]
    obtain ⟨ek,rv⟩:=paired_get rel i _ _ hx hy
    have st':s.heap.IsValIter it d i vs.length ep:=by rw [← hl]; exact st
    refine wpAny_pyNext_values_item st' da (k:=(vs[i]'(by lia)).1) (v:=(vs[i]'(by lia)).2) hy fun h' st2 sb=>?_
    have I1:Inv X pins σ H { s with heap:=h' }:=I.turned (t':=s.toks) (fun b ob hb e=>(sb.2 b hb).trans e) f0 f1 f3 f4 f5
    obtain ⟨oi,e,c,q⟩:=id st2
    exact ⟨_,rfl,go_of (s:={ s with heap:=h' }) e c q (by decide) ⟨kvs[i].2,H,I1,rv,⟨rfl,kvs[i].1,hx⟩,(by rw [hl]; exact st2),fun b hb=>(hf b hb).1⟩⟩
  done:=by
    intro X hP hw hK hc i pins s σ H E I hf st ⟨hg,hi⟩
    subst hP hw hK
    obtain ⟨f0,f1,f2,f3,f4,f5⟩:=hf it (by simp)
    obtain ⟨vs,rel,lo,da⟩:=dk_at I hg hd
    have hl:kvs.length=vs.length:=Paired.length rel
    have st':s.heap.IsValIter it d i vs.length ep:=by rw [← hl]; exact st
    exact wpAny_pyNext_values_end (I.ok.hd hc) st' da (by rw [List.getElem?_eq_none_iff]; lia) fun h' eb=>⟨rfl,I.turned (t':=s.toks) (fun b ob hb e=>eb b ob hb e) f0 f1 f3 f4 f5⟩
  self:=fun _ _ _ _ _ st h=>wpAny_pyIter_valiter st h
section
variable {X:Cx} {tg:Expr}
def iDictK (td:TE):TI:=fun σ H R=>td σ H fun x H1=>∃ d kvs,x=.ref d∧H1 d=some (.dK kvs)∧∀ o,R (ItK d kvs o) (upd H1 d (.frz o (.dK kvs)))
theorem pi_dictK {l:Expr} {td:TE} (hl:PE X l td):PI X tg l (iDictK td):=by
  intro pins s σ H R I h
  refine thn (hl pins s σ H _ I h) fun v s1 ⟨x,H1,I1,r1,d,kvs,ex,hd,hR⟩=>?_
  subst ex
  cases r1
  obtain ⟨o,g,I2⟩:=inv_freezeK I1 hd
  obtain ⟨z,lo,vs,rel,o',es,ep,g',c',q',k',p',n'⟩:=(show ObjOk X.prog X.w H1 s1.heap d (.dK kvs) from I1.hok d _ hd)
  rw [g] at g'; cases g'
  have hlen:kvs.length=vs.length:=Paired.length rel
  have da:s1.heap.DictAt (mixKind X.prog X.w) d vs ep:=⟨o,es,g,c',q',k',p',n'⟩
  refine wpAny_pyIter_dict lo da ?_
  have fresh:=I2.hok.fresh (Nat.le_refl _)
  have I3:Inv X pins σ (upd H1 d (.frz o (.dK kvs))) { s1 with heap:=s1.heap.push { cls:=.type "dict_keyiterator",data:=.fields #[.ref d,.int 0 0,.int vs.length 0,.int ep 0] } }:=I2.kept (t':=s1.toks) fun b ob e=>Heap.get?_push_of_some _ e
  refine ⟨s1.heap.objs.size,[s1.heap.objs.size],_,ItK d kvs o,_,rfl,I3,turn_dictK d _ kvs o es ep q',(by rw [hlen]; exact ⟨_,Heap.get?_push_size _ rfl,rfl,rfl⟩),fun b hb=>?_,hR o⟩
  have e:b=s1.heap.objs.size:=by simpa using hb
  subst e
  exact I2.fpOk (Nat.le_refl _) fresh
def iVals (td:TE):TI:=fun σ H R=>td σ H fun x H1=>∃ p d kvs,x=.ref p∧H1 p=some (viewO p d)∧H1 d=some (.dK kvs)∧∀ o,R (ItV d kvs o) (upd H1 d (.frz o (.dK kvs)))
theorem pi_values {l:Expr} {td:TE} (hl:PE X l td):PI X tg l (iVals td):=by
  intro pins s σ H R I h
  refine thn (hl pins s σ H _ I h) fun v s1 ⟨x,H1,I1,r1,p,d,kvs,ex,hp,hd,hR⟩=>?_
  subst ex
  cases r1
  obtain ⟨o,g,I2⟩:=inv_freezeK I1 hd
  obtain ⟨z,lo,vs,rel,o',es,ep,g',c',q',k',p',n'⟩:=(show ObjOk X.prog X.w H1 s1.heap d (.dK kvs) from I1.hok d _ hd)
  rw [g] at g'; cases g'
  have hlen:kvs.length=vs.length:=Paired.length rel
  have da:s1.heap.DictAt (mixKind X.prog X.w) d vs ep:=⟨o,es,g,c',q',k',p',n'⟩
  have hv:s1.heap.IsValuesView p d:=(I1.hok p _ hp).1
  refine wpAny_pyIter_values hv da ?_
  have fresh:=I2.hok.fresh (Nat.le_refl _)
  have I3:Inv X pins σ (upd H1 d (.frz o (.dK kvs))) { s1 with heap:=s1.heap.push { cls:=.type "dict_valueiterator",data:=.fields #[.ref d,.int 0 0,.int vs.length 0,.int ep 0] } }:=I2.kept (t':=s1.toks) fun b ob e=>Heap.get?_push_of_some _ e
  refine ⟨s1.heap.objs.size,[s1.heap.objs.size],_,ItV d kvs o,_,rfl,I3,turn_values d _ kvs o es ep q',(by rw [hlen]; exact ⟨_,Heap.get?_push_size _ rfl,rfl,rfl⟩),fun b hb=>?_,hR o⟩
  have e:b=s1.heap.objs.size:=by simpa using hb
  subst e
  exact I2.fpOk (Nat.le_refl _) fresh
end
theorem for_dictK {d:Addr} {kvs:List (Key×V)} {ob:Obj} {g:TG} {tb:TS} {D:Ends} {σ:L2.St} {H:Hp} (Pv:Nat→L2.St→Hp→Prop) (h0:Pv 0 σ H) (hf:∀ i σ H,i≤kvs.length→Pv i σ H→H d=some (.frz ob (.dK kvs)))
    (hs:∀ i k v σ H,kvs[i]?=some (k,v)→Pv i σ H→g (kV k) σ H fun σ2 H2=>tb { D with nx:=Pv (i + 1),ct:=Pv (i + 1),bk:=D.nx } σ2 H2) (hd:∀ σ H,Pv kvs.length σ H→D.nx σ H) :
    ∃ W:Nat→Nat→L2.St→Hp→Prop,(∃ m,W 0 m σ H)∧∀ i m σ H,W i m σ H →
      ((ItK d kvs ob).stop i H∧D.nx σ H)∨((ItK d kvs ob).go i H∧∃ N:L2.St→Hp→Prop,(∀ σ' H',N σ' H'→∃ m',m' < m∧W (i + 1) m' σ' H')∧∀ x H',(ItK d kvs ob).yld i H x H'→g x σ H' fun σ2 H2=>tb { D with nx:=N,ct:=N,bk:=D.nx } σ2 H2):=by
  refine ⟨fun i m σ H=>m=kvs.length - i∧i≤kvs.length∧Pv i σ H,⟨kvs.length,by simp,Nat.zero_le _,h0⟩,?_⟩
  rintro i m σ H ⟨rfl,hi,pv⟩
  have fz:=hf i σ H hi pv
  by_cases hlt:i < kvs.length
  · refine .inr ⟨⟨fz,hlt⟩,Pv (i + 1),fun σ' H' p'=>⟨kvs.length - (i + 1),by lia,rfl,hlt,p'⟩,fun x H' y=>?_⟩
    obtain ⟨e,k,v,ex,ek⟩:=y
    subst e ex
    exact hs i k v σ _ ek pv
  · have e:i=kvs.length:=by lia
    subst e
    exact .inl ⟨⟨fz,Nat.le_refl _⟩,hd σ H pv⟩
theorem for_values {d:Addr} {kvs:List (Key×V)} {ob:Obj} {g:TG} {tb:TS} {D:Ends} {σ:L2.St} {H:Hp} (Pv:Nat→L2.St→Hp→Prop) (h0:Pv 0 σ H) (hf:∀ i σ H,i≤kvs.length→Pv i σ H→H d=some (.frz ob (.dK kvs)))
    (hs:∀ i k v σ H,kvs[i]?=some (k,v)→Pv i σ H→g v σ H fun σ2 H2=>tb { D with nx:=Pv (i + 1),ct:=Pv (i + 1),bk:=D.nx } σ2 H2) (hd:∀ σ H,Pv kvs.length σ H→D.nx σ H) :
    ∃ W:Nat→Nat→L2.St→Hp→Prop,(∃ m,W 0 m σ H)∧∀ i m σ H,W i m σ H →
      ((ItV d kvs ob).stop i H∧D.nx σ H)∨((ItV d kvs ob).go i H∧∃ N:L2.St→Hp→Prop,(∀ σ' H',N σ' H'→∃ m',m' < m∧W (i + 1) m' σ' H')∧∀ x H',(ItV d kvs ob).yld i H x H'→g x σ H' fun σ2 H2=>tb { D with nx:=N,ct:=N,bk:=D.nx } σ2 H2):=by
  refine ⟨fun i m σ H=>m=kvs.length - i∧i≤kvs.length∧Pv i σ H,⟨kvs.length,by simp,Nat.zero_le _,h0⟩,?_⟩
  rintro i m σ H ⟨rfl,hi,pv⟩
  have fz:=hf i σ H hi pv
  by_cases hlt:i < kvs.length
  · refine .inr ⟨⟨fz,hlt⟩,Pv (i + 1),fun σ' H' p'=>⟨kvs.length - (i + 1),by lia,rfl,hlt,p'⟩,fun x H' y=>?_⟩
    obtain ⟨e,k,ek⟩:=y
    subst e
    exact hs i k x σ _ ek pv
  · have e:i=kvs.length:=by lia
    subst e
    exact .inl ⟨⟨fz,Nat.le_refl _⟩,hd σ H pv⟩
section
variable {X:Cx}
end
end FX
namespace FX
open PySem PySem.Spec PyProof.Rows L2
set_option linter.all false
theorem isSome_find {α:Type} {l:List α} {k:α→T2} {f:α→V} {t:T2}:((l.find? fun q=>decide (k q=t)).map f).isSome=decide (t∈l.map k):=by
  rw [Option.isSome_map]
  cases e:l.find? fun q=>decide (k q=t) with
  | none =>
    have:t∉l.map k:=fun m=>by
      obtain ⟨q,hq,e2⟩:=List.mem_map.mp m
      have:=List.find?_eq_none.mp e q hq
      exact absurd e2 (by simpa using this)
    simp [this]
  | some q =>
    have h1:k q=t:=by simpa using List.find?_some e
    have h2:t∈l.map k:=List.mem_map.mpr ⟨q,List.mem_of_find?_eq_some e,h1⟩
    simp [h2]
theorem key_in {H:Hp} {d a:Addr} {α:Type} {l:List α} {k:α→T2} {f:α→V} {t:T2} (hd:Rd H d (.dT (l.map fun q=>(tk (k q),f q)))) (ha:H a=some (.tup (tv t))):∃ o,DGet H d (.ref a) o∧o.isSome=decide (t∈l.map k) :=
  ⟨_,.inr ⟨_,tk t,a,hd,rfl,ha,rfl⟩,by rw [valV_tk]; exact isSome_find⟩
theorem last_at {α:Type} (a:List α) (t:α):(a++[t])[(a++[t]).length - 1]?=some t:=by
  rw [List.length_append]; simp
theorem ths_last {H:Hp} {as:List Addr} {a:List T2} {t:T2} (th:ThsAt H as (a++[t])):∃ (bs:List Addr) (c:Addr),as=bs++[c]∧ThsAt H bs a∧H c=some (.tup (tv t)):=by
  have hl:=Paired.length th
  have ne:as≠[]:=fun z=>by rw [z] at hl; simp at hl
  obtain ⟨bs,c,e⟩:=split_last ne
  subst e
  have l2:bs.length=a.length:=by rw [List.length_append,List.length_append] at hl; simpa using hl
  refine ⟨bs,c,rfl,?_,?_⟩
  · have go:∀ {xs:List Addr} {ys:List T2} {x:Addr} {y:T2},xs.length=ys.length→ThsAt H (xs++[x]) (ys++[y])→ThsAt H xs ys:=by
      intro xs
      induction xs with
      | nil=>intro ys x y h _; cases ys with
        | nil=>exact .nil
        | cons _ _=>simp at h
      | cons x0 xs ih=>intro ys x y h q; cases ys with
        | nil=>simp at h
        | cons y0 ys =>
          cases q with
          | cons h1 q=>exact .cons h1 (ih (by simpa using h) q)
    exact go l2 th
  · exact paired_get th bs.length c t (by simp) (by rw [l2]; simp)
theorem ths_app {H:Hp}:∀ {as:List Addr} {ts:List T2} {bs:List Addr} {us:List T2},ThsAt H as ts→ThsAt H bs us→ThsAt H (as++bs) (ts++us)
  | _,_,_,_,.nil,r=>r
  | _,_,_,_,.cons h t,r=>.cons h (ths_app t r)
end FX
namespace FX
open PySem PySem.Spec PyProof.Rows L2
set_option linter.all false
end FX
namespace FX
open PySem PySem.Spec PyProof.Rows L2
set_option linter.all false
theorem find_self {α:Type} {k:α→T2} {l:List α} (nd:(l.map k).Nodup) {q:α} (hq:q∈l):l.find? (fun r=>decide (k r=k q))=some q:=by
  cases e:l.find? fun r=>decide (k r=k q) with
  | none=>have:=List.find?_eq_none.mp e q hq; simp at this
  | some r =>
    have h1:k r=k q:=by simpa using List.find?_some e
    rw [nd_map_inj nd (List.mem_of_find?_eq_some e) hq h1]
end FX
namespace FX
open PySem PySem.Spec PyProof.Rows L2
set_option linter.all false
end FX
namespace FX
open PySem PySem.Spec PyProof.Rows L2
set_option linter.all false
theorem nil_ok:Okd (.list []):=okd_list fun _ h=>by cases h
end FX
namespace FX
open PySem PySem.Spec PyProof.Rows L2
set_option linter.all false
end FX
namespace FX
open PySem PySem.Spec PyProof.Rows L2
set_option linter.all false
end FX
namespace FX
open PySem PySem.Spec PyProof.Rows L2
set_option linter.all false
section
variable {C p m:Addr} {H H':Hp} {G M:HGh} {n:Nat}
end
end FX
namespace FX
open PySem PySem.Spec PyProof.Rows L2
set_option linter.all false
end FX
namespace FX
open PySem PySem.Spec PyProof.Rows L2
set_option linter.all false
section
variable {p:Addr} {H H':Hp} {G:HGh}
end
end FX
namespace FX
open PySem PySem.Spec PyProof.Rows L2
set_option linter.all false
section
variable {G M:HGh} {n:Nat} {R:List T2}
theorem nx_sub (hl:HL) (t:T2):∀ u∈nxT hl t,u∈hl.map (·.1):=fun u hu=>by
  have:=(List.mem_filter.mp hu).2
  simpa using this
end
section
variable {G M:HGh} {n:Nat} {R:List T2}
end
end FX
namespace FX
open PySem PySem.Spec PyProof.Rows L2
set_option linter.all false
section
variable {G M:HGh} {n:Nat} {R:List T2}
end
end FX
namespace FX
open PySem PySem.Spec PyProof.Rows L2
set_option linter.all false
end FX
namespace FX
open PySem PySem.Spec PyProof.Rows L2
set_option linter.all false
section
variable {X:Cx}
end
section
variable {prog:Program} {w:World} {A:Around}
end
section
variable {X:Cx} {pins:List (Addr×Obj)} {σ:L2.St} {H:Hp} {s:Shared}
end
section
variable {X:Cx}
end
end FX
namespace FX
open PySem PySem.Spec PyProof.Rows L2
set_option linter.all false
theorem pairs_ints {P:Program} {w:World}:∀ {es:List DictEntry} {vs:List (Key×Value)} {ns:List Int},Pairs (mixKind P w) es vs→vs.map (·.1)=ns.map Sum.inl→IntsAre (es.map (·.key)) ns
  | _,_,ns,.nil,e=>by
    cases ns with
    | nil=>exact .nil
    | cons n ns=>cases e
  | _,_,ns,.cons (e:=d) (kv:=kv) h _ t,e=>by
    cases ns with
    | nil=>cases e
    | cons n ns =>
      have e:kv.1 :: _=Sum.inl n :: ns.map Sum.inl:=e
      obtain ⟨e1,e2⟩:=List.cons.inj e
      have ih:=pairs_ints t e2
      rcases keyIs_shape (k:=kv.1) (v:=d.key) h with ⟨i,tk,e3,e4⟩ | ⟨x,tk,e3,e4⟩
      · rw [e1] at e3
        have:n=i:=Sum.inl.inj e3
        rw [List.map_cons,e4,← this]
        exact .cons n tk ih
      · rw [e1] at e3; cases e3
theorem acc_keys {es:Array DictEntry} {acc:Array Value} (ha:ItemsOf (fun i v=>∃ e,es[i]?=some e∧v=e.key) acc es.size):acc.toList=es.toList.map (·.key):=by
  refine List.ext_getElem? fun j=>?_
  by_cases hj:j < es.size
  · have h1:j < acc.size:=by rw [ha.1]; exact hj
    obtain ⟨e2,e3,e4⟩:=ha.2 j acc[j] (by simp [h1])
    have e5:es[j]?=some es[j]:=by simp [hj]
    rw [e5] at e3; cases e3
    have h2:acc.toList[j]?=some acc[j]:=by simp [h1]
    have h3:es.toList[j]?=some es[j]:=by simp [hj]
    rw [h2,List.getElem?_map,h3,e4]; rfl
  · rw [List.getElem?_eq_none (by rw [Array.length_toList,ha.1]; omega),List.getElem?_eq_none (by rw [List.length_map,Array.length_toList]; omega)]
section
variable {X:Cx}
theorem call_sorted_dictI (hc:X.calm=true):CallR X (.builtin "sorted") (fun xs H Q=>∃ (d:Addr) (kvs:List (Key×V)) (ns:List Int),xs=[.ref d]∧H d=some (.dK kvs)∧kvs.map (·.1)=ns.map Sum.inl∧ns.length < 64 ∧
    ∀ (r:Addr) (ms:List Int),H r=none→ms.Perm ns→ms.Pairwise (·≤·)→Q (.ref r) (upd H r (.lst (ms.map V.int)))):=by
  intro pins s σ H xs us Q I rv h
  obtain ⟨d,kvs,ns,rfl,hd,ek,h64,q⟩:=h
  obtain ⟨u,rfl,rx⟩:=vals1 rv
  cases rx
  obtain ⟨z,lo,vs,rel,o,es,ep,g1,g2,g3,g4,g5,g6⟩:=(show ObjOk X.prog X.w H s.heap d (.dK kvs) from I.hok d _ hd)
  have ev:∀ {a:List (Key×V)} {b:List (Key×Value)},KV a b→b.map (·.1)=a.map (·.1):=fun {a b} r=>by
    induction r with
    | nil=>rfl
    | cons h _ ih=>rw [List.map_cons,List.map_cons,ih,h.1]
  have hI:IntsAre (es.toList.map (·.key)) ns:=pairs_ints g5 (by rw [ev rel,ek])
  have hl:es.size=ns.length:=by
    have:=IntsAre.length hI
    rw [List.length_map,Array.length_toList] at this
    exact this
  refine Calls.call_function_entry kind_sorted plain_sorted entry_sorted (args_sorted1 _) (by
    unfold Builtin.«sorted»
    refine wpAny_bind (m:=checkCount "sorted" 1 1 _) (wpAny_pure (wpAny_bind (PySem.W.kdu_collect (raw_src lo (es:=es) (ep:=ep)) (show _ from I.ok.hd hc) ⟨o,g1,g2,g3⟩ (by rw [hl,sizeLine_eq]; omega) fun h1 tk acc kp ha=>?_)))
    rw [acc_keys ha]
    have I1:Inv X pins σ H { s with heap:=h1,toks:=tk }:=I.kept kp
    refine wpAny_bind (wpAny_newList ?_ (by rw [List.length_map,Array.length_toList,hl,sizeLine_eq]; omega))
    have e1:(h1.push (seqObj "list" (es.toList.map (·.key)).toArray 0)).get? h1.objs.size=some (seqObj "list" (es.toList.map (·.key)).toArray 0):=Heap.get?_push_size _ rfl
    refine wpAny_bind (wpAny_holding (wpAny_call_entry slot_list_sort ⟨_,e1,rfl⟩ entry_list_sort (list_sort_tree e1 hI (by rw [List.length_map,Array.length_toList,hl]; exact h64) fun out ms a1 a2 a3=>⟨_,rfl,?_⟩) (args_list_sort _)))
    have hn:H h1.objs.size=none:=I1.hok.fresh (Nat.le_refl _)
    obtain ⟨c,ec⟩:=sortedHeap_at (out:=out) e1
    have old:∀ b ob,h1.get? b=some ob→(sortedHeap (h1.push (seqObj "list" (es.toList.map (·.key)).toArray 0)) h1.objs.size (es.toList.map (·.key)) out).get? b=some ob:=fun b ob hb=>by
      have hlt:=Heap.lt_size hb
      rw [sortedHeap_old (Nat.ne_of_lt hlt) (by rw [size_push']; exact Nat.lt_succ_of_lt hlt)]
      exact Heap.get?_push_of_some _ hb
    refine wpAny_pure ⟨_,rfl,.ref h1.objs.size,_,I1.laid (a:=h1.objs.size) (o:=.lst (ms.map V.int)) (t':=tk) old (Nat.le_refl _) ⟨?_,out.toList,c,vals_ints a1,by simpa using ec⟩,rfl,q _ ms hn a2 a3⟩
    rw [List.length_map,a2.length_eq,sizeLine_eq]; omega)
end
end FX
namespace FX
open PySem PySem.Spec PyProof.Rows L2
set_option linter.all false
structure WGh where
  share:Int
  hs:Addr
  po:Addr
  iq:Addr
  fi:Addr
  en:Addr
  pd:Addr
  c:Int
  ls:List (Int×Addr)
  qs:List (Addr×HGh)
  iqs:List (Int×Addr)
  fis:List (Int×Addr)
  ens:List (Int×Addr)
section
variable {CW CH CP p:Addr} {H H':Hp} {W:WGh}
end
end FX
namespace FX
open PySem PySem.Spec PyProof.Rows L2
set_option linter.all false
theorem lookup_mem {y:Str} {k:NameKind}:∀ {l:List (Str×NameKind)},l.lookup y=some k→(y,k)∈l
  | [],h=>by simp at h
  | (a,b) :: l,h=>by
    rw [List.lookup_cons] at h
    by_cases e:y=a
    · have q1:(y == a)=true:=by rw [e]; exact beq_self_eq_true a
      rw [q1] at h
      have h:b=k:=Option.some.inj h
      rw [e,h]; exact List.mem_cons_self ..
    · have q1:(y == a)=false:=beq_eq_false_iff_ne.mpr e
      rw [q1] at h
      exact List.mem_cons_of_mem _ (lookup_mem h)
theorem has_of {l:List (Str×NameKind)} {cl:List (Str×Addr)} {y:Str} (hc:∀ p∈l,p.2=.cell∨p.2=.free→∃ z,cl.lookup p.1=some z) (h:l.lookup y=some .cell∨l.lookup y=some .free):∃ z,cl.lookup y=some z:=by
  rcases h with h | h
  · exact hc _ (lookup_mem h) (.inl rfl)
  · exact hc _ (lookup_mem h) (.inr rfl)
section
variable {X:Cx} {pins:List (Addr×Obj)} {σ:L2.St} {H:Hp} {s:Shared}
end
end FX
namespace FX
open PySem PySem.Spec PyProof.Rows L2
set_option linter.all false
section
variable {X:Cx} {o e:Expr} {es:List Expr} {ta:TE} {t:TA} {C f:Addr} {m:Str} {apos pos:Pos}
end
end FX
namespace FX
open PySem PySem.Spec PyProof.Rows L2
set_option linter.all false
end FX
namespace FX
open PySem PySem.Spec PyProof.Rows L2
set_option linter.all false
end FX
namespace FX
open PySem PySem.Spec PyProof.Rows L2
set_option linter.all false
end FX
namespace FX
open PySem PySem.Spec PyProof.Rows L2
set_option linter.all false
end FX
namespace FX
open PySem PySem.Spec PyProof.Rows L2
set_option linter.all false
theorem lt2_tr {a b c:T2} (h1:lt2 a b) (h2:lt2 b c):lt2 a c:=by
  rw [lt2_iff] at *; omega
theorem lt2_tot {a b:T2} (h:a≠b) (h1:¬ lt2 a b):lt2 b a:=by
  rw [lt2_iff] at *
  have:¬ (a.1=b.1∧a.2=b.2):=fun z=>h (Prod.ext z.1 z.2)
  omega
theorem sort_in {α:Type} (key:α→T2) (x:α):∀ {s:List α},(s.map key).Pairwise lt2→(∀ y∈s,key x≠key y)→∃ s':List α,s'.Perm (x :: s)∧(s'.map key).Pairwise lt2
  | [],_,_=>⟨[x],.refl _,by simp⟩
  | y :: s,h,ne=>by
    have h':=List.pairwise_cons.mp h
    by_cases e:lt2 (key x) (key y)
    · refine ⟨x :: y :: s,.refl _,List.pairwise_cons.mpr ⟨fun z hz=>?_,h⟩⟩
      rcases List.mem_cons.mp hz with rfl | hz
      · exact e
      · exact lt2_tr e (h'.1 z hz)
    · obtain ⟨s',p,q⟩:=sort_in key x h'.2 fun z hz=>ne z (List.mem_cons_of_mem _ hz)
      refine ⟨y :: s',(p.cons y).trans (List.Perm.swap x y s),List.pairwise_cons.mpr ⟨fun z hz=>?_,q⟩⟩
      obtain ⟨u,hu,rfl⟩:=List.mem_map.mp hz
      rcases List.mem_cons.mp (p.mem_iff.mp hu) with rfl | hu
      · exact lt2_tot (ne y (List.mem_cons_self ..)) e
      · exact h'.1 _ (List.mem_map_of_mem hu)
theorem sorts {α:Type} (key:α→T2):∀ {l:List α},(l.map key).Nodup→∃ s:List α,s.Perm l∧(s.map key).Pairwise lt2
  | [],_=>⟨[],.refl _,by simp⟩
  | x :: l,nd=>by
    have nd':=List.nodup_cons.mp nd
    obtain ⟨s,p,q⟩:=sorts key nd'.2
    obtain ⟨s',p',q'⟩:=sort_in key x q fun y hy e=>nd'.1 (List.mem_map.mpr ⟨y,p.mem_iff.mp hy,e.symm⟩)
    exact ⟨s',p'.trans (p.cons x),q'⟩
theorem has3 {a b c:Str} {k:NameKind} {cl:List (Str×Addr)} {y:Str} (hc:∃ z,cl.lookup c=some z)
    (h:([(a,NameKind.local),(b,NameKind.local),(c,k)]:List (Str×NameKind)).lookup y=some .cell∨([(a,NameKind.local),(b,NameKind.local),(c,k)]:List (Str×NameKind)).lookup y=some .free):∃ z,cl.lookup y=some z :=
  has_of (fun p hp hk=>by
    simp only [List.mem_cons,List.not_mem_nil,or_false] at hp
    rcases hp with rfl | rfl | rfl
    · rcases hk with hk | hk <;> cases hk
    · rcases hk with hk | hk <;> cases hk
    · exact hc) h
theorem has4 {a b c d:Str} {k1 k2:NameKind} {cl:List (Str×Addr)} {y:Str} (hc:∃ z,cl.lookup c=some z) (hd:∃ z,cl.lookup d=some z)
    (h:([(a,NameKind.local),(b,NameKind.local),(c,k1),(d,k2)]:List (Str×NameKind)).lookup y=some .cell∨([(a,NameKind.local),(b,NameKind.local),(c,k1),(d,k2)]:List (Str×NameKind)).lookup y=some .free):∃ z,cl.lookup y=some z :=
  has_of (fun p hp hk=>by
    simp only [List.mem_cons,List.not_mem_nil,or_false] at hp
    rcases hp with rfl | rfl | rfl | rfl
    · rcases hk with hk | hk <;> cases hk
    · rcases hk with hk | hk <;> cases hk
    · exact hc
    · exact hd) h
theorem comp_tup {K:PySem.W.Frag} {a p:Addr} {xs:List V} {tt:TT} {te:TE} {caps:List (Str×Nat)} {σ:L2.St} {H:Hp} {Q:Hp→Prop} (Pv:Nat→List V→Hp→Prop) (h0:Pv 0 [] (upd H p (.lst [])))
    (hl:∀ i ys H2,i≤xs.length→Pv i ys H2→SqT K H2 a xs∧H2 p=some (.lst ys))
    (hs:∀ i x ys H2 (N:List V→Hp→Prop),xs[i]?=some x→Pv i ys H2→(∀ ys H,Pv (i + 1) ys H→N ys H)→tt (some x :: capv σ caps) H2 fun b H4 =>
      if b=true then te (some x :: capv σ caps) H4 fun v H5=>H5 p=some (.lst ys)∧ys.length < sizeLine∧N (ys++[v]) (upd H5 p (.lst (ys++[v]))) else N ys H4)
    (hd:∀ ys H2,Pv xs.length ys H2→Q H2) :
    ∃ W:Nat→Nat→List V→Hp→Prop,(∃ m,W 0 m [] (upd H p (.lst [])))∧∀ i m ys H2,W i m ys H2→H2 p=some (.lst ys) ∧
      (((Itt K a).stop i H2∧Q H2)∨((Itt K a).go i H2∧∀ x H3,(Itt K a).yld i H2 x H3→tt (some x :: capv σ caps) H3 fun b H4 =>
        if b=true then te (some x :: capv σ caps) H4 fun v H5=>H5 p=some (.lst ys)∧ys.length < sizeLine∧∃ m',m' < m∧W (i + 1) m' (ys++[v]) (upd H5 p (.lst (ys++[v])))
        else ∃ m',m' < m∧W (i + 1) m' ys H4)):=by
  refine ⟨fun i m ys H=>m=xs.length - i∧i≤xs.length∧Pv i ys H,⟨xs.length,by simp,Nat.zero_le _,h0⟩,?_⟩
  rintro i m ys H2 ⟨rfl,hi,pv⟩
  obtain ⟨q1,q2⟩:=hl i ys H2 hi pv
  refine ⟨q2,?_⟩
  by_cases hlt:i < xs.length
  · refine .inr ⟨⟨xs,xs[i],q1,by simp [hlt]⟩,fun x H3 y=>?_⟩
    obtain ⟨e,y⟩:=y
    subst e
    exact hs i x ys _ (fun zs H'=>∃ m',m' < xs.length - i∧(m'=xs.length - (i + 1)∧i + 1≤xs.length∧Pv (i + 1) zs H')) (y xs q1) pv fun zs H' pz=>⟨_,by omega,rfl,hlt,pz⟩
  · have e:i=xs.length:=by omega
    subst e
    exact .inl ⟨⟨xs,q1,Nat.le_refl _⟩,hd ys H2 pv⟩
end FX
namespace FX
open PySem PySem.Spec PyProof.Rows L2
set_option linter.all false
abbrev HS:=List T2×List (T2×Int×List T2)×List (T2×Int)
def RowA (K:PySem.W.Frag) (H:Hp) (v:V) (r:T2×Int×List T2):Prop:=∃ (a t hd:Addr) (cs:List Addr),v=.ref a∧SqT K H a [.ref t,.int r.2.1,.ref hd]∧H t=some (.tup (tv r.1))∧SqT K H hd (cs.map V.ref)∧ThsAt H cs r.2.2
def RecA (K:PySem.W.Frag) (H:Hp) (v:V) (q:T2×Int):Prop:=∃ (a t:Addr),v=.ref a∧SqT K H a [.ref t,.int q.2]∧H t=some (.tup (tv q.1))
def StA (K:PySem.W.Frag) (H:Hp) (x:Addr) (S:HS):Prop:=∃ (y1 y2 y3:Addr) (as:List Addr) (bs ds:List V),SqT K H x [.ref y1,.ref y2,.ref y3]∧SqT K H y1 (as.map V.ref)∧ThsAt H as S.1∧SqT K H y2 bs∧Paired (RowA K H) bs S.2.1∧SqT K H y3 ds∧Paired (RecA K H) ds S.2.2
section
variable {K:PySem.W.Frag} {H H':Hp}
theorem RowA.keep (k:KeepT H H') {v:V} {r:T2×Int×List T2} (h:RowA K H v r):RowA K H' v r:=by
  obtain ⟨a,t,hd,cs,e,e1,e2,e3,th⟩:=h
  exact ⟨a,t,hd,cs,e,k.sq e1,k.tup _ _ e2,k.sq e3,ThsAt.keep k th⟩
theorem RecA.keep (k:KeepT H H') {v:V} {q:T2×Int} (h:RecA K H v q):RecA K H' v q:=by
  obtain ⟨a,t,e,e1,e2⟩:=h
  exact ⟨a,t,e,k.sq e1,k.tup _ _ e2⟩
theorem StA.keep (k:KeepT H H') {x:Addr} {S:HS} (h:StA K H x S):StA K H' x S:=by
  obtain ⟨y1,y2,y3,as,bs,ds,e,e1,t1,e2,t2,e3,t3⟩:=h
  exact ⟨y1,y2,y3,as,bs,ds,k.sq e,k.sq e1,ThsAt.keep k t1,k.sq e2,paired_mono (fun _ _ r=>r.keep k) t2,k.sq e3,paired_mono (fun _ _ r=>r.keep k) t3⟩
end
section
variable {p:Addr} {b:T2→Bool} {ts:List T2} {H:Hp} {tt:TT} {caps:List (Str×Nat)} {σ:L2.St} {Q:Hp→Prop}
theorem filt_tup {K:PySem.W.Frag} {l:Addr} {as:List Addr} (hp:H p=none) (hz:ts.length≤900) (hl:SqT K H l (as.map V.ref)) (th:ThsAt H as ts)
    (ht:∀ (H2:Hp) (a:Addr) (t:T2) (Q':Bool→Hp→Prop),Same H H2→H2 a=some (.tup (tv t))→t∈ts→Q' (b t) H2→tt (some (.ref a) :: capv σ caps) H2 Q')
    (k:∀ (H2:Hp) (bs:List Addr),Same H H2→H2 p=some (.lst (bs.map V.ref))→ThsAt H2 bs (ts.filter b)→Q H2) :
    ∃ W:Nat→Nat→List V→Hp→Prop,(∃ m,W 0 m [] (upd H p (.lst [])))∧∀ i m ys H2,W i m ys H2→H2 p=some (.lst ys) ∧
      (((Itt K l).stop i H2∧Q H2)∨((Itt K l).go i H2∧∀ x H3,(Itt K l).yld i H2 x H3→tt (some x :: capv σ caps) H3 fun b H4 =>
        if b=true then tVar 0 (some x :: capv σ caps) H4 fun v H5=>H5 p=some (.lst ys)∧ys.length < sizeLine∧∃ m',m' < m∧W (i + 1) m' (ys++[v]) (upd H5 p (.lst (ys++[v])))
        else ∃ m',m' < m∧W (i + 1) m' ys H4)):=by
  have lt:=Paired.length th
  refine comp_tup (K:=K) (a:=l) (p:=p) (xs:=as.map V.ref) (caps:=caps) (fun i ys H2=>Chosen p b ts H i ys H2) (Chosen.start hp) (fun i ys H2 _ pv=>?_) (fun i x ys H2 N hx pv n=>?_) fun ys H2 pv=>?_
  · obtain ⟨bs,_,sm,hp2,_⟩:=pv
    exact ⟨(KeepT.of_same sm).sq hl,hp2⟩
  · rw [List.getElem?_map] at hx
    cases ea:as[i]? with
    | none=>rw [ea] at hx; cases hx
    | some a =>
      rw [ea] at hx
      have hx:V.ref a=x:=Option.some.inj hx
      subst hx
      obtain ⟨t,et⟩:=get_of_lt (xs:=ts) (j:=i) (by have:=(List.getElem?_eq_some_iff.mp ea).1; lia)
      have ha:=paired_get th i a t ea et
      obtain ⟨bs,e0,sm,hp2,th2⟩:=id pv
      exact Chosen.turn hp hz ht pv et (sm _ _ ha) n
  · obtain ⟨bs,ey,sm,hp2,th2⟩:=pv
    rw [List.length_map,lt,List.take_length] at th2
    exact k H2 bs sm (by rw [← ey]; exact hp2) th2
end
def rExtendS (K:PySem.W.Frag):V→List V→Hp→VK→Prop:=fun x vs H Q=>∃ l b xs zs,x=.ref l∧vs=[.ref b]∧H l=some (.lst xs)∧SqT K H b zs∧xs.length + zs.length≤sizeLine∧Q .non (upd H l (.lst (xs++zs)))
theorem mt_extendS {X:Cx}:MtM X "list.extend" (rExtendS X.K):=by
  intro pins s σ H x vs v us Q I rx rv h
  obtain ⟨l,b,xs,zs,rfl,rfl,hH,hB,hz,q⟩:=h
  cases rx
  obtain ⟨u,rfl,ru⟩:=rv.one
  cases ru
  obtain ⟨z,its,n,r,hl,e⟩:=I.lstM hH
  obtain ⟨its2,r2,⟨o2,e2,c2,n2,q2⟩,z2⟩:=I.tuple hB
  have l1:=r.length
  have l2:=r2.length
  have hsz:its.toArray.size + its2.toArray.size≤sizeLine:=by rw [List.size_toArray,List.size_toArray]; omega
  have hlong:¬ (!its.toArray.isEmpty && Builtin.List.listTooLong (its.toArray.size + its2.toArray.size))=true:=by
    rw [notLongL hsz,Bool.and_false]
    exact Bool.false_ne_true
  refine wpAny_call_entry F.slot_list_extend ⟨_,e,rfl⟩ F.entry_list_extend ?_ (F.args_list_extend_2 _ _)
  show wpAny _ _ (Builtin.List.listExtendWith (.ref l) (.ref b) .none) _ _ s
  unfold Builtin.List.listExtendWith
  refine wpAny_bind (wpAny_typeOf (T:="tuple") ⟨o2,e2,c2⟩ ?_)
  have ht:(Value.type "tuple" == Value.type "tuple")=true:=by rfl
  rw [if_pos (by rw [ht]; simp)]
  refine wpAny_bind (listItems_at e2 q2 (wpAny_bind (listItems_at e rfl ?_)))
  rw [if_neg hlong]
  refine wpAny_bind (listUpdate_at e rfl ?_ (by rw [List.size_toArray]; omega) (show (its.toArray++its2.toArray).size≤sizeLine + 1 by rw [Array.size_append]; omega))
  refine wpAny_pure ⟨_,rfl,⟨.non,_,I.lset (its':=its++its2) hH e (by simp) (r.append r2) ?_,rfl,q⟩⟩
  rw [List.length_append]
  omega
def rowsOf (L:List HS):List (T2×Int×List T2):=L.flatMap (·.2.1)
def getW (l:List (T2×Int)) (t:T2):Int:=((l.find? fun q=>decide (q.1=t)).map (·.2)).getD 0
def addW (a:List (T2×Int)) (q:T2×Int):List (T2×Int):=putI a q.1 (getW a q.1 + q.2)
def sumsOf (L:List HS):List (T2×Int):=(L.flatMap (·.2.2)).foldl addW []
inductive Led (L:List HS):T2→Prop
  | hand {S:HS} {t:T2} (h:S∈L) (m:t∈S.1):Led L t
  | out {r:T2×Int×List T2} (h:r∈rowsOf L) (m:r.2.1≠getW (sumsOf L) r.1):Led L r.1
  | step {r:T2×Int×List T2} {u:T2} (h:r∈rowsOf L) (m:u∈r.2.2) (l:Led L r.1):Led L u
structure Found (L:List HS) (ts:List T2):Prop where
  pw:ts.Pairwise lt2
  mem:∀ t,t∈ts↔(t∈(rowsOf L).map (·.1)∧¬ Led L t)
theorem lt2_irr (a:T2):¬ lt2 a a:=fun h=>by rw [lt2_iff] at h; omega
theorem pw_ext:∀ {l m:List T2},l.Pairwise lt2→m.Pairwise lt2→(∀ t,t∈l↔t∈m)→l=m
  | [],[],_,_,_=>rfl
  | [],b :: m,_,_,h=>by have:=(h b).mpr (List.mem_cons_self ..); cases this
  | a :: l,[],_,_,h=>by have:=(h a).mp (List.mem_cons_self ..); cases this
  | a :: l,b :: m,h1,h2,h=>by
    have h1':=List.pairwise_cons.mp h1
    have h2':=List.pairwise_cons.mp h2
    have e:a=b:=by
      rcases List.mem_cons.mp ((h a).mp (List.mem_cons_self ..)) with e | ha
      · exact e
      · rcases List.mem_cons.mp ((h b).mpr (List.mem_cons_self ..)) with e | hb
        · exact e.symm
        · exact absurd (lt2_tr (h1'.1 b hb) (h2'.1 a ha)) (lt2_irr a)
    subst e
    congr 1
    refine pw_ext h1'.2 h2'.2 fun t=>⟨fun ht=>?_,fun ht=>?_⟩
    · rcases List.mem_cons.mp ((h t).mp (List.mem_cons_of_mem _ ht)) with e | hm
      · rw [e] at ht; exact absurd (h1'.1 a ht) (lt2_irr a)
      · exact hm
    · rcases List.mem_cons.mp ((h t).mpr (List.mem_cons_of_mem _ ht)) with e | hm
      · rw [e] at ht; exact absurd (h2'.1 a ht) (lt2_irr a)
      · exact hm
theorem Found.one {L:List HS} {ts us:List T2} (a:Found L ts) (b:Found L us):ts=us:=pw_ext a.pw b.pw fun t=>(a.mem t).trans (b.mem t).symm
end FX
namespace FX
open PySem PySem.Spec PyProof.Rows L2
set_option linter.all false
section
variable {prog:Program} {w:World} {A:Around} {E:Value→Shared→Prop} {s:Shared}
theorem lsort_rawB {a:Addr} {vs:List Value} {n:Nat} {lt:Nat→Nat→Bool} {P:PySem.Fin→Shared→Prop} (ho:s.heap.get? a=some (seqObj "list" vs.toArray n)) (h64:vs.length < 128) (O:FhS.Ordr lt vs.length) (Ir:∀ i,i < vs.length→lt i i=false)
    (K:2≤vs.length→∀ h',(∀ b o,b≠a→s.heap.get? b=some o→h'.get? b=some o)→∀ Q:SortKind→Shared→Prop,(∀ κ,FhS.Asks (PySem.W.kas_ask prog w A κ vs) lt vs.length { s with heap:=h' }→Q κ { s with heap:=h' })→wpAny (model prog w) A (keyKind' vs.toArray) Q E { s with heap:=h' })
    (h:∀ q:List Nat,q.Perm (List.range vs.length)→q.Pairwise (fun i j=>lt i j=true)→∀ h' c,(∀ b o,b≠a→s.heap.get? b=some o→h'.get? b=some o)→h'.get? a=some (seqObj "list" (q.map fun i=>vs.getD i .none).toArray c)→P (.done (.ret .none)) { s with heap:=h' }) :
    wpAny (model prog w) A (Builtin.«list.sort» ⟨[.ref a],[]⟩) P E s:=by
  rw [list_sort_plain]
  have al:a < s.heap.objs.size:=Heap.lt_size ho
  have small:∀ {k:Nat},k≤127→k≤sizeLine:=fun hk=>by rw [sizeLine_eq]; lia
  refine wpAny_bind (listItems_at ho rfl (wpAny_bind (listUpdate_at ho rfl ?_ (by rw [List.size_toArray]; exact small (by lia)) (Nat.zero_le _))))
  obtain ⟨e1,g1⟩:∃ e1,(s.heap.update a (Obj.mapSeq fun _=>(#[]:Array Value))).get? a=some (seqObj "list" #[] e1):=⟨_,get?_update_seq ho fun _=>#[]⟩
  refine wpAny_bind (seqEpoch_at g1 rfl (wpAny_bind (wpAny_newTuple (wpAny_bind (wpAny_newList (wpAny_holding ?_) (Nat.zero_le _))) (by show vs.length≤_; exact small (by lia)))))
  have g2:(((s.heap.update a (Obj.mapSeq fun _=>(#[]:Array Value))).push (seqObj "tuple" vs.toArray 0)).push (seqObj "list" #[] 0)).get? a=some (seqObj "list" #[] e1):=Heap.get?_push_of_some _ (Heap.get?_push_of_some _ g1)
  have kp:∀ b o,b≠a→s.heap.get? b=some o→(((s.heap.update a (Obj.mapSeq fun _=>(#[]:Array Value))).push (seqObj "tuple" vs.toArray 0)).push (seqObj "list" #[] 0)).get? b=some o:=fun b o hb e =>
    Heap.get?_push_of_some _ (Heap.get?_push_of_some _ ((Heap.get?_update_other _ _ (Ne.symm hb)).trans e))
  show wpAny (model prog w) A _ P E { s with heap:=((s.heap.update a (Obj.mapSeq fun _=>(#[]:Array Value))).push (seqObj "tuple" vs.toArray 0)).push (seqObj "list" #[] 0) }
  generalize ((s.heap.update a (Obj.mapSeq fun _=>(#[]:Array Value))).push (seqObj "tuple" vs.toArray 0)).push (seqObj "list" #[] 0)=hh at g2 kp
  dsimp only
  have fin:∀ (st:SortSt) (q:List Nat),(arrOf st).map (·.2)=(q.map fun i=>vs.getD i .none).toArray→failedOf st=none→q.Perm (List.range vs.length)→q.Pairwise (fun i j=>lt i j=true) →
      wpAny (model prog w) A (do
        let touched:=(← seqEpoch a) != e1
        Builtin.List.listUpdate (.ref a) fun _=>(arrOf st).map (·.2)
        if let some e:=failedOf st then rule "list.sort.comparison-raised"; throw e
        if touched then rule "list.sort.modified"; raiseError "ValueError" "list modified during sort"
        ret .none) P E { s with heap:=hh }:=fun st q ea ef qp qo=>by
    have hl:q.length=vs.length:=by rw [qp.length_eq,List.length_range]
    refine wpAny_bind (seqEpoch_at g2 rfl ?_)
    rw [ea]
    refine wpAny_bind (listUpdate_at g2 rfl ?_ (Nat.zero_le _) (by show (q.map fun i=>vs.getD i Value.none).toArray.size≤sizeLine + 1; rw [List.size_toArray,List.length_map,hl]; exact Nat.le_succ_of_le (small (by lia))))
    rw [ef]
    simp only [bne_self_eq_false,Bool.false_eq_true,if_false]
    refine wpAny_pure (h q qp qo _ _ (fun b o hb e=>(Heap.get?_update_other _ _ (Ne.symm hb)).trans (kp b o hb e)) (get?_update_seq g2 _))
  by_cases h2:vs.toArray.size < 2
  · rw [if_pos h2,if_pos h2]
    refine wpAny_bind (wpAny_pure ?_)
    rw [StateT.run_pure]
    refine wpAny_bind (wpAny_pure ?_)
    have h2':vs.length < 2:=by simpa using h2
    refine fin (SortSt.mk' general' (vs.toArray.zip vs.toArray) #[] 7 none) (List.range vs.length) ?_ rfl (List.Perm.refl _) ?_
    · show (vs.toArray.zip vs.toArray).map (·.2)=_
      match vs,h2' with
      | [],_=>simp
      | [v],_=>simp
    · match vs,h2' with
      | [],_=>exact List.Pairwise.nil
      | [v],_=>exact List.pairwise_singleton _ _
  · rw [if_neg h2,if_neg h2]
    have h2':2≤vs.length:=by simpa using h2
    refine wpAny_bind (K h2' hh kp _ fun κ ask=>?_)
    have zp:vs.toArray.zip vs.toArray=FhM.T (fun i=>(vs.getD i Value.none,vs.getD i Value.none)) (List.range vs.length):=by
      refine Array.ext_getElem? fun i=>?_
      by_cases hi:i < vs.length
      · rw [FhM.T_get (by rw [List.length_range]; exact hi),List.getElem_range]
        simp [hi]
      · rw [Array.getElem?_eq_none (by simp; omega),Array.getElem?_eq_none (by rw [FhM.T_size,List.length_range]; omega)]
    have hl:vs.toArray.size=vs.length:=List.size_toArray ..
    have K2:FhM.Ans prog w A { s with heap:=hh } κ (fun i=>(vs.getD i Value.none,vs.getD i Value.none)) lt vs.length:=⟨fun i j hi hj C hC=>ask i j hi hj C hC,O.tr,O.tot,Ir⟩
    refine wpAny_bind (wpAny_mono (show wpAny (model prog w) A (sortRuns'.run (SortSt.mk' κ (vs.toArray.zip vs.toArray) #[] 7 none)) (fun r s'=>s'={ s with heap:=hh }∧∃ q:List Nat,(arrOf r.2).map (·.2)=(q.map fun i=>vs.getD i .none).toArray∧failedOf r.2=none∧q.Perm (List.range vs.length)∧q.Pairwise (fun i j=>lt i j=true)) E { s with heap:=hh } from ?_) (fun r s' hr=>?_) fun _ _ e=>e)
    · rw [zp]
      refine (show wpS (model prog w) A E { s with heap:=hh } sortRuns' (fun _ st'=>∃ q:List Nat,(arrOf st').map (·.2)=(q.map fun i=>vs.getD i .none).toArray∧failedOf st'=none∧q.Perm (List.range vs.length)∧q.Pairwise (fun i j=>lt i j=true)) (FhM.St κ (fun i=>(vs.getD i Value.none,vs.getD i Value.none)) (List.range vs.length) #[] 7) from FhM.runs_wp K2 h2' h64 fun l st' pm o ha hf=>⟨l,?_,hf,pm,o⟩)
      show (arrOf st').map (·.2)=_
      rw [ha]
      simp [FhM.T]
    · obtain ⟨u,st'⟩:=r
      obtain ⟨e,q,q1,q2,q3,q4⟩:=hr
      dsimp only at e q1 q2 ⊢
      subst e
      exact fin st' q q1 q2 q3 q4
end
section
variable {prog:Program} {w:World} {A:Around} {E:Value→Shared→Prop}
theorem lsort_tupsB {s:Shared} {a:Addr} {as:List Addr} {nss:List (List Int)} {n:Nat} {P:PySem.Fin→Shared→Prop} (ho:s.heap.get? a=some (seqObj "list" (as.map Value.ref).toArray n)) (h64:as.length < 128) (t:TupsAt s.heap as nss) (nd:nss.Nodup)
    (h:∀ q:List Nat,q.Perm (List.range as.length)→q.Pairwise (fun i j=>HT.lexLt (nss.getD i []) (nss.getD j [])=true)→∀ h' c,(∀ b o,b≠a→s.heap.get? b=some o→h'.get? b=some o)→h'.get? a=some (seqObj "list" (q.map fun i=>(as.map Value.ref).getD i .none).toArray c)→P (.done (.ret .none)) { s with heap:=h' }) :
    wpAny (model prog w) A (Builtin.«list.sort» ⟨[.ref a],[]⟩) P E s:=by
  have hl:=Paired.length t
  have hml:(as.map Value.ref).length=as.length:=List.length_map ..
  refine lsort_rawB (lt:=fun i j=>HT.lexLt (nss.getD i []) (nss.getD j [])) ho (by rw [hml]; exact h64) ⟨fun i j k _ _ _=>lex_tr,fun i j hi hj hij e=>lex_tot (fun z=>hij ?_) e⟩ (fun i _=>lex_irr _) (fun h2 h' kp Q hQ=>?_) (by rw [hml]; exact h)
  · have hi':i < nss.length:=by lia
    have hj':j < nss.length:=by lia
    have e1:nss[i]=nss[j]:=by simpa [hi',hj'] using z
    exact (List.getElem_inj nd).mp e1
  · have t':TupsAt h' as nss:=t.keep fun b o e ⟨ts,k,q,qc⟩=>kp b o (fun z=>by rw [z,ho] at e; cases e; have qc:Value.type "list"=Value.type "tuple":=qc; injection qc with qc; exact absurd qc (by decide)) e
    obtain ⟨fs,f1,f2,f3⟩:=tups_firsts t'
    refine PySem.W.kat_kind (s:={ s with heap:=h' }) (T:=.type "int") f1 (by rw [f2]; rw [hml] at h2; lia) (fun v hv=>?_) rfl (hQ _ (tups_asks ⟨_,rfl⟩ t'))
    obtain ⟨m,tk,rfl⟩:=f3 v hv
    exact PySem.W.Looks.of_pure rfl
end
section
variable {X:Cx}
theorem call_sorted_dictB (hc:X.calm=true):CallR X (.builtin "sorted") (fun xs H Q=>∃ d,∃ L:List (List Int×V),xs=[.ref d]∧Rd H d (.dT (L.map fun p=>(p.1.map Sum.inl,p.2)))∧L.length < 128∧(L.map (·.1)).Nodup∧(∀ p∈L,p.1≠[]) ∧
    ∀ (l:Addr) (M:List (List Int×Addr)),H l=none→(M.map (·.1)).Perm (L.map (·.1))→M.Pairwise (fun p q=>HT.lexLt p.1 q.1=true)→(∀ p∈M,H p.2=some (.tup (p.1.map V.int)))→Q (.ref l) (upd H l (.lst (M.map fun p=>V.ref p.2)))):=by
  intro pins s σ H xs us Q I r h
  obtain ⟨d,L,rfl,hd,h64,nd,hne,q⟩:=h
  obtain ⟨u,rfl,rx⟩:=vals1 r
  cases rx
  obtain ⟨z,lo,es,ep,as,raw,hz,ks,at_⟩:=dt_raw I hd
  have hlL:(L.map fun p=>((p.1.map Sum.inl:List Key),p.2)).length=L.length:=List.length_map ..
  have hla:as.length=L.length:=by rw [← hlL]; exact (Paired.length ks).symm
  have key:∀ (j:Nat) (p:List Int×V),L[j]?=some p→∃ a,as[j]?=some a∧H a=some (.tup (p.1.map V.int)):=fun j p hp=>by
    have hj:j < L.length:=(List.getElem?_eq_some_iff.mp hp).1
    obtain ⟨a,ha⟩:=get_of_lt (xs:=as) (j:=j) (by lia)
    have:=paired_get ks j ((p.1.map Sum.inl:List Key),p.2) a (by rw [List.getElem?_map,hp]; rfl) ha
    refine ⟨a,ha,?_⟩
    rw [this,List.map_map]
    rfl
  have t0:TupsAt s.heap as (L.map (·.1)):=paired_of (by rw [List.length_map,hla]) fun j a ns e1 e2=>by
    rw [List.getElem?_map] at e2
    cases hp:L[j]? with
    | none=>rw [hp] at e2; cases e2
    | some p =>
      rw [hp] at e2
      have e3:p.1=ns:=Option.some.inj e2
      obtain ⟨a',h1,h2⟩:=key j p hp
      rw [e1] at h1; cases h1
      obtain ⟨its,rv,it,_⟩:=I.tuple (SqT.of (K:=X.K) h2)
      exact ⟨by rw [← e3]; exact hne p (List.mem_of_getElem? hp),its.toArray,it,by rw [← e3]; simpa using intsAre_of rv⟩
  refine Calls.call_function_entry kind_sorted plain_sorted entry_sorted (args_sorted1 _) (by
    unfold Builtin.«sorted»
    refine wpAny_bind (m:=checkCount "sorted" 1 1 _) (wpAny_pure (wpAny_bind (PySem.W.kdu_collect (raw_src lo (es:=es) (ep:=ep)) (show _ from I.ok.hd hc) raw (by rw [hz]; exact z) fun h1 tk acc kp ha=>?_)))
    have e1:acc.toList=as.map Value.ref:=acc_refs ha (by lia) at_
    rw [e1]
    have I1:Inv X pins σ H { s with heap:=h1,toks:=tk }:=I.kept kp
    refine wpAny_bind (wpAny_newList ?_ (by rw [List.length_map,sizeLine_eq]; lia))
    have g1:(h1.push (seqObj "list" (as.map Value.ref).toArray 0)).get? h1.objs.size=some (seqObj "list" (as.map Value.ref).toArray 0):=Heap.get?_push_size _ rfl
    have t1:TupsAt (h1.push (seqObj "list" (as.map Value.ref).toArray 0)) as (L.map (·.1)):=t0.keep fun b o e _=>Heap.get?_push_of_some _ (kp b o e)
    refine wpAny_bind (wpAny_holding (wpAny_call_entry slot_list_sort ⟨_,g1,rfl⟩ entry_list_sort (lsort_tupsB g1 (by lia) t1 nd fun p pp po h2 c kp2 e=>⟨_,rfl,?_⟩) (args_list_sort _)))
    have hn:H h1.objs.size=none:=I1.hok.fresh (Nat.le_refl _)
    have inr:∀ i∈p,i < as.length:=fun i hi=>List.mem_range.mp (pp.mem_iff.mp hi)
    have eM:(p.map fun i=>(as.map Value.ref).getD i .none)=(p.map fun i=>as.getD i 0).map Value.ref:=by
      rw [List.map_map]
      refine List.map_congr_left fun i hi=>?_
      have:=inr i hi
      simp [this]
    refine wpAny_pure ⟨_,rfl,.ref h1.objs.size,_,I1.laid (a:=h1.objs.size) (o:=.lst ((p.map fun i=>((L.map (·.1)).getD i [],as.getD i 0)).map fun q=>V.ref q.2)) (t':=tk) (fun b o hb=>kp2 b o (Nat.ne_of_lt (Heap.lt_size hb)) (Heap.get?_push_of_some _ hb)) (Nat.le_refl _) ⟨?_,(p.map fun i=>as.getD i 0).map Value.ref,c,?_,?_⟩,rfl,q _ _ hn ?_ ?_ ?_⟩
    · rw [List.length_map,List.length_map,pp.length_eq,List.length_range,sizeLine_eq]; lia
    · rw [List.map_map]
      exact refs_vals2 _ (fun i=>as.getD i 0) (fun _=>rfl) p
    · rw [← eM]; exact e
    · rw [List.map_map]
      have e2:(List.range as.length).map (fun i=>(L.map (·.1)).getD i [])=L.map (·.1):=by
        refine List.ext_getElem? fun j=>?_
        rw [List.getElem?_map]
        by_cases hj:j < L.length
        · have h3:(List.range as.length)[j]?=some j:=by simp [hla,hj]
          rw [h3]
          simp [hj]
        · have h3:(List.range as.length)[j]?=none:=by simp [hla]; lia
          rw [h3,List.getElem?_eq_none (by rw [List.length_map]; lia)]
          rfl
      have e7:=pp.map fun i=>(L.map (·.1)).getD i []
      rw [e2] at e7
      exact e7
    · rw [List.pairwise_map]
      exact po
    · intro r hr
      obtain ⟨i,hi,e3⟩:=List.mem_map.mp hr
      have hlt:=inr i hi
      obtain ⟨p0,hp0⟩:=get_of_lt (xs:=L) (j:=i) (by lia)
      obtain ⟨a,h3,h4⟩:=key i p0 hp0
      rw [← e3]
      have e5:as.getD i 0=a:=by rw [List.getD_eq_getElem?_getD,h3]; rfl
      have e6:(L.map (·.1)).getD i []=p0.1:=by rw [List.getD_eq_getElem?_getD,List.getElem?_map,hp0]; rfl
      show H (as.getD i 0)=some (.tup (((L.map (·.1)).getD i []).map V.int))
      rw [e5,e6]; exact h4)
theorem call_sorted_thingsB (hc:X.calm=true):CallR X (.builtin "sorted") (fun xs H Q=>∃ d,∃ l:List (T2×V),∃ ss:List T2,xs=[.ref d]∧Rd H d (.dT (l.map fun q=>(tk q.1,q.2)))∧l.length < 128∧ss.Perm (l.map (·.1))∧ss.Pairwise lt2 ∧
    ∀ (r:Addr) (as:List Addr),H r=none→ThsAt H as ss→Q (.ref r) (upd H r (.lst (as.map V.ref)))):=by
  intro pins s σ H xs us Q I rv h
  obtain ⟨d,l,ss,rfl,hd,h64,pm,pw,q⟩:=h
  refine call_sorted_dictB hc pins s σ H _ us Q I rv ⟨d,l.map fun q=>([q.1.1,q.1.2],q.2),rfl,?_,by rw [List.length_map]; exact h64,?_,?_,fun r M hr mp mw ma=>?_⟩
  · have e:((l.map fun q=>(([q.1.1,q.1.2]:List Int),q.2)).map fun p=>((p.1.map Sum.inl:List Key),p.2))=l.map fun q=>(tk q.1,q.2):=by
      rw [List.map_map]; rfl
    rw [e]; exact hd
  · have nd:ss.Nodup:=pw.imp fun {a b} h z=>by
      rw [lt2_iff,z] at h; lia
    have nd2:(l.map (·.1)).Nodup:=pm.nodup_iff.mp nd
    have e:(l.map fun q=>(([q.1.1,q.1.2]:List Int),q.2)).map (·.1)=(l.map (·.1)).map fun t=>[t.1,t.2]:=by
      rw [List.map_map,List.map_map]; rfl
    rw [e]
    exact List.Pairwise.map _ (fun a b h z=>h (by obtain ⟨a1,a2⟩:=a; obtain ⟨b1,b2⟩:=b; simp at z; rw [z.1,z.2])) nd2
  · intro p hp
    obtain ⟨q,_,e⟩:=List.mem_map.mp hp
    rw [← e]; simp
  · have e:(l.map fun q=>(([q.1.1,q.1.2]:List Int),q.2)).map (·.1)=(l.map (·.1)).map fun t=>[t.1,t.2]:=by
      rw [List.map_map,List.map_map]; rfl
    rw [e] at mp
    have e2:M.map (·.1)=ss.map fun t=>[t.1,t.2]:=by
      refine sorted_one (lt:=fun a b=>HT.lexLt a b=true) (fun a z=>by rw [lex_irr] at z; cases z) (fun a b h1 h2=>by have:=lex_tr h1 h2; rw [lex_irr] at this; cases this) (mp.trans (pm.symm.map _)) ?_ ?_
      · rw [List.pairwise_map]; exact mw
      · rw [List.pairwise_map]; exact pw
    have hl:M.length=ss.length:=by have:=congrArg List.length e2; simpa using this
    have e3:(M.map fun p=>V.ref p.2)=(M.map (·.2)).map V.ref:=by rw [List.map_map]; rfl
    rw [e3]
    refine q r _ hr (paired_of (by rw [List.length_map]; exact hl) fun j a t e4 e5=>?_)
    rw [List.getElem?_map] at e4
    cases hm:M[j]? with
    | none=>rw [hm] at e4; cases e4
    | some m =>
      rw [hm] at e4
      cases e4
      have e6:(M.map (·.1))[j]?=some m.1:=by rw [List.getElem?_map,hm]; rfl
      rw [e2,List.getElem?_map,e5] at e6
      have e7:[t.1,t.2]=m.1:=Option.some.inj e6
      have:=ma m (List.mem_of_getElem? hm)
      rw [← e7] at this
      exact this
end
end FX
namespace K32
open PySem L2 FX
set_option linter.all false
def top (i:Nat):Stmt:=PySem.Challenge.pw_farhold_k32_inquiries.main.body.getD i (.Pass ⟨0,0,0,0⟩)
abbrev sReached:Stmt:=top 1
abbrev sUnreached:Stmt:=top 3
abbrev sRecorded:Stmt:=top 4
abbrev sInit:Stmt:=inClass (top 6) 0
abbrev sFirst:Stmt:=inClass (top 6) 1
abbrev sSecond:Stmt:=inClass (top 6) 2
abbrev sStill:Stmt:=inClass (top 6) 3
abbrev sResult:Stmt:=inClass (top 6) 4
abbrev sCell:Stmt:=top 8
abbrev sStream:Stmt:=top 9
abbrev sThings:Stmt:=top 11
abbrev sSome:Stmt:=top 12
abbrev sHeld:Stmt:=top 13
abbrev sRecords:Stmt:=top 14
abbrev sStates:Stmt:=top 15
abbrev sDue:Stmt:=top 16
abbrev sOrder:Stmt:=top 17
abbrev sTruth:Stmt:=top 18
abbrev sTicks:Stmt:=top 19
abbrev sAnswered:Stmt:=top 20
abbrev sLaw:Stmt:=top 21
theorem small2k {n:Nat} (h:n≤2000):n < sizeLine:=Nat.lt_of_le_of_lt h (by decide)
structure Txt (mg:Str→Option Value):Prop where
  len:mg "len"=none
  range:mg "range"=none
  tuple:mg "tuple"=none
  sorted:mg "sorted"=none
  isi:mg "isinstance"=none
  list:mg "list"=none
  dict:mg "dict"=none
  max:mg "max"=none
  min:mg "min"=none
  bool:mg "bool"=none
  int:mg "int"=none
structure Gdf (K:PySem.W.Frag) (mg:Str→Option Value) (x:Str) (st:Stmt) (ps:List Str) (f:Addr) (fd:FuncData):Prop where
  fn:Fun K x x st f fd
  bd:Binds K fd ps []
  mg:mg x=some (.ref f)
section
variable {P:Program} {w:World} {K:PySem.W.Frag} {mg:Str→Option Value} {base:Heap}
theorem scCe:FnScope ["_law_script","_law_k","_law_number"] ["_law_script","_law_k"] (defScope sCell):=⟨rfl,rfl,rfl,by decide +kernel,rfl,by decide +kernel,by decide +kernel⟩
def spCell (K:PySem.W.Frag):Sp:=fun vs H Q _=>∃ (a:Addr) (ns:List Int) (k:Int),vs=[.ref a,.int k]∧SqL K H a (ns.map V.int)∧ns.length≤63∧0≤k∧k≤1000∧∀ v:Int,Q (.int v) H
theorem ok_cell {f:Addr} {fd:FuncData} (F:Fun K "_law_cell" "_law_cell" sCell f fd) (hn:mg "len"=none):FnOk P w K mg base CX0 1 f fd ["_law_script","_law_k"] (spCell K):=by
  refine F.ok scCe (fun vs H Q E h=>?_) (fun cdv A outer s H vs Q E hr h=>?_)
  · obtain ⟨a,ns,k,rfl,_⟩:=h
    rfl
  · obtain ⟨a,ns,k,rfl,hS,hl,h0,h100,kk⟩:=h
    have hlen:(ns.map V.int).length=ns.length:=List.length_map ..
    have item:∀ i:Int,0≤i→i < ns.length→∃ v,atI (ns.map V.int) i=some (.int v):=fun i a b=>by
      obtain ⟨x,hx⟩:=get_of_lt (xs:=ns) (j:=i.toNat) (by omega)
      exact ⟨x,atI_at a (by rw [List.getElem?_map,hx]; rfl)⟩
    refine ⟨_,pss_cons (ps_if (pt_cmpR op_lt (pv 1) (pe_callB call_len_seq (by rfl) hn PySem.boot_len (pa_cons (pv 0) pa_nil)) (nomark _)) (pss_one (ps_ret (pe_ix ix_list (pv 0) (pv 1) (fun _ _=>rfl)))) pss_nil)
      (pss_cons (ps_set (i:=2) scCe.nd rfl (Or.inl rfl) (pe_op op_add (pe_op op_mul (pv 1) pe_int) pe_int))
      (pss_cons (ps_if (pt_cmpR op_gt (pe_callB call_len_seq (by rfl) hn PySem.boot_len (pa_cons (pv 0) pa_nil)) pe_int (nomark _))
        (pss_one (ps_set (i:=2) scCe.nd rfl (Or.inl rfl) (pe_op op_mod (pe_op op_add (pe_op op_mul (pe_ix ix_list (pv 0) (pe_op op_mod (pe_op op_mul (pv 1) pe_int) (pe_callB call_len_seq (by rfl) hn PySem.boot_len (pa_cons (pv 0) pa_nil))) (fun _ _=>rfl)) pe_int) (pe_op op_mul (pv 1) pe_int)) pe_int))) pss_nil)
      (pss_one (ps_ret (pe_op op_mod (pe_op op_mul (pv 2) (pv 2)) pe_int))))),?_⟩
    refine ⟨_,rfl,_,rfl,a,_,rfl,.inl hS,_,_,rfl,rfl,_,rfl,?_⟩
    refine ite2 (fun c1=>?_) (fun _=>?_)
    · have c1:=of_decide_eq_true c1
      obtain ⟨v,hv⟩:=item k h0 (by rw [hlen] at c1; exact c1)
      exact ⟨_,rfl,_,rfl,a,_,_,_,rfl,rfl,hS,hv,kk v⟩
    · refine ⟨_,rfl,_,_,rfl,rfl,.inr ⟨by decide,by decide⟩,_,_,rfl,rfl,?_⟩
      refine ⟨_,rfl,a,_,rfl,.inl hS,_,_,rfl,rfl,_,rfl,?_⟩
      refine ite2 (fun c2=>?_) (fun _=>?_)
      · have c2:=of_decide_eq_true c2
        have hpos:(0:Int) < (ns.length:Int):=by rw [hlen] at c2; exact c2
        obtain ⟨v,hv⟩:=item (k * 7 % (ns.length:Int)) (Int.emod_nonneg _ (by omega)) (Int.emod_lt_of_pos _ hpos)
        refine ⟨_,rfl,_,rfl,_,_,rfl,rfl,.inr ⟨by decide,by decide⟩,_,rfl,a,_,rfl,.inl hS,_,_,rfl,rfl,(by rw [hlen]; exact hpos),a,_,_,_,rfl,rfl,hS,(by rw [hlen]; exact hv),_,_,rfl,rfl,.inr ⟨by decide,by decide⟩,
          _,rfl,_,_,rfl,rfl,.inr ⟨by decide,by decide⟩,_,_,rfl,rfl,_,_,rfl,rfl,(show (0:Int) < 2147483647 by decide),?_⟩
        refine ⟨_,rfl,_,rfl,_,_,rfl,rfl,.inl ⟨?_,?_⟩,_,_,rfl,rfl,(show (0:Int) < 2147483629 by decide),kk _⟩
        · have:=Int.emod_nonneg (v * 48271 + k * 7919) (show (2147483647:Int)≠0 by decide)
          omega
        · have:=Int.emod_lt_of_pos (v * 48271 + k * 7919) (show (0:Int) < 2147483647 by decide)
          omega
      · exact ⟨_,rfl,_,rfl,_,_,rfl,rfl,.inl ⟨by omega,by omega⟩,_,_,rfl,rfl,(show (0:Int) < 2147483629 by decide),kk _⟩
theorem scStr:FnScope ["_law_cell_here","_law_many","_law_xs","_law_number","_law_k"] ["_law_cell_here","_law_many"] (defScope sStream):=⟨rfl,rfl,rfl,by decide +kernel,rfl,by decide +kernel,by decide +kernel⟩
def spStream:Sp:=fun vs H Q _=>∃ (c:Int) (m:Nat),vs=[.int c,.int m]∧m≤20∧∀ (l:Addr) (xs:List Int) (H':Hp),H l=none→Same H H'→H' l=some (.lst (xs.map V.int))→xs.length=m→(∀ x∈xs,0≤x)→Q (.ref l) H'
theorem ok_stream {f:Addr} {fd:FuncData} (F:Fun K "_law_stream" "_law_stream" sStream f fd) (T:Txt mg):FnOk P w K mg base CX0 1 f fd ["_law_cell_here","_law_many"] spStream:=by
  refine F.ok scStr (fun vs H Q E h=>?_) (fun cdv A outer s H vs Q E hr h=>?_)
  · obtain ⟨c,m,rfl,_⟩:=h
    rfl
  · obtain ⟨c,m,rfl,hm,k⟩:=h
    refine ⟨_,pss_cons (ps_set (i:=2) scStr.nd rfl (Or.inl rfl) (pe_lst pa_nil))
      (pss_cons (ps_set (i:=3) scStr.nd rfl (Or.inl rfl) (pe_op op_mod (pv 0) pe_int))
      (pss_cons (ps_for PassesOwn.never rfl (pi_range1 rfl T.range (pa_cons (pv 1) pa_nil)) (pg_name (i:=4) scStr.nd rfl (Or.inl rfl))
        (pss_cons (ps_set (i:=3) scStr.nd rfl (Or.inl rfl) (pe_op op_mod (pe_op op_add (pe_op op_mul (pv 3) pe_int) pe_int) pe_int))
        (pss_one (ps_expr (pe_bm PySem.F.plainAttrs_list PySem.F.slot_list_append PySem.F.type_list_append mt_append (pv 2) (pa_cons (pv 3) pa_nil))))))
      (pss_one (ps_ret (pv 2))))),?_⟩
    refine ⟨by decide,fun l hl=>?_⟩
    refine ⟨_,rfl,_,_,rfl,rfl,(show (0:Int) < 2147483647 by decide),?_⟩
    refine ⟨_,rfl,(m:Int),rfl,by omega,by omega,?_⟩
    rw [Int.toNat_natCast]
    refine for_range (lo:=0) (n:=m) (fun i σ H2=>∃ (xs:List Int) (z:Int) (u:Option V),σ=[some (.int c),some (.int m),some (.ref l),some (.int z),u]∧Same H H2∧H2 l=some (.lst (xs.map V.int))∧xs.length=i∧∀ x∈xs,0≤x)
      ⟨[],_,_,rfl,same_new hl,upd_same,rfl,fun x hx=>by cases hx⟩ ?_ ?_
    · rintro i σ H2 hi ⟨xs,z,u,rfl,s2,e2,len,pos⟩
      refine ⟨_,rfl,_,_,rfl,rfl,.inr ⟨by decide,by decide⟩,_,_,rfl,rfl,_,_,rfl,rfl,(show (0:Int) < 2147483647 by decide),?_⟩
      have n0:=Int.emod_nonneg (z * 48271 + 12345) (show (2147483647:Int)≠0 by decide)
      rw [show ((fun (i j:Int)=>V.int (i % j)) (z * 48271 + 12345) 2147483647)=V.int ((z * 48271 + 12345) % 2147483647) from rfl]
      generalize (z * 48271 + 12345) % 2147483647=y at n0
      refine ⟨_,rfl,.inl ⟨rfl,_,SqL.of e2⟩,_,rfl,l,_,_,rfl,rfl,e2,small2k (by rw [List.length_map]; omega),?_⟩
      refine ⟨xs++[y],y,_,rfl,fun b o e=>?_,?_,by rw [List.length_append,len]; rfl,fun x hx=>?_⟩
      · rw [upd_ne (ne_of_none e hl)]; exact s2 b o e
      · rw [List.map_append]; exact upd_same
      · rcases List.mem_append.mp hx with hx | hx
        · exact pos x hx
        · rw [List.mem_singleton.mp hx]; exact n0
    · rintro σ H2 ⟨xs,z,u,rfl,s2,e2,len,pos⟩
      exact ⟨_,rfl,k l xs H2 hl s2 e2 len pos⟩
end
end K32
namespace K32
open PySem L2 FX
set_option linter.all false
section
variable {P:Program} {w:World} {K:PySem.W.Frag} {mg:Str→Option Value} {base:Heap}
theorem scTh:FnScope ["_law_script","_law_houses_here","_law_things_here","_law_last","_law_k","_law_x","_law_house"] ["_law_script","_law_houses_here"] (defScope sThings):=⟨rfl,rfl,rfl,by decide +kernel,rfl,by decide +kernel,by decide +kernel⟩
def spThings (K:PySem.W.Frag):Sp:=fun vs H Q _=>∃ (a hl:Addr) (ns hs:List Int),vs=[.ref a,.ref hl]∧Scr K H a (ns.map V.int)∧ns.length≤63∧H hl=some (.lst (hs.map V.int))∧1≤hs.length∧hs.length≤12 ∧
  ∀ (l:Addr) (as:List Addr) (ts:List T2) (H':Hp),H l=none→Same H H'→H' l=some (.lst (as.map V.ref))→ThsAt H' as ts→ts.Nodup→1≤ts.length→ts.length≤24→Q (.ref l) H'
structure Last (kvs:List (Key×V)) (ts:List T2):Prop where
  int:∀ k v,valV kvs k=some v→∃ n,v=.int n
  le:∀ t∈ts,∃ n,valV kvs (.inl t.1)=some (.int n)∧t.2≤n
theorem Last.put {kvs:List (Key×V)} {ts:List T2} (h:Last kvs ts) {x n:Int} (up:∀ m,valV kvs (.inl x)=some (.int m)→m < n):Last (putK kvs (.inl x) (.int n)) (ts++[(x,n)])∧(x,n)∉ts:=by
  refine ⟨⟨fun k v e=>?_,fun t ht=>?_⟩,fun z=>?_⟩
  · rw [valV_put] at e
    by_cases c:k=.inl x
    · rw [if_pos c] at e; exact ⟨n,(Option.some.inj e).symm⟩
    · rw [if_neg c] at e; exact h.int k v e
  · rw [valV_put]
    rcases List.mem_append.mp ht with ht | ht
    · obtain ⟨m,e,le⟩:=h.le t ht
      by_cases c:(Sum.inl t.1:Key)=.inl x
      · rw [if_pos c]
        rw [c] at e
        have:=up m e
        exact ⟨n,rfl,by omega⟩
      · rw [if_neg c]; exact ⟨m,e,le⟩
    · rw [List.mem_singleton.mp ht,if_pos rfl]
      exact ⟨n,rfl,Int.le_refl _⟩
  · obtain ⟨m,e,le⟩:=h.le _ z
    have:=up m e
    have le:n≤m:=le
    omega
theorem ok_things {f fC fS:Addr} {fd dC dS:FuncData} (F:Fun K "_law_things" "_law_things" sThings f fd) (T:Txt mg) (MC:Gdf K mg "_law_cell" sCell ["_law_script","_law_k"] fC dC) (MS:Gdf K mg "_law_stream" sStream ["_law_cell_here","_law_many"] fS dS):FnOk P w K mg base CX0 2 f fd ["_law_script","_law_houses_here"] (spThings K):=by
  have GC:FnOk P w K mg base CX0 1 fC dC ["_law_script","_law_k"] (spCell K):=ok_cell MC.fn T.len
  have GS:FnOk P w K mg base CX0 1 fS dS ["_law_cell_here","_law_many"] spStream:=ok_stream MS.fn T
  refine F.ok scTh (fun vs H Q E h=>?_) (fun cdv A outer s H vs Q E hr h=>?_)
  · obtain ⟨a,hl,ns,hs,rfl,_⟩:=h
    rfl
  · obtain ⟨a,hl,ns,hs,rfl,hS,hlen,eh,h1,h4,k⟩:=h
    have hr1:Room 1 _:=hr.mono (by decide)
    have hu:=hu_of hr
    refine ⟨_,pss_cons (ps_set (i:=2) scTh.nd rfl (Or.inl rfl) (pe_lst pa_nil))
      (pss_cons (ps_set (i:=3) scTh.nd rfl (Or.inl rfl) pe_dnewK)
      (pss_cons (ps_for PassesOwn.never rfl (pi_range2 rfl T.range (pa_cons pe_int (pa_cons (pe_callB (call_max2 rfl) (by rfl) T.max PyProof.Rows.boot_max (pa_cons pe_int (pa_cons (pe_callB (call_min2 rfl) (by rfl) T.min PyProof.Rows.boot_min (pa_cons pe_int (pa_cons (pe_callB call_len_seq (by rfl) T.len PySem.boot_len (pa_cons (pv 0) pa_nil)) pa_nil))) pa_nil))) pa_nil))) (pg_name (i:=4) scTh.nd rfl (Or.inl rfl))
        (pss_cons (ps_set (i:=5) scTh.nd rfl (Or.inl rfl) (pe_ix ix_list (pe_call GS hr1 (by rfl) MS.mg MS.fn.kp MS.bd .nil pass0 (pa_cons (pe_call GC hr1 (by rfl) MC.mg MC.fn.kp MC.bd .nil pass0 (pa_cons (pv 0) (pa_cons (pv 4) pa_nil))) (pa_cons pe_int pa_nil))) pe_int (fun _ _=>rfl)))
        (pss_cons (ps_set (i:=6) scTh.nd rfl (Or.inl rfl) (pe_ix ix_list (pv 1) (pe_op op_mod (pv 5) (pe_callB call_len_seq (by rfl) T.len PySem.boot_len (pa_cons (pv 1) pa_nil))) (fun _ _=>rfl)))
        (pss_cons (ps_dput hu (pv 3) (pv 6) (pe_op op_add (pe_op op_add (pe_dget2 hu (pv 3) (pv 6) (pe_un un_neg pe_int) ⟨rfl,rfl,rfl,rfl⟩) pe_int) (pe_op op_fdiv (pe_op op_mod (pe_op op_fdiv (pv 5) pe_int) pe_int) pe_int)) rfl)
        (pss_one (ps_expr (pe_bm PySem.F.plainAttrs_list PySem.F.slot_list_append PySem.F.type_list_append mt_append (pv 2) (pa_cons (pe_tup (pa_cons (pv 6) (pa_cons (pe_dget hu (pv 3) (pv 6) (fun _ _=>rfl)) pa_nil))) pa_nil))))))))
      (pss_one (ps_ret (pv 2))))),?_⟩
    refine ⟨by decide,fun l hl0=>?_⟩
    intro d hd
    have nld:l≠d:=fun z=>by rw [← z,upd_same] at hd; cases hd
    have nhd:hl≠d:=fun z=>by
      have:(upd H l (.lst [])) hl=some (.lst (hs.map V.int)):=by rw [upd_ne (ne_of_none eh hl0)]; exact eh
      rw [z,hd] at this; cases this
    have s0:Same H (upd (upd H l (.lst [])) d (.dK [])):=same_trans (same_new hl0) (same_new hd)
    have e1:(upd (upd H l (.lst [])) d (.dK [])) l=some (.lst (([]:List Addr).map V.ref)):=by rw [upd_ne nld]; exact upd_same
    have e2:(upd (upd H l (.lst [])) d (.dK [])) d=some (.dK []):=upd_same
    have nd0:H d=none:=same_free (same_new hl0) hd
    generalize upd (upd H l (.lst [])) d (.dK [])=H0 at s0 e1 e2
    have lN:(ns.map V.int).length=ns.length:=List.length_map ..
    refine ⟨_,rfl,a,_,rfl,.inl (hS.keep (KeepT.of_same s0)).sq,_,_,rfl,_,_,rfl,5,_,rfl,⟨by decide,by decide,?_,?_⟩,?_⟩
    · rw [lN]; repeat' split
      all_goals omega
    · rw [lN]; repeat' split
      all_goals omega
    obtain ⟨m,em,m1,m2⟩:∃ m:Nat,((if (if ((ns.map V.int).length:Int) < 29 then ((ns.map V.int).length:Int) else 29) > 11 then (if ((ns.map V.int).length:Int) < 29 then ((ns.map V.int).length:Int) else 29) else 11) - 5).toNat=m∧1≤m∧m≤24:=by
      refine ⟨_,rfl,?_,?_⟩
      · rw [lN]; repeat' split
        all_goals omega
      · rw [lN]; repeat' split
        all_goals omega
    rw [em]
    have Hlen:(hs.map V.int).length=hs.length:=List.length_map ..
    refine for_range (lo:=5) (n:=m) (fun i σ H2=>∃ (as:List Addr) (ts:List T2) (kvs:List (Key×V)) (u1 u2 u3:Option V),σ=[some (.ref a),some (.ref hl),some (.ref l),some (.ref d),u1,u2,u3]∧Same H H2∧H2 l=some (.lst (as.map V.ref))∧ThsAt H2 as ts∧H2 d=some (.dK kvs)∧Last kvs ts∧ts.Nodup∧ts.length=i∧kvs.length≤i)
      ⟨[],[],[],_,_,_,rfl,s0,e1,.nil,e2,⟨fun k v e=>(by cases e),fun t ht=>(by cases ht)⟩,List.nodup_nil,rfl,Nat.le_refl _⟩ ?_ ?_
    · rintro i σ H2 hi ⟨as,ts,kvs,u1,u2,u3,rfl,s2,el,th,ed,la,nd,lt,lk⟩
      have sS:=(hS.keep (KeepT.of_same s2)).sq
      refine ⟨_,rfl,_,rfl,a,ns,5 + (i:Int),rfl,sS,hlen,by omega,by omega,fun v=>⟨v,1,rfl,by decide,fun q xs H3 hq s3 eq lx px=>?_⟩⟩
      obtain ⟨x,ex⟩:∃ x,xs=[x]:=List.length_eq_one_iff.mp lx
      subst ex
      have x0:0≤x:=px x (by simp)
      refine ⟨q,_,0,V.int x,rfl,rfl,SqL.of eq,rfl,?_⟩
      have hpos:(0:Int) < (hs.length:Int):=by omega
      obtain ⟨h,eh2⟩:=get_of_lt (xs:=hs) (j:=(x % (hs.length:Int)).toNat) (by have:=Int.emod_lt_of_pos x hpos; have:=Int.emod_nonneg x (show (hs.length:Int)≠0 by omega); omega)
      have ah:atI (hs.map V.int) (x % (((hs.map V.int).length:Nat):Int))=some (.int h):=by
        rw [Hlen]
        exact atI_at (Int.emod_nonneg _ (by omega)) (by rw [List.getElem?_map,eh2]; rfl)
      have s23:=same_trans s2 s3
      refine ⟨_,rfl,_,rfl,_,rfl,hl,_,rfl,.inl (SqL.of (s23 _ _ eh)),_,_,rfl,rfl,(by rw [Hlen]; exact hpos),hl,_,_,_,rfl,rfl,SqL.of (s23 _ _ eh),ah,?_⟩
      have ed3:=s3 _ _ ed
      have el3:=s3 _ _ el
      obtain ⟨y,ey,upy⟩:∃ y:Int,(valV kvs (.inl h)).getD (.int (-1))=.int y∧∀ m,valV kvs (.inl h)=some (.int m)→m=y:=by
        cases c:valV kvs (.inl h) with
        | none=>exact ⟨-1,rfl,fun m z=>by cases z⟩
        | some v =>
          obtain ⟨n,rfl⟩:=la.int _ _ c
          exact ⟨n,rfl,fun m z=>by injection z with z; injection z with z; exact z.symm⟩
      refine ⟨_,rfl,d,rfl,.inl ⟨_,.inl ed3⟩,_,rfl,1,rfl,_,DGet.k (k:=.inl h) ed3,y,1,ey,rfl,_,rfl,_,_,rfl,rfl,⟨by decide,by decide⟩,_,_,rfl,rfl,(show (0:Int) < 3 by decide),_,_,rfl,rfl,⟨by decide,by decide⟩,_,_,rfl,rfl,_,rfl,_,rfl,d,_,rfl,DPut.k (k:=.inl h) ed3 (small2k (by omega)),?_⟩
      have pos:0≤x / 12 % 3 / 2:=by omega
      obtain ⟨n,en,ny⟩:∃ n:Int,V.int (y + 1 + x / 12 % 3 / 2)=V.int n∧y < n:=⟨_,rfl,by omega⟩
      rw [show ((fun (i j:Int)=>V.int (i + j)) (y + 1) (x / 12 % 3 / 2))=V.int (y + 1 + x / 12 % 3 / 2) from rfl,en]
      obtain ⟨la2,nw⟩:=la.put (x:=h) (n:=n) fun m e=>by rw [upy m e]; exact ny
      have kt4:KeepT H3 (upd H3 d (.dK (putK kvs (.inl h) (.int n)))):=KeepT.upd fun o' e=>by
        rw [ed3] at e; cases e; exact ⟨fun _ z=>(by cases z),fun _ _ z=>(by cases z)⟩
      have el4:(upd H3 d (.dK (putK kvs (.inl h) (.int n)))) l=some (.lst (as.map V.ref)):=by rw [upd_ne nld]; exact el3
      have ed4:(upd H3 d (.dK (putK kvs (.inl h) (.int n)))) d=some (.dK (putK kvs (.inl h) (.int n))):=upd_same
      have s4:Same H (upd H3 d (.dK (putK kvs (.inl h) (.int n)))):=fun b o e=>by rw [upd_ne (ne_of_none e nd0)]; exact s23 b o e
      have th4:=ThsAt.keep (kt4) (ThsAt.keep (KeepT.of_same s3) th)
      generalize upd H3 d (.dK (putK kvs (.inl h) (.int n)))=H4 at kt4 el4 ed4 s4 th4
      refine ⟨_,rfl,.inl ⟨rfl,_,SqL.of el4⟩,_,rfl,_,rfl,_,rfl,d,.int n,rfl,?_,(show 2≤sizeLine by decide),fun t ht=>?_⟩
      · have:=DGet.k (k:=.inl h) ed4
        rw [valV_put,if_pos rfl] at this
        exact this
      have s5:=same_new (o:=.tup (tv (h,n))) ht
      refine ⟨l,_,_,rfl,rfl,s5 _ _ el4,small2k (by rw [List.length_map,Paired.length th4]; omega),?_⟩
      have et:(upd H4 t (.tup (tv (h,n)))) t=some (.tup (tv (h,n))):=upd_same
      have el5:=s5 _ _ el4
      have ed5:=s5 _ _ ed4
      have th5:=ThsAt.keep (KeepT.of_same s5) th4
      rw [show (upd H4 t (.tup [V.int h,V.int n]))=upd H4 t (.tup (tv (h,n))) from rfl]
      have s05:=same_trans s4 s5
      generalize upd H4 t (.tup (tv (h,n)))=H5 at s5 et el5 ed5 th5 s05
      have kt6:KeepT H5 (upd H5 l (.lst (as.map V.ref++[V.ref t]))):=KeepT.upd fun o' e=>by
        rw [el5] at e; cases e; exact ⟨fun _ z=>(by cases z),fun _ _ z=>(by cases z)⟩
      refine ⟨as++[t],ts++[(h,n)],_,_,_,_,rfl,fun b o e=>?_,?_,paired_snoc' (ThsAt.keep kt6 th5) (kt6.tup _ _ et),by rw [upd_ne (Ne.symm nld)]; exact ed5,la2,?_,by rw [List.length_append,lt]; rfl,by have:=length_putK kvs (.inl h) (.int n); omega⟩
      · rw [upd_ne (ne_of_none e hl0)]; exact s05 b o e
      · rw [List.map_append]; exact upd_same
      · exact List.nodup_append.mpr ⟨nd,by simp,fun x hx y hy e=>nw (by rw [List.mem_singleton.mp hy] at e; rw [← e]; exact hx)⟩
    · rintro σ H2 ⟨as,ts,kvs,u1,u2,u3,rfl,s2,el,th,ed,la,nd,lt,lk⟩
      exact ⟨_,rfl,k l as ts H2 hl0 s2 el th nd (by omega) (by omega)⟩
end
end K32
namespace K32
open PySem L2 FX
set_option linter.all false
section
variable {P:Program} {w:World} {K:PySem.W.Frag} {mg:Str→Option Value} {base:Heap}
theorem scSo:FnScope ["_law_xs","_law_things_here","_law_some_here","_law_x","_law_one"] ["_law_xs","_law_things_here"] (defScope sSome):=⟨rfl,rfl,rfl,by decide +kernel,rfl,by decide +kernel,by decide +kernel⟩
def spSome:Sp:=fun vs H Q _=>∃ (xl tl:Addr) (xs:List Int) (as:List Addr) (ts:List T2),vs=[.ref xl,.ref tl]∧H xl=some (.lst (xs.map V.int))∧xs.length≤10∧H tl=some (.lst (as.map V.ref))∧ThsAt H as ts∧1≤ts.length ∧
  ∀ (l:Addr) (bs:List Addr) (us:List T2) (H':Hp),H l=none→Same H H'→H' l=some (.lst (bs.map V.ref))→ThsAt H' bs us→us.Nodup→us.length≤xs.length→Q (.ref l) H'
def Mid (xl tl l:Addr) (g:Hp×Int) (σ:L2.St) (H:Hp):Prop:=Same g.1 H∧∃ (o:Addr) (t:T2),σ=[some (.ref xl),some (.ref tl),some (.ref l),some (.int g.2),some (.ref o)]∧H o=some (.tup (tv t))
theorem ok_some {f:Addr} {fd:FuncData} (F:Fun K "_law_some" "_law_some" sSome f fd) (T:Txt mg):FnOk P w K mg base CX0 1 f fd ["_law_xs","_law_things_here"] spSome:=by
  refine F.ok scSo (fun vs H Q E h=>?_) (fun cdv A outer s H vs Q E hr h=>?_)
  · obtain ⟨xl,tl,xs,as,ts,rfl,_⟩:=h
    rfl
  · obtain ⟨xl,tl,xs,as,ts,rfl,ex,zx,et,th,h1,k⟩:=h
    refine ⟨_,pss_cons (ps_set (i:=2) scSo.nd rfl (Or.inl rfl) (pe_lst pa_nil))
      (pss_cons (ps_for PassesOwn.never rfl (pi_list (pv 0)) (pg_name (i:=3) scSo.nd rfl (Or.inl rfl))
        (pss_cons (ps_set (i:=4) scSo.nd rfl (Or.inl rfl) (pe_ix ix_list (pv 1) (pe_op op_mod (pv 3) (pe_callB call_len_seq (by rfl) T.len PySem.boot_len (pa_cons (pv 1) pa_nil))) (fun _ _=>rfl)))
        (pss_cons (PS.by (γ:=Addr×Hp×Int) (fun g=>Mid xl tl g.1 g.2) (fun g=>Mid xl tl g.1 g.2) (fun _ _=>False) (ps_if (pt_cmpR op_eq (pe_op op_mod (pe_op op_fdiv (pv 3) pe_int) pe_int) pe_int (nomark _))
            (pss_one (ps_set (i:=4) scSo.nd rfl (Or.inl rfl) (pe_tup (pa_cons (pe_ix ix_tup (pv 4) pe_int (fun _ _=>rfl)) (pa_cons (pe_op op_add (pe_op op_add (pe_ix ix_tup (pv 4) pe_int (fun _ _=>rfl)) pe_int) (pe_op op_mod (pe_op op_fdiv (pv 3) pe_int) pe_int)) pa_nil))))) pss_nil) ?one)
        (pss_cons (PS.by (γ:=Addr×Hp×Int) (fun g=>Mid xl tl g.1 g.2) (fun g=>Mid xl tl g.1 g.2) (fun _ _=>False) (ps_if (pt_cmpR op_eq (pe_op op_mod (pe_op op_fdiv (pv 3) pe_int) pe_int) pe_int (nomark _))
            (pss_one (ps_set (i:=4) scSo.nd rfl (Or.inl rfl) (pe_tup (pa_cons (pe_op op_mod (pe_op op_fdiv (pv 3) pe_int) pe_int) (pa_cons (pe_ix ix_tup (pv 4) pe_int (fun _ _=>rfl)) pa_nil))))) pss_nil) ?two)
        (pss_one (ps_if (pt_cmpR (op_notIn_things (hu64 hr)) (pv 4) (pv 2) rfl) (pss_one (ps_expr (pe_bm PySem.F.plainAttrs_list PySem.F.slot_list_append PySem.F.type_list_append mt_append (pv 2) (pa_cons (pv 4) pa_nil)))) pss_nil))))))
      (pss_one (ps_ret (pe_callB (call_sorted_list rfl) (by rfl) T.sorted PyProof.Rows.boot_sorted (pa_cons (pv 2) pa_nil))))),?_⟩
    case one =>
      rintro ⟨l,H0,x⟩ σ H1 ⟨s1,o,t,rfl,eo⟩
      refine ⟨_,rfl,_,_,rfl,rfl,⟨by decide,by decide⟩,_,_,rfl,rfl,(show (0:Int) < 9 by decide),rfl,_,rfl,?_⟩
      refine ite2 (fun _=>?_) (fun _=>⟨s1,o,t,rfl,eo⟩)
      refine ⟨_,rfl,o,_,0,V.int t.1,rfl,rfl,SqT.of eo,rfl,_,rfl,o,_,1,V.int t.2,rfl,rfl,SqT.of eo,rfl,_,_,rfl,rfl,_,rfl,_,_,rfl,rfl,⟨by decide,by decide⟩,_,_,rfl,rfl,(show (0:Int) < 40 by decide),_,_,rfl,rfl,(show 2≤sizeLine by decide),fun p hp=>?_⟩
      exact ⟨same_trans s1 (same_new hp),p,(t.1,t.2 + 1 + x / 9000 % 40),rfl,upd_same⟩
    case two =>
      rintro ⟨l,H0,x⟩ σ H1 ⟨s1,o,t,rfl,eo⟩
      refine ⟨_,rfl,_,_,rfl,rfl,⟨by decide,by decide⟩,_,_,rfl,rfl,(show (0:Int) < 9 by decide),rfl,_,rfl,?_⟩
      refine ite2 (fun _=>?_) (fun _=>⟨s1,o,t,rfl,eo⟩)
      refine ⟨_,rfl,_,_,rfl,rfl,⟨by decide,by decide⟩,_,_,rfl,rfl,(show (0:Int) < 13 by decide),_,rfl,o,_,1,V.int t.2,rfl,rfl,SqT.of eo,rfl,(show 2≤sizeLine by decide),fun p hp=>?_⟩
      exact ⟨same_trans s1 (same_new hp),p,(x / 9000 % 13,t.2),rfl,upd_same⟩
    refine ⟨by decide,fun l hl=>?_⟩
    have s0:=same_new (o:=.lst []) hl
    have e0:(upd H l (.lst [])) l=some (.lst []):=upd_same
    generalize upd H l (.lst [])=H0 at s0 e0
    have lA:(as.map V.ref).length=ts.length:=by rw [List.length_map]; exact Paired.length th
    refine ⟨_,rfl,xl,rfl,⟨_,SqL.of (s0 _ _ ex)⟩,?_⟩
    refine for_list (K:=K) (a:=xl) (xs:=xs.map V.int) (fun i σ H2=>∃ (bs:List Addr) (us:List T2) (u1 u2:Option V),σ=[some (.ref xl),some (.ref tl),some (.ref l),u1,u2]∧Same H H2∧H2 l=some (.lst (bs.map V.ref))∧ThsAt H2 bs us∧us.Nodup∧us.length≤i)
      ⟨[],[],_,_,rfl,s0,e0,.nil,List.nodup_nil,Nat.le_refl _⟩ (fun i σ H2 _ ⟨_,_,_,_,_,s2,_⟩=>SqL.of (s2 _ _ ex)) ?_ ?_
    · rintro i v σ H2 hi ⟨bs,us,u1,u2,rfl,s2,el,tu,nd,lu⟩
      have hi':=(List.getElem?_eq_some_iff.mp hi).1
      rw [List.length_map] at hi'
      rw [List.getElem?_map] at hi
      cases hx:xs[i]? with
      | none=>rw [hx] at hi; cases hi
      | some x =>
        rw [hx] at hi
        have hi:V.int x=v:=Option.some.inj hi
        subst hi
        have hpos:(0:Int) < (ts.length:Int):=by omega
        obtain ⟨t,et2⟩:=get_of_lt (xs:=ts) (j:=(x % (ts.length:Int)).toNat) (by have:=Int.emod_lt_of_pos x hpos; have:=Int.emod_nonneg x (show (ts.length:Int)≠0 by omega); omega)
        obtain ⟨o,eo2⟩:=get_of_lt (xs:=as) (j:=(x % (ts.length:Int)).toNat) (by rw [Paired.length th]; exact (List.getElem?_eq_some_iff.mp et2).1)
        have eo:=s2 _ _ (paired_get th _ o t eo2 et2)
        have ao:atI (as.map V.ref) (x % (((as.map V.ref).length:Nat):Int))=some (.ref o):=by
          rw [lA]
          exact atI_at (Int.emod_nonneg _ (by omega)) (by rw [List.getElem?_map,eo2]; rfl)
        refine ⟨_,rfl,_,rfl,_,rfl,tl,_,rfl,.inl (SqL.of (s2 _ _ et)),_,_,rfl,rfl,(by rw [lA]; exact hpos),tl,_,_,_,rfl,rfl,SqL.of (s2 _ _ et),ao,?_⟩
        refine ⟨(l,H2,x),⟨fun b o e=>e,o,t,rfl,eo⟩,?_,fun v H' z=>z.elim⟩
        rintro σ3 H3 ⟨s3,o3,t3,rfl,eo3⟩
        refine ⟨(l,H2,x),⟨s3,o3,t3,rfl,eo3⟩,?_,fun v H' z=>z.elim⟩
        clear eo3 s3 o3 t3 H3
        rintro σ3 H3 ⟨s3,o3,t3,rfl,eo3⟩
        have el3:=s3 _ _ el
        have tu3:=ThsAt.keep (KeepT.of_same s3) tu
        refine ⟨_,rfl,_,rfl,o3,l,t3,bs,us,rfl,rfl,eo3,el3,tu3,_,rfl,?_⟩
        refine ite2 (fun c=>?_) (fun c=>⟨bs,us,_,_,rfl,same_trans s2 s3,el3,tu3,nd,by omega⟩)
        have c:t3∉us:=by simpa using c
        refine ⟨_,rfl,.inl ⟨rfl,_,SqL.of el3⟩,_,rfl,l,_,_,rfl,rfl,el3,small2k (by rw [List.length_map,Paired.length tu3]; omega),?_⟩
        have kt4:KeepT H3 (upd H3 l (.lst (bs.map V.ref++[V.ref o3]))):=KeepT.upd fun o' e=>by
          rw [el3] at e; cases e; exact ⟨fun _ z=>(by cases z),fun _ _ z=>(by cases z)⟩
        refine ⟨bs++[o3],us++[t3],_,_,rfl,fun b o e=>?_,?_,paired_snoc' (ThsAt.keep kt4 tu3) (kt4.tup _ _ eo3),?_,by rw [List.length_append]; simp; omega⟩
        · rw [upd_ne (ne_of_none e hl)]; exact s3 _ _ (s2 b o e)
        · rw [List.map_append]; exact upd_same
        · exact List.nodup_append.mpr ⟨nd,by simp,fun x hx y hy e=>c (by rw [List.mem_singleton.mp hy] at e; rw [← e]; exact hx)⟩
    · rintro σ H2 ⟨bs,us,u1,u2,rfl,s2,el,tu,nd,lu⟩
      rw [List.length_map] at lu
      obtain ⟨ss,pm,pw⟩:=sorts (fun t:T2=>t) (l:=us) (by simpa using nd)
      refine ⟨_,rfl,l,bs,us,ss,rfl,el,tu,by omega,pm,by simpa using pw,fun r cs hr' ts'=>?_⟩
      exact k r cs ss _ (same_free s2 hr') (same_trans s2 (same_new hr')) upd_same (ThsAt.keep (KeepT.new hr') ts') (pm.nodup_iff.mpr nd) (by rw [pm.length_eq]; exact lu)
end
end K32
namespace K32
open PySem L2 FX
set_option linter.all false
theorem cut_ints (xs:List Int) {lo hi:Int} (h0:0≤lo) (h1:lo≤hi):∃ ys:List Int,cutV (xs.map V.int) (some lo) (some hi)=ys.map V.int∧(ys.length:Int)≤hi - lo:=by
  refine ⟨(xs.drop (HT.sIx xs.length 0 (some lo))).take (HT.sIx xs.length xs.length (some hi) - HT.sIx xs.length 0 (some lo)),?_,?_⟩
  · unfold cutV
    rw [List.length_map,List.map_take,List.map_drop]
  · rw [List.length_take,List.length_drop]
    have e1:HT.sIx xs.length xs.length (some hi)=min hi.toNat xs.length:=by show (if hi < 0 then _ else _)=_; rw [if_neg (by omega)]
    have e2:HT.sIx xs.length 0 (some lo)=min lo.toNat xs.length:=by show (if lo < 0 then _ else _)=_; rw [if_neg (by omega)]
    rw [e1,e2]
    omega
def HeldAt (H:Hp) (hl:HL):Prop:=∀ q∈hl,∃ bs:List Addr,H q.2.1=some (.lst (bs.map V.ref))∧ThsAt H bs q.2.2∧q.2.2.length≤3
theorem HeldAt.same {H H':Hp} {hl:HL} (s:Same H H') (h:HeldAt H hl):HeldAt H' hl:=fun q hq=>by
  obtain ⟨bs,e,th,z⟩:=h q hq
  exact ⟨bs,s _ _ e,ThsAt.keep (KeepT.of_same s) th,z⟩
section
variable {P:Program} {w:World} {K:PySem.W.Frag} {mg:Str→Option Value} {base:Heap}
theorem scHd:FnScope ["_law_script","_law_things_here","_law_held_here","_law_k","_law_xs"] ["_law_script","_law_things_here"] (defScope sHeld):=⟨rfl,rfl,rfl,by decide +kernel,rfl,by decide +kernel,by decide +kernel⟩
def spHeld (K:PySem.W.Frag):Sp:=fun vs H Q _=>∃ (a tl:Addr) (ns:List Int) (as:List Addr) (ts:List T2),vs=[.ref a,.ref tl]∧Scr K H a (ns.map V.int)∧ns.length≤63∧H tl=some (.lst (as.map V.ref))∧ThsAt H as ts∧ts.Nodup∧1≤ts.length∧ts.length≤24 ∧
  ∀ (d:Addr) (hl:HL) (H':Hp),H d=none→Same H H'→H' d=some (dRef hl)→HeldAt H' hl→hl.map (·.1)=ts→(∀ q∈hl,q.2.1≠d)→Q (.ref d) H'
theorem ok_held {f fC fS fO:Addr} {fd dC dS dO:FuncData} (F:Fun K "_law_held" "_law_held" sHeld f fd) (T:Txt mg) (MC:Gdf K mg "_law_cell" sCell ["_law_script","_law_k"] fC dC) (MS:Gdf K mg "_law_stream" sStream ["_law_cell_here","_law_many"] fS dS)
    (MO:Gdf K mg "_law_some" sSome ["_law_xs","_law_things_here"] fO dO):FnOk P w K mg base CX0 2 f fd ["_law_script","_law_things_here"] (spHeld K):=by
  have GC:FnOk P w K mg base CX0 1 fC dC ["_law_script","_law_k"] (spCell K):=ok_cell MC.fn T.len
  have GS:FnOk P w K mg base CX0 1 fS dS ["_law_cell_here","_law_many"] spStream:=ok_stream MS.fn T
  have GO:FnOk P w K mg base CX0 1 fO dO ["_law_xs","_law_things_here"] spSome:=ok_some MO.fn T
  refine F.ok scHd (fun vs H Q E h=>?_) (fun cdv A outer s H vs Q E hr h=>?_)
  · obtain ⟨a,tl,ns,as,ts,rfl,_⟩:=h
    rfl
  · obtain ⟨a,tl,ns,as,ts,rfl,hS,hlen,et,th,nd,h1,h24,k⟩:=h
    have hr1:Room 1 _:=hr.mono (by decide)
    have hu:=hu_of hr
    refine ⟨_,pss_cons (ps_set (i:=2) scHd.nd rfl (Or.inl rfl) pe_dnewT)
      (pss_cons (ps_for PassesOwn.never rfl (pi_range1 rfl T.range (pa_cons (pe_callB call_len_seq (by rfl) T.len PySem.boot_len (pa_cons (pv 1) pa_nil)) pa_nil)) (pg_name (i:=3) scHd.nd rfl (Or.inl rfl))
        (pss_cons (ps_set (i:=4) scHd.nd rfl (Or.inl rfl) (pe_call GS hr1 (by rfl) MS.mg MS.fn.kp MS.bd .nil pass0 (pa_cons (pe_op op_add (pe_call GC hr1 (by rfl) MC.mg MC.fn.kp MC.bd .nil pass0 (pa_cons (pv 0) (pa_cons (pe_op op_add pe_int (pv 3)) pa_nil))) (pe_op op_mul pe_int (pv 3))) (pa_cons pe_int pa_nil))))
        (pss_one (ps_dput hu (pv 2) (pe_ix ix_list (pv 1) (pv 3) (fun _ _=>rfl)) (pe_call GO hr1 (by rfl) MO.mg MO.fn.kp MO.bd .nil pass0 (pa_cons (pe_slice sl_list (pv 4) (po_some pe_int) (po_some (pe_op op_add pe_int (pe_op op_mod (pe_ix ix_list (pv 4) pe_int (fun _ _=>rfl)) pe_int)))) (pa_cons (pv 1) pa_nil))) rfl))))
      (pss_one (ps_ret (pv 2)))),?_⟩
    intro d hd
    have s0:=same_new (o:=.dT []) hd
    have e0:(upd H d (.dT [])) d=some (dRef []):=upd_same
    generalize upd H d (.dT [])=H0 at s0 e0
    have lA:(as.map V.ref).length=ts.length:=by rw [List.length_map]; exact Paired.length th
    refine ⟨_,rfl,tl,_,rfl,.inl (SqL.of (s0 _ _ et)),_,rfl,by rw [lA]; omega,by rw [lA]; omega,?_⟩
    rw [lA,Int.toNat_natCast]
    refine for_range (lo:=0) (n:=ts.length) (fun i σ H2=>∃ (hl:HL) (u1 u2:Option V),σ=[some (.ref a),some (.ref tl),some (.ref d),u1,u2]∧Same H H2∧H2 d=some (dRef hl)∧HeldAt H2 hl∧hl.map (·.1)=ts.take i∧∀ q∈hl,q.2.1≠d)
      ⟨[],_,_,rfl,s0,e0,(fun q hq=>by cases hq),rfl,(fun q hq=>by cases hq)⟩ ?_ ?_
    · rintro i σ H2 hi ⟨hl,u1,u2,rfl,s2,ed,ha,ek,nq⟩
      have sS:=(hS.keep (KeepT.of_same s2)).sq
      rw [show (0:Int) + (i:Int)=(i:Int) by omega]
      refine ⟨_,rfl,_,rfl,_,_,rfl,rfl,a,ns,5 + (i:Int),rfl,sS,hlen,by omega,by omega,fun v=>?_⟩
      refine ⟨_,rfl,_,_,rfl,rfl,.inl ⟨by decide,by decide⟩,_,_,rfl,rfl,v + 3 * (i:Int),6,rfl,by decide,fun q xs H3 hq s3 eq lx px=>?_⟩
      obtain ⟨x1,ex1⟩:=get_of_lt (xs:=xs) (j:=1) (by omega)
      have m0:=Int.emod_nonneg x1 (show (4:Int)≠0 by decide)
      have m1:=Int.emod_lt_of_pos x1 (show (0:Int) < 4 by decide)
      obtain ⟨ys,ey,ly⟩:=cut_ints xs (lo:=2) (hi:=2 + x1 % 4) (by decide) (by omega)
      refine ⟨_,rfl,2,rfl,_,rfl,q,_,1,V.int x1,rfl,rfl,SqL.of eq,atI_at (by decide) (by rw [List.getElem?_map]; show xs[1]?.map V.int=_; rw [ex1]; rfl),_,_,rfl,rfl,(show (0:Int) < 4 by decide),_,_,rfl,rfl,_,rfl,q,_,rfl,SqL.of eq,fun p hp=>?_⟩
      rw [ey]
      have s4:=same_new (o:=.lst (ys.map V.int)) hp
      have ep:(upd H3 p (.lst (ys.map V.int))) p=some (.lst (ys.map V.int)):=upd_same
      generalize upd H3 p (.lst (ys.map V.int))=H4 at s4 ep
      have s24:=same_trans s3 s4
      have s04:=same_trans s2 s24
      refine ⟨_,rfl,p,tl,ys,as,ts,rfl,ep,by omega,s04 _ _ et,ThsAt.keep (KeepT.of_same s04) th,h1,fun l bs us H5 hl5 s5 el5 tu nu lu=>?_⟩
      have s05:=same_trans s04 s5
      obtain ⟨t,et2⟩:=get_of_lt (xs:=ts) hi
      obtain ⟨o,eo2⟩:=get_of_lt (xs:=as) (j:=i) (by rw [Paired.length th]; exact hi)
      have eo:=s05 _ _ (paired_get th _ o t eo2 et2)
      have ed5:=s5 _ _ (s24 _ _ ed)
      have hlen2:hl.length=i:=by
        have:=congrArg List.length ek
        rw [List.length_map,List.length_take] at this
        omega
      refine ⟨_,rfl,_,rfl,_,rfl,tl,_,_,V.ref o,rfl,rfl,SqL.of (s05 _ _ et),atI_nat (by rw [List.getElem?_map,eo2]; rfl),d,_,rfl,DPut.t (k:=tk t) ed5 eo (by rw [List.length_map]; exact small2k (by omega)),?_⟩
      have nt:t∉hl.map (·.1):=by
        rw [ek]
        intro z
        obtain ⟨j,hj,e⟩:=List.mem_iff_getElem.mp z
        rw [List.length_take] at hj
        rw [List.getElem_take] at e
        have et3:=(List.getElem?_eq_some_iff.mp et2).2
        have:=(List.getElem_inj nd).mp (e.trans et3.symm)
        omega
      rw [putK_tk (V.ref l) (fun q hq z=>nt (List.mem_map.mpr ⟨q,hq,z⟩))]
      rw [show (hl.map fun q=>(tk q.1,V.ref q.2.1))++[(tk t,V.ref l)]=(hl++[(t,l,us)]).map fun q=>(tk q.1,V.ref q.2.1) by rw [List.map_append]; rfl]
      have nd0:H d=none:=hd
      have nl:l≠d:=fun z=>by rw [z] at hl5; rw [s24 _ _ ed] at hl5; cases hl5
      have kt6:KeepT H5 (upd H5 d (dRef (hl++[(t,l,us)]))):=KeepT.upd fun o' e=>by
        rw [ed5] at e; cases e; exact ⟨fun _ z=>(by cases z),fun _ _ z=>(by cases z)⟩
      refine ⟨hl++[(t,l,us)],_,_,rfl,fun b o e=>?_,upd_same,fun q hq=>?_,?_,fun q hq=>?_⟩
      · rw [upd_ne (ne_of_none e nd0)]; exact s05 b o e
      · rcases List.mem_append.mp hq with hq | hq
        · obtain ⟨cs,e,tc,z⟩:=ha q hq
          refine ⟨cs,?_,ThsAt.keep kt6 (ThsAt.keep (KeepT.of_same (same_trans s24 s5)) tc),z⟩
          show upd H5 d _ q.2.1=_
          rw [upd_ne (nq q hq)]; exact same_trans s24 s5 _ _ e
        · rw [List.mem_singleton.mp hq]
          refine ⟨bs,?_,ThsAt.keep kt6 tu,by show us.length≤3; omega⟩
          show upd H5 d _ l=_
          rw [upd_ne nl]; exact el5
      · rw [List.map_append,ek,List.take_add_one,et2]; rfl
      · rcases List.mem_append.mp hq with hq | hq
        · exact nq q hq
        · rw [List.mem_singleton.mp hq]; exact nl
    · rintro σ H2 ⟨hl,u1,u2,rfl,s2,ed,ha,ek,nq⟩
      rw [List.take_length] at ek
      exact ⟨_,rfl,k d hl H2 hd s2 ed ha ek nq⟩
end
end K32
namespace K32
open PySem L2 FX
set_option linter.all false
section
variable {P:Program} {w:World} {K:PySem.W.Frag} {mg:Str→Option Value} {base:Heap}
theorem scRe:FnScope ["_law_house","_law_hand","_law_held_here","_law_things_here","_law_xs","_law_far","_law_needed","_law_thing","_law_records_here","_law_one","_law_x"] ["_law_house","_law_hand","_law_held_here","_law_things_here","_law_xs","_law_far"] (defScope sRecords):=⟨rfl,rfl,rfl,by decide +kernel,rfl,by decide +kernel,by decide +kernel⟩
def spRecords:Sp:=fun vs H Q _=>∃ (h far:Int) (hd d tl xl:Addr) (cs as:List Addr) (us ts:List T2) (hl:HL) (xs:List Int),vs=[.int h,.ref hd,.ref d,.ref tl,.ref xl,.int far]∧H hd=some (.lst (cs.map V.ref))∧ThsAt H cs us∧us.length≤10 ∧
  H d=some (dRef hl)∧HeldAt H hl∧(hl.map (·.1)).Nodup∧hl.length≤24∧H tl=some (.lst (as.map V.ref))∧ThsAt H as ts∧1≤ts.length∧H xl=some (.lst (xs.map V.int))∧xs.length=10 ∧
  ∀ (r:Addr) (rs:List (T2×Int)) (H':Hp),H r=none→Same H H'→H' r=some (dInt rs)→(rs.map (·.1)).Nodup→rs.length≤100→Q (.ref r) H'
theorem ok_records {f:Addr} {fd:FuncData} (F:Fun K "_law_records" "_law_records" sRecords f fd) (T:Txt mg):FnOk P w K mg base CX0 1 f fd ["_law_house","_law_hand","_law_held_here","_law_things_here","_law_xs","_law_far"] spRecords:=by
  refine F.ok scRe (fun vs H Q E h=>?_) (fun cdv A outer s H vs Q E hr h=>?_)
  · obtain ⟨h,far,hd,d,tl,xl,cs,as,us,ts,hl,xs,rfl,_⟩:=h
    rfl
  · obtain ⟨h,far,hd,d,tl,xl,cs,as,us,ts,hl,xs,rfl,eh,tu,zu,ed,ha,nd,zl,et,th,h1,ex,zx,k⟩:=h
    have hu:=hu_of hr
    refine ⟨_,pss_cons (ps_set (i:=6) scRe.nd rfl (Or.inl rfl) (pe_callTy call_list_of (by rfl) T.list PyProof.Rows.boot_list (pa_cons (pv 1) pa_nil)))
      (pss_cons (ps_for PassesOwn.never rfl (pi_dict (pv 2)) (pg_name (i:=7) scRe.nd rfl (Or.inl rfl))
        (pss_one (ps_if (pt_cmpR op_eq (pe_ix ix_tup (pv 7) pe_int (fun _ _=>rfl)) (pv 0) (nomark _)) (pss_one (ps_set (i:=6) scRe.nd rfl (Or.inl rfl) (pe_op op_cat (pv 6) (pe_dget hu (pv 2) (pv 7) (fun _ _=>rfl))))) pss_nil)))
      (PSs.thaw (pss_cons (PS.by (γ:=Hp×Addr×Option V) (fun g σ H2=>H2=g.1∧H g.2.1=none∧Same H H2∧σ=[some (.int h),some (.ref hd),some (.ref d),some (.ref tl),some (.ref xl),some (.int far),some (.ref g.2.1),g.2.2,none,none,none]∧∃ (bs:List Addr) (vs:List T2),H2 g.2.1=some (.lst (bs.map V.ref))∧ThsAt H2 bs vs∧vs.length≤82)
          (fun g σ H2=>Same H H2∧σ=[some (.int h),some (.ref hd),some (.ref d),some (.ref tl),some (.ref xl),some (.int far),some (.ref g.2.1),g.2.2,none,none,none]∧∃ (bs:List Addr) (vs:List T2),H2 g.2.1=some (.lst (bs.map V.ref))∧ThsAt H2 bs vs∧vs.length≤83) (fun _ _=>False)
          (ps_if (pt_cmpR op_eq (pe_op op_mod (pe_ix ix_list (pv 4) pe_int (fun _ _=>rfl)) pe_int) pe_int (nomark _))
            (pss_one (ps_expr (pe_bm PySem.F.plainAttrs_list PySem.F.slot_list_append PySem.F.type_list_append mt_append (pv 6) (pa_cons (pe_ix ix_list (pv 3) (pe_op op_mod (pe_ix ix_list (pv 4) pe_int (fun _ _=>rfl)) (pe_callB call_len_seq (by rfl) T.len PySem.boot_len (pa_cons (pv 3) pa_nil))) (fun _ _=>rfl)) pa_nil)))) pss_nil) ?more)
      (pss_cons (ps_set (i:=8) scRe.nd rfl (Or.inl rfl) pe_dnewT)
      (pss_cons (ps_for PassesOwn.never rfl (pi_list (pv 6)) (pg_name (i:=9) scRe.nd rfl (Or.inl rfl))
        (pss_one (ps_if (PW.pt (pw_and (pt_cmpR op_ne (pe_ix ix_tup (pv 9) pe_int (fun _ _=>rfl)) (pv 0) (nomark _)) (pw_and1 (pt_cmp (pc_dnotin hu (pv 9) (pv 8))))))
          (pss_cons (ps_set (i:=10) scRe.nd rfl (Or.inl rfl) (pe_op op_fdiv (pe_ix ix_list (pv 4) (pe_op op_add pe_int (pe_op op_mod (pe_callB call_lenT (by rfl) T.len PySem.boot_len (pa_cons (pv 8) pa_nil)) pe_int)) (fun _ _=>rfl)) (pe_op op_add pe_int (pe_callB call_lenT (by rfl) T.len PySem.boot_len (pa_cons (pv 8) pa_nil)))))
          (pss_one (ps_dput hu (pv 8) (pv 9) (pe_op op_mul (pe_ix ix_list (pe_lst (pa_cons pe_int (pa_cons pe_int (pa_cons pe_int (pa_cons pe_int (pa_cons pe_int (pa_cons (pe_op op_add pe_int (pe_op op_mod (pe_op op_fdiv (pv 10) pe_int) pe_int)) pa_nil))))))) (pe_op op_mod (pv 10) pe_int) (fun _ _=>rfl)) (pv 5)) rfl))) pss_nil)))
      (pss_one (ps_ret (pv 8)))))))),?_⟩
    case more =>
      rintro ⟨G,n,u7⟩ σ H2 ⟨rfl,hn,s2,rfl,bs,vs,en,tv',zv⟩
      dsimp only at hn en
      have lA:(as.map V.ref).length=ts.length:=by rw [List.length_map]; exact Paired.length th
      have exx:=s2 _ _ ex
      obtain ⟨x0,ex0⟩:=get_of_lt (xs:=xs) (j:=0) (by omega)
      obtain ⟨x1,ex1⟩:=get_of_lt (xs:=xs) (j:=1) (by omega)
      have a0:atI (xs.map V.int) 0=some (.int x0):=atI_at (by decide) (by rw [List.getElem?_map]; show xs[0]?.map V.int=_; rw [ex0]; rfl)
      have a1:atI (xs.map V.int) 1=some (.int x1):=atI_at (by decide) (by rw [List.getElem?_map]; show xs[1]?.map V.int=_; rw [ex1]; rfl)
      refine ⟨_,rfl,xl,_,0,_,rfl,rfl,SqL.of exx,a0,_,_,rfl,rfl,(show (0:Int) < 3 by decide),rfl,_,rfl,?_⟩
      refine ite2 (fun _=>?_) (fun _=>⟨s2,rfl,bs,vs,en,tv',by omega⟩)
      have hpos:(0:Int) < (ts.length:Int):=by omega
      obtain ⟨t,et2⟩:=get_of_lt (xs:=ts) (j:=(x1 % (ts.length:Int)).toNat) (by have:=Int.emod_lt_of_pos x1 hpos; have:=Int.emod_nonneg x1 (show (ts.length:Int)≠0 by omega); omega)
      obtain ⟨o,eo2⟩:=get_of_lt (xs:=as) (j:=(x1 % (ts.length:Int)).toNat) (by rw [Paired.length th]; exact (List.getElem?_eq_some_iff.mp et2).1)
      have eo:=s2 _ _ (paired_get th _ o t eo2 et2)
      have ao:atI (as.map V.ref) (x1 % (((as.map V.ref).length:Nat):Int))=some (.ref o):=by
        rw [lA]
        exact atI_at (Int.emod_nonneg _ (by omega)) (by rw [List.getElem?_map,eo2]; rfl)
      refine ⟨_,rfl,.inl ⟨rfl,_,SqL.of en⟩,_,rfl,_,rfl,xl,_,1,_,rfl,rfl,SqL.of exx,a1,_,rfl,tl,_,rfl,.inl (SqL.of (s2 _ _ et)),_,_,rfl,rfl,(by rw [lA]; exact hpos),tl,_,_,_,rfl,rfl,SqL.of (s2 _ _ et),ao,n,_,_,rfl,rfl,en,small2k (by rw [List.length_map,Paired.length tv']; omega),?_⟩
      have kt:KeepT H2 (upd H2 n (.lst (bs.map V.ref++[V.ref o]))):=KeepT.upd fun o' e=>by
        rw [en] at e; cases e; exact ⟨fun _ z=>(by cases z),fun _ _ z=>(by cases z)⟩
      refine ⟨fun b ob e=>?_,rfl,bs++[o],vs++[t],?_,paired_snoc' (ThsAt.keep kt tv') (kt.tup _ _ eo),by rw [List.length_append]; simp; omega⟩
      · rw [upd_ne (ne_of_none e hn)]; exact s2 b ob e
      · rw [List.map_append]; exact upd_same
    refine ⟨_,rfl,hd,_,rfl,.inl (SqL.of eh),fun n hn=>?_⟩
    have s0:=same_new (o:=.lst (cs.map V.ref)) hn
    have e0:(upd H n (.lst (cs.map V.ref))) n=some (.lst (cs.map V.ref)):=upd_same
    generalize upd H n (.lst (cs.map V.ref))=H0 at s0 e0
    have ed0:=s0 _ _ ed
    refine ⟨_,rfl,d,_,rfl,ed0,fun ob=>?_⟩
    refine for_dict (d:=d) (ob:=ob) (fun i σ H2=>∃ (m:Addr) (u7:Option V) (bs:List Addr) (vs:List T2),σ=[some (.int h),some (.ref hd),some (.ref d),some (.ref tl),some (.ref xl),some (.int far),some (.ref m),u7,none,none,none]∧H m=none∧H2 m=some (.lst (bs.map V.ref))∧ThsAt H2 bs vs∧vs.length≤10 + 3 * i∧H2 d=some (.frz ob (dRef hl))∧∀ b o,H b=some o→b≠d→H2 b=some o)
      ⟨n,_,cs,us,rfl,hn,by rw [upd_ne (fun z=>by rw [z,ed0] at e0; cases e0)]; exact e0,ThsAt.keep ((KeepT.of_same s0).trans (KeepT.upd fun o' e=>by rw [ed0] at e; cases e; exact ⟨fun _ z=>(by cases z),fun _ _ z=>(by cases z)⟩)) tu,by omega,upd_same,fun b o e hb=>by rw [upd_ne hb]; exact s0 b o e⟩
      (fun i σ H2 _ ⟨_,_,_,_,_,_,_,_,_,e,_⟩=>e) ?_ ?_
    · rintro i a kk v σ H2 hx ea ⟨m,u7,bs,vs,rfl,hm,em,tb,zv,ef,fr⟩
      rw [List.getElem?_map] at hx
      cases eq:hl[i]? with
      | none=>rw [eq] at hx; cases hx
      | some q =>
        rw [eq] at hx
        have hx:(tk q.1,V.ref q.2.1)=(kk,v):=Option.some.inj hx
        have mq:=List.mem_of_getElem? eq
        have hi:=(List.getElem?_eq_some_iff.mp eq).1
        have e2:kk=tk q.1:=(Prod.mk.inj hx).1.symm
        rw [e2,tk_kV] at ea
        refine ⟨_,rfl,a,_,0,V.int q.1.1,rfl,rfl,SqT.of ea,rfl,_,rfl,rfl,_,rfl,?_⟩
        refine ite2 (fun _=>?_) (fun _=>⟨m,_,bs,vs,rfl,hm,em,tb,by omega,ef,fr⟩)
        have gv:valV (hl.map fun (q:T2×Addr×List T2)=>(tk q.1,V.ref q.2.1)) (tk q.1)=some (V.ref q.2.1):=by
          rw [valV_tk (k:=fun q:T2×Addr×List T2=>q.1) (f:=fun q=>V.ref q.2.1),FX.find_self (k:=fun q:T2×Addr×List T2=>q.1) nd mq]; rfl
        obtain ⟨ds,e3,td,z3⟩:=ha q mq
        have nqd:q.2.1≠d:=fun z=>by rw [z,ed] at e3; cases e3
        have e4:=fr _ _ e3 nqd
        have td2:ThsAt H2 ds q.2.2:=paired_mono (fun b t eb=>fr _ _ eb (fun z=>by rw [z,ed] at eb; cases eb)) td
        refine ⟨_,rfl,_,rfl,_,rfl,d,_,rfl,.inr ⟨_,tk q.1,a,.inr ⟨ob,ef⟩,rfl,ea,gv.symm⟩,m,q.2.1,_,_,rfl,rfl,em,e4,?_,fun p hp=>?_⟩
        · rw [List.length_map,List.length_map,Paired.length tb,Paired.length td2]
          exact Nat.le_of_lt (small2k (by omega))
        have s5:=same_new (o:=.lst (bs.map V.ref++ds.map V.ref)) hp
        refine ⟨p,_,bs++ds,vs++q.2.2,rfl,?_,by rw [List.map_append]; exact upd_same,ths_app (ThsAt.keep (KeepT.of_same s5) tb) (ThsAt.keep (KeepT.of_same s5) td2),by rw [List.length_append]; omega,s5 _ _ ef,fun b o e hb=>s5 _ _ (fr b o e hb)⟩
        cases c:H p with
        | none=>rfl
        | some o =>
          by_cases z:p=d
          · rw [z,ef] at hp; cases hp
          · rw [fr _ _ c z] at hp; cases hp
    · rintro σ H2 ⟨m,u7,bs,vs,rfl,hm,em,tb,zv,ef,fr⟩
      rw [List.length_map] at zv
      refine ⟨upd H2 d (dRef hl),⟨d,ob,_,ef,fun o v z=>?_,rfl⟩,?_⟩
      · have z:H d=some (.frz o v):=z
        rw [ed] at z; cases z
      have s3:Same H (upd H2 d (dRef hl)):=fun b o e=>by
        by_cases hb:b=d
        · subst hb
          rw [ed] at e
          rw [upd_same]; exact e
        · rw [upd_ne hb]; exact fr b o e hb
      have nmd:m≠d:=fun z=>by rw [z,ed] at hm; cases hm
      have em3:(upd H2 d (dRef hl)) m=some (.lst (bs.map V.ref)):=by rw [upd_ne nmd]; exact em
      have tb3:ThsAt (upd H2 d (dRef hl)) bs vs:=paired_mono (fun b t eb=>by
        rw [upd_ne (fun z=>by rw [z,ef] at eb; cases eb)]; exact eb) tb
      generalize upd H2 d (dRef hl)=H3 at s3 em3 tb3
      refine ⟨(H3,m,u7),⟨rfl,hm,s3,rfl,bs,vs,em3,tb3,by omega⟩,?_,fun v H' z=>z.elim⟩
      clear em3 tb3 s3
      rintro σ H4 ⟨s4,rfl,bs4,vs4,em4,tb4,z4⟩
      intro r hr4
      have hr0:H r=none:=same_free s4 hr4
      have s5:=same_new (o:=.dT []) hr4
      have er:(upd H4 r (.dT [])) r=some (dInt []):=upd_same
      have em5:=s5 _ _ em4
      have tb5:=ThsAt.keep (KeepT.of_same s5) tb4
      have s05:=same_trans s4 s5
      have nrm:m≠r:=fun z=>by rw [z,hr4] at em4; cases em4
      generalize upd H4 r (.dT [])=H5 at s5 er em5 tb5 s05
      refine ⟨_,rfl,m,rfl,⟨_,SqL.of em5⟩,?_⟩
      refine for_list (K:=K) (a:=m) (xs:=bs4.map V.ref) (fun i σ H2=>∃ (rs:List (T2×Int)) (u9 u10:Option V),σ=[some (.int h),some (.ref hd),some (.ref d),some (.ref tl),some (.ref xl),some (.int far),some (.ref m),u7,some (.ref r),u9,u10]∧Same H H2∧H2 m=some (.lst (bs4.map V.ref))∧ThsAt H2 bs4 vs4∧H2 r=some (dInt rs)∧(rs.map (·.1)).Nodup∧rs.length≤i)
        ⟨[],_,_,rfl,s05,em5,tb5,er,List.nodup_nil,Nat.le_refl _⟩ (fun i σ H2 _ ⟨_,_,_,_,_,e,_⟩=>SqL.of e) ?_ ?_
      · rintro i v σ H6 hi ⟨rs,u9,u10,rfl,s6,em6,tb6,er6,nr,zr⟩
        have hi':=(List.getElem?_eq_some_iff.mp hi).1
        rw [List.length_map,Paired.length tb6] at hi'
        rw [List.getElem?_map] at hi
        cases hb:bs4[i]? with
        | none=>rw [hb] at hi; cases hi
        | some o =>
          rw [hb] at hi
          have hi:V.ref o=v:=Option.some.inj hi
          subst hi
          obtain ⟨t,et2⟩:=get_of_lt (xs:=vs4) hi'
          have eo:=paired_get tb6 i o t hb et2
          refine ⟨_,rfl,o,_,0,V.int t.1,rfl,rfl,SqT.of eo,rfl,_,rfl,rfl,_,rfl,?_⟩
          refine ite2 (fun _=>?_) (fun _=>⟨rs,_,_,rfl,s6,em6,tb6,er6,nr,by omega⟩)
          obtain ⟨ov,g,eo2⟩:=key_in (k:=fun q:T2×Int=>q.1) (f:=fun q=>V.int q.2) (.inl er6) eo
          refine ⟨_,rfl,_,rfl,r,ov,rfl,g,_,rfl,?_⟩
          rw [eo2]
          refine ite2 (fun c=>?_) (fun _=>⟨rs,_,_,rfl,s6,em6,tb6,er6,nr,by omega⟩)
          have c:t∉rs.map (·.1):=by simpa using c
          have lR:(rs.map fun q=>(tk q.1,V.int q.2)).length=rs.length:=List.length_map ..
          have exx:=s6 _ _ ex
          obtain ⟨xi,exi⟩:=get_of_lt (xs:=xs) (j:=(2 + (rs.length:Int) % 6).toNat) (by omega)
          have ai:atI (xs.map V.int) (2 + (((rs.map fun q=>(tk q.1,V.int q.2)).length:Nat):Int) % 6)=some (.int xi):=by
            rw [lR]
            exact atI_at (by omega) (by rw [List.getElem?_map,exi]; rfl)
          refine ⟨_,rfl,_,rfl,r,_,rfl,er6,_,_,rfl,rfl,(show (0:Int) < 6 by decide),_,_,rfl,rfl,xl,_,_,_,rfl,rfl,SqL.of exx,ai,_,rfl,r,_,rfl,er6,_,_,rfl,rfl,_,_,rfl,rfl,⟨by rw [lR]; omega,by rw [lR]; omega⟩,?_⟩
          obtain ⟨x,hx⟩:∃ x,V.int (xi / (1 + (((rs.map fun q=>(tk q.1,V.int q.2)).length:Nat):Int)))=V.int x:=⟨_,rfl⟩
          rw [show ((fun (i j:Int)=>V.int (i / j)) xi (1 + (((rs.map fun q=>(tk q.1,V.int q.2)).length:Nat):Int)))=V.int (xi / (1 + (((rs.map fun q=>(tk q.1,V.int q.2)).length:Nat):Int))) from rfl,hx]
          refine ⟨_,rfl,_,_,rfl,rfl,⟨by decide,by decide⟩,_,_,rfl,rfl,(show (0:Int) < 50 by decide),_,_,rfl,rfl,(show 6≤sizeLine by decide),fun p hp=>?_⟩
          obtain ⟨y,hy⟩:∃ y,V.int (1 + x / 6 % 50)=V.int y:=⟨_,rfl⟩
          have y0:0≤y∧y≤50:=by
            have:=V.int.inj hy
            have:=Int.emod_nonneg (x / 6) (show (50:Int)≠0 by decide)
            have:=Int.emod_lt_of_pos (x / 6) (show (0:Int) < 50 by decide)
            omega
          rw [show ((fun (i j:Int)=>V.int (i + j)) 1 (x / 6 % 50))=V.int (1 + x / 6 % 50) from rfl,hy]
          have s7:=same_new (o:=.lst [V.int 0,V.int 1,V.int 1,V.int 2,V.int 3,V.int y]) hp
          have ep:(upd H6 p (.lst [V.int 0,V.int 1,V.int 1,V.int 2,V.int 3,V.int y])) p=some (.lst [V.int 0,V.int 1,V.int 1,V.int 2,V.int 3,V.int y]):=upd_same
          generalize upd H6 p (.lst [V.int 0,V.int 1,V.int 1,V.int 2,V.int 3,V.int y])=H7 at s7 ep
          obtain ⟨wv,hwv,w0⟩:∃ wv:Int,atI [V.int 0,V.int 1,V.int 1,V.int 2,V.int 3,V.int y] (x % 6)=some (.int wv)∧0≤wv∧wv≤50:=by
            rcases (show x % 6=0∨x % 6=1∨x % 6=2∨x % 6=3∨x % 6=4∨x % 6=5 by omega) with e | e | e | e | e | e <;> rw [e]
            · exact ⟨0,atI_at (by decide) rfl,by decide,by decide⟩
            · exact ⟨1,atI_at (by decide) rfl,by decide,by decide⟩
            · exact ⟨1,atI_at (by decide) rfl,by decide,by decide⟩
            · exact ⟨2,atI_at (by decide) rfl,by decide,by decide⟩
            · exact ⟨3,atI_at (by decide) rfl,by decide,by decide⟩
            · exact ⟨y,atI_at (by decide) rfl,y0⟩
          have er7:=s7 _ _ er6
          refine ⟨_,rfl,_,_,rfl,rfl,(show (0:Int) < 6 by decide),p,_,_,_,rfl,rfl,SqL.of ep,hwv,_,rfl,_,_,rfl,rfl,.inl ⟨by omega,by omega⟩,_,rfl,_,rfl,r,_,rfl,DPut.t (k:=tk t) er7 (s7 _ _ eo) (by rw [lR]; exact small2k (by omega)),?_⟩
          rw [putK_tk _ (fun q hq z=>c (List.mem_map.mpr ⟨q,hq,z⟩))]
          rw [show (rs.map fun q=>(tk q.1,V.int q.2))++[(tk t,(fun (i j:Int)=>V.int (i * j)) wv far)]=(rs++[(t,wv * far)]).map fun q=>(tk q.1,V.int q.2) by rw [List.map_append]; rfl]
          have kt8:KeepT H7 (upd H7 r (dInt (rs++[(t,wv * far)]))):=KeepT.upd fun o' e=>by
            rw [er7] at e; cases e; exact ⟨fun _ z=>(by cases z),fun _ _ z=>(by cases z)⟩
          refine ⟨rs++[(t,wv * far)],_,_,rfl,fun b ob e=>?_,?_,ThsAt.keep kt8 (ThsAt.keep (KeepT.of_same s7) tb6),upd_same,?_,by rw [List.length_append]; simp; omega⟩
          · show upd H7 r _ b=_
            rw [upd_ne (ne_of_none e hr0)]; exact s7 _ _ (s6 b ob e)
          · show upd H7 r _ m=_
            rw [upd_ne nrm]; exact s7 _ _ em6
          · rw [List.map_append]
            exact List.nodup_append.mpr ⟨nr,by simp,fun a ha' b hb' e=>c (by have e2:b=t:=List.mem_singleton.mp hb'; rw [e2] at e; rw [← e]; exact ha')⟩
      · rintro σ H6 ⟨rs,u9,u10,rfl,s6,em6,tb6,er6,nr,zr⟩
        rw [List.length_map,Paired.length tb4] at zr
        exact ⟨_,rfl,k r rs H6 hr0 s6 er6 nr (by omega)⟩
end
end K32
namespace K32
open PySem L2 FX
set_option linter.all false
def HandsOk (H:Hp) (kh:List (Key×V)) (hs:List Int):Prop:=∀ h∈hs,∃ (b:Addr) (cs:List Addr) (us:List T2),valV kh (.inl h)=some (.ref b)∧H b=some (.lst (cs.map V.ref))∧ThsAt H cs us∧us.length≤5
def RecsOk (sd:Addr) (H:Hp) (kr:List (Key×V)) (hs:List Int):Prop:=∀ h∈hs,∃ (b:Addr) (rs:List (T2×Int)),valV kr (.inl h)=some (.ref b)∧H b=some (dInt rs)∧(rs.map (·.1)).Nodup∧rs.length≤100∧b≠sd
theorem HandsOk.fr {H H':Hp} {kh:List (Key×V)} {hs:List Int} (h:HandsOk H kh hs) (k:KeepT H H') (f:∀ b xs,H b=some (.lst xs)→H' b=some (.lst xs)):HandsOk H' kh hs:=fun x hx=>by
  obtain ⟨b,cs,us,e,e1,th,z⟩:=h x hx
  exact ⟨b,cs,us,e,f _ _ e1,ThsAt.keep k th,z⟩
theorem RecsOk.fr {sd:Addr} {H H':Hp} {kr:List (Key×V)} {hs:List Int} (h:RecsOk sd H kr hs) (f:∀ b xs,H b=some (.dT xs)→b≠sd→H' b=some (.dT xs)):RecsOk sd H' kr hs:=fun x hx=>by
  obtain ⟨b,rs,e,e1,nd,z,ne⟩:=h x hx
  exact ⟨b,rs,e,f _ _ e1 ne,nd,z,ne⟩
theorem HandsOk.put {H:Hp} {kh:List (Key×V)} {hs:List Int} (h:HandsOk H kh hs) {x:Int} {b:Addr} {cs:List Addr} {us:List T2} (e:H b=some (.lst (cs.map V.ref))) (th:ThsAt H cs us) (z:us.length≤5):HandsOk H (putK kh (.inl x) (.ref b)) (hs++[x]):=fun y hy=>by
  rw [valV_put]
  by_cases c:(Sum.inl y:Key)=.inl x
  · rw [if_pos c]; exact ⟨b,cs,us,rfl,e,th,z⟩
  · rw [if_neg c]
    rcases List.mem_append.mp hy with hy | hy
    · exact h y hy
    · exact absurd (by rw [List.mem_singleton.mp hy]) c
theorem RecsOk.put {sd:Addr} {H:Hp} {kr:List (Key×V)} {hs:List Int} (h:RecsOk sd H kr hs) {x:Int} {b:Addr} {rs:List (T2×Int)} (e:H b=some (dInt rs)) (nd:(rs.map (·.1)).Nodup) (z:rs.length≤100) (ne:b≠sd):RecsOk sd H (putK kr (.inl x) (.ref b)) (hs++[x]):=fun y hy=>by
  rw [valV_put]
  by_cases c:(Sum.inl y:Key)=.inl x
  · rw [if_pos c]; exact ⟨b,rs,rfl,e,nd,z,ne⟩
  · rw [if_neg c]
    rcases List.mem_append.mp hy with hy | hy
    · exact h y hy
    · exact absurd (by rw [List.mem_singleton.mp hy]) c
structure StsAt (K:PySem.W.Frag) (H:Hp) (d:Addr) (L:List (Int×Addr×HS)):Prop where
  ob:H d=some (.dK (L.map fun q=>(.inl q.1,.ref q.2.1)))
  st:∀ q∈L,StA K H q.2.1 q.2.2
structure Fit (L:List (Int×Addr×HS)):Prop where
  nd:(L.map (·.1)).Nodup
  len:L.length≤12
  own:∀ q∈L,∀ r∈q.2.2.2.1,r.1.1=q.1
  rn:∀ q∈L,(q.2.2.2.1.map (·.1)).Nodup
  rz:(rowsOf (L.map (·.2.2))).length≤24
  hz:∀ q∈L,q.2.2.1.length≤5
  oz:∀ q∈L,∀ r∈q.2.2.2.1,r.2.2.length≤3
  tz:∀ q∈L,q.2.2.2.2.length≤100
structure Bs (K:PySem.W.Frag) (H:Hp) (a hl tl d:Addr) (ns hs:List Int) (as:List Addr) (ts:List T2) (L0:HL):Prop where
  scr:Scr K H a (ns.map V.int)
  hl:H hl=some (.lst (hs.map V.int))
  tl:H tl=some (.lst (as.map V.ref))
  th:ThsAt H as ts
  dh:H d=some (dRef L0)
  he:HeldAt H L0
theorem Bs.same {K:PySem.W.Frag} {H H':Hp} {a hl tl d:Addr} {ns hs:List Int} {as:List Addr} {ts:List T2} {L0:HL} (b:Bs K H a hl tl d ns hs as ts L0) (s:Same H H'):Bs K H' a hl tl d ns hs as ts L0 :=
  ⟨b.scr.keep (KeepT.of_same s),s _ _ b.hl,s _ _ b.tl,ThsAt.keep (KeepT.of_same s) b.th,s _ _ b.dh,b.he.same s⟩
section
variable {P:Program} {w:World} {K:PySem.W.Frag} {mg:Str→Option Value} {base:Heap}
theorem scSts:FnScope ["_law_script","_law_houses_here","_law_things_here","_law_held_here","_law_cell_here","_law_far","_law_hands","_law_records_here","_law_sums","_law_house","_law_xs","_law_one","_law_states_here","_law_rows","_law_thing","_law_x","_law_out","_law_told"] ["_law_script","_law_houses_here"] (defScope sStates):=⟨rfl,rfl,rfl,by decide +kernel,rfl,by decide +kernel,by decide +kernel⟩
def spStates (K:PySem.W.Frag):Sp:=fun vs H Q _=>∃ (a hl:Addr) (ns hs:List Int),vs=[.ref a,.ref hl]∧Scr K H a (ns.map V.int)∧ns.length≤63∧H hl=some (.lst (hs.map V.int))∧hs.Nodup∧1≤hs.length∧hs.length≤12 ∧
  ∀ (d:Addr) (L:List (Int×Addr×HS)) (H':Hp),H d=none→Same H H'→StsAt K H' d L→Fit L→L.map (·.1)=hs→Q (.ref d) H'
end
end K32
namespace K32
open PySem L2 FX
set_option linter.all false
theorem filter_both (p:T2→Bool):∀ ts:List T2,(ts.filter p).length + (ts.filter fun t=>!p t).length=ts.length
  | []=>rfl
  | t :: ts=>by
    have ih:=filter_both p ts
    cases e:p t <;> simp [List.filter_cons,e] <;> omega
theorem sum_filter:∀ (hs:List Int) (ts:List T2),hs.Nodup→((hs.map fun h=>(ts.filter fun t=>decide (t.1=h)).length).sum)≤ts.length
  | [],ts,_=>by simp
  | h :: hs,ts,nd=>by
    have nd':=List.nodup_cons.mp nd
    have ih:=sum_filter hs (ts.filter fun t=>!decide (t.1=h)) nd'.2
    have e1:(hs.map fun h'=>((ts.filter fun t=>!decide (t.1=h)).filter fun t=>decide (t.1=h')).length)=hs.map fun h'=>(ts.filter fun t=>decide (t.1=h')).length:=by
      refine List.map_congr_left fun h' hh=>?_
      rw [List.filter_filter]
      congr 1
      refine List.filter_congr fun t _=>?_
      by_cases c:t.1=h'
      · have:¬ t.1=h:=fun z=>nd'.1 (by rw [← z,c]; exact hh)
        simp [c,this]
        rw [← c]; exact this
      · simp [c]
    rw [e1] at ih
    have e2:=filter_both (fun t=>decide (t.1=h)) ts
    simp only [List.map_cons,List.sum_cons]
    omega
theorem valK_none {L:List (Int×Addr×HS)} {h:Int} (n:h∉L.map (·.1)):valV (L.map fun q=>((.inl q.1:Key),V.ref q.2.1)) (.inl h)=none:=by
  unfold valV
  rw [List.find?_map,List.find?_eq_none.mpr]
  · rfl
  · intro q hq z
    have z:(Sum.inl q.1:Key)=.inl h:=by simpa using z
    injection z with z
    exact n (List.mem_map.mpr ⟨q,hq,z⟩)
def sgO (u:Nat→Option V) (x o:Int):L2.St:=[u 0,u 1,u 2,u 3,u 4,u 5,u 6,u 7,u 8,u 9,u 10,u 11,u 12,u 13,u 14,some (.int x),some (.int o),u 17]
def teTold:TE:=tTup (tCons (tVar 0) (tCons (tDGet (tDGet (tVar 2) (tVar 1)) (tVar 0)) tNil))
structure L1 (K:PySem.W.Frag) (H0:Hp) (a hl tl d hd rd sd:Addr) (c far:Int) (hs:List Int) (i:Nat) (σ:L2.St) (H:Hp):Prop where
  sg:∃ u9 u10 u11,σ=[some (.ref a),some (.ref hl),some (.ref tl),some (.ref d),some (.int c),some (.int far),some (.ref hd),some (.ref rd),some (.ref sd),u9,u10,u11,none,none,none,none,none,none]
  sm:Same H0 H
  ho:∃ kh,H hd=some (.dK kh)∧kh.length≤i∧HandsOk H kh (hs.take i)
  ro:∃ kr,H rd=some (.dK kr)∧kr.length≤i∧RecsOk sd H kr (hs.take i)
  so:∃ ss,H sd=some (dInt ss)∧ss.length≤100 * i
section
variable {P:Program} {w:World} {K:PySem.W.Frag} {mg:Str→Option Value} {base:Heap}
theorem ok_states {f fC fS fO fT fH fR:Addr} {fd dC dS dO dT dH dR:FuncData} (F:Fun K "_law_states" "_law_states" sStates f fd) (T:Txt mg) (MC:Gdf K mg "_law_cell" sCell ["_law_script","_law_k"] fC dC) (MS:Gdf K mg "_law_stream" sStream ["_law_cell_here","_law_many"] fS dS)
    (MO:Gdf K mg "_law_some" sSome ["_law_xs","_law_things_here"] fO dO) (MT:Gdf K mg "_law_things" sThings ["_law_script","_law_houses_here"] fT dT) (MH:Gdf K mg "_law_held" sHeld ["_law_script","_law_things_here"] fH dH)
    (MR:Gdf K mg "_law_records" sRecords ["_law_house","_law_hand","_law_held_here","_law_things_here","_law_xs","_law_far"] fR dR):FnOk P w K mg base CX0 3 f fd ["_law_script","_law_houses_here"] (spStates K):=by
  have GC:FnOk P w K mg base CX0 1 fC dC ["_law_script","_law_k"] (spCell K):=ok_cell MC.fn T.len
  have GS:FnOk P w K mg base CX0 1 fS dS ["_law_cell_here","_law_many"] spStream:=ok_stream MS.fn T
  have GO:FnOk P w K mg base CX0 1 fO dO ["_law_xs","_law_things_here"] spSome:=ok_some MO.fn T
  have GT:FnOk P w K mg base CX0 2 fT dT ["_law_script","_law_houses_here"] (spThings K):=ok_things MT.fn T MC MS
  have GH:FnOk P w K mg base CX0 2 fH dH ["_law_script","_law_things_here"] (spHeld K):=ok_held MH.fn T MC MS MO
  have GR:FnOk P w K mg base CX0 1 fR dR ["_law_house","_law_hand","_law_held_here","_law_things_here","_law_xs","_law_far"] spRecords:=ok_records MR.fn T
  refine F.ok scSts (fun vs H Q E h=>?_) (fun cdv A outer s H vs Q E hr h=>?_)
  · obtain ⟨a,hl,ns,hs,rfl,_⟩:=h
    rfl
  · obtain ⟨a,hl,ns,hs,rfl,hS,hlen,eh,nh,h1,h4,k⟩:=h
    have hr1:Room 1 _:=hr.mono (by decide)
    have hr2:Room 2 _:=hr.mono (by decide)
    have hu:=hu_of hr
    refine ⟨_,pss_cons (ps_set (i:=2) scSts.nd rfl (Or.inl rfl) (pe_call GT hr2 (by rfl) MT.mg MT.fn.kp MT.bd .nil pass0 (pa_cons (pv 0) (pa_cons (pv 1) pa_nil))))
      (pss_cons (ps_set (i:=3) scSts.nd rfl (Or.inl rfl) (pe_call GH hr2 (by rfl) MH.mg MH.fn.kp MH.bd .nil pass0 (pa_cons (pv 0) (pa_cons (pv 2) pa_nil))))
      (pss_cons (ps_set (i:=4) scSts.nd rfl (Or.inl rfl) (pe_call GC hr1 (by rfl) MC.mg MC.fn.kp MC.bd .nil pass0 (pa_cons (pv 0) (pa_cons pe_int pa_nil))))
      (pss_cons (ps_set (i:=5) scSts.nd rfl (Or.inl rfl) (pe_ix ix_list (pe_lst (pa_cons pe_int (pa_cons pe_int (pa_cons pe_int (pa_cons (pe_op op_add pe_int (pe_op op_mod (pe_op op_fdiv (pv 4) pe_int) (pe_op op_pow pe_int pe_int))) pa_nil))))) (pe_op op_mod (pv 4) pe_int) (fun _ _=>rfl)))
      (pss_cons (ps_set (i:=6) scSts.nd rfl (Or.inl rfl) pe_dnewK)
      (pss_cons (ps_set (i:=7) scSts.nd rfl (Or.inr rfl) pe_dnewK)
      (pss_cons (ps_set (i:=8) scSts.nd rfl (Or.inl rfl) pe_dnewT)
      (pss_cons (ps_for PassesOwn.never rfl (pi_list (pv 1)) (pg_name (i:=9) scSts.nd rfl (Or.inr rfl))
        (pss_cons (ps_set (i:=10) scSts.nd rfl (Or.inl rfl) (pe_call GS hr1 (by rfl) MS.mg MS.fn.kp MS.bd .nil pass0 (pa_cons (pe_op op_add (pe_call GC hr1 (by rfl) MC.mg MC.fn.kp MC.bd .nil pass0 (pa_cons (pv 0) (pa_cons pe_int pa_nil))) (pe_op op_mul pe_int (pv 9))) (pa_cons pe_int pa_nil))))
        (pss_cons (ps_dput hu (pv 6) (pv 9) (pe_call GO hr1 (by rfl) MO.mg MO.fn.kp MO.bd .nil pass0 (pa_cons (pe_slice sl_list (pv 10) (po_some pe_int) (po_some (pe_op op_add pe_int (pe_ix ix_list (pe_lst (pa_cons pe_int (pa_cons pe_int (pa_cons pe_int (pa_cons pe_int (pa_cons pe_int pa_nil)))))) (pe_op op_mod (pe_ix ix_list (pv 10) pe_int (fun _ _=>rfl)) pe_int) (fun _ _=>rfl))))) (pa_cons (pv 2) pa_nil))) rfl)
        (pss_cons (ps_dput hu (pv 7) (pv 9) (pe_call GR hr1 (by rfl) MR.mg MR.fn.kp MR.bd .nil pass0 (pa_cons (pv 9) (pa_cons (pe_dget hu (pv 6) (pv 9) (fun _ _=>rfl)) (pa_cons (pv 3) (pa_cons (pv 2) (pa_cons (pv 10) (pa_cons (pv 5) pa_nil))))))) rfl)
        (pss_cons (ps_for PassesOwn.never rfl (pi_dict (pe_dget hu (pv 7) (pv 9) (fun _ _=>rfl))) (pg_name (i:=11) scSts.nd rfl (Or.inl rfl))
          (pss_one (ps_dput hu (pv 8) (pv 11) (pe_op op_add (pe_dget2 hu (pv 8) (pv 11) pe_int ⟨rfl,rfl,rfl,rfl⟩) (pe_dget hu (pe_dget hu (pv 7) (pv 9) (fun _ _=>rfl)) (pv 11) (fun _ _=>rfl))) rfl)))
        (PSs.thaw pss_nil))))))
      (pss_cons (ps_set (i:=12) scSts.nd rfl (Or.inl rfl) pe_dnewK)
      (pss_cons (ps_for PassesOwn.never rfl (pi_list (pv 1)) (pg_name (i:=9) scSts.nd rfl (Or.inr rfl))
        (pss_cons (ps_set (i:=13) scSts.nd rfl (Or.inl rfl) (pe_lst pa_nil))
        (pss_cons (ps_for PassesOwn.never rfl (pi_list (pe_callB (call_sorted_things rfl) (by rfl) T.sorted PyProof.Rows.boot_sorted (pa_cons (pv 3) pa_nil))) (pg_name (i:=14) scSts.nd rfl (Or.inl rfl))
          (pss_cons (ps_set (i:=15) scSts.nd rfl (Or.inl rfl) (pe_ix ix_list (pe_call GS hr1 (by rfl) MS.mg MS.fn.kp MS.bd .nil pass0 (pa_cons (pe_op op_add (pe_op op_add (pe_call GC hr1 (by rfl) MC.mg MC.fn.kp MC.bd .nil pass0 (pa_cons (pv 0) (pa_cons pe_int pa_nil))) (pe_op op_mul pe_int (pe_ix ix_tup (pv 14) pe_int (fun _ _=>rfl)))) (pv 9)) (pa_cons pe_int pa_nil))) pe_int (fun _ _=>rfl)))
          (pss_cons (ps_set (i:=16) scSts.nd rfl (Or.inl rfl) (pe_dget2 hu (pv 8) (pv 14) pe_int ⟨rfl,rfl,rfl,rfl⟩))
          (pss_cons (PS.by (γ:=(Nat→Option V)×Hp×Int×Int) (fun g σ H2=>σ=sgO g.1 g.2.2.1 g.2.2.2∧H2=g.2.1) (fun g σ H2=>H2=g.2.1∧∃ o:Int,σ=sgO g.1 g.2.2.1 o) (fun _ _=>False)
            (ps_if (pt_cmpR op_eq (pe_op op_mod (pv 15) pe_int) pe_int (nomark _)) (pss_one (ps_set (i:=16) scSts.nd rfl (Or.inl rfl) (pe_op op_add (pe_op op_add (pv 16) pe_int) (pe_op op_mod (pe_op op_fdiv (pv 15) pe_int) pe_int))))
              (pss_one (ps_if (PW.pt (pw_and (pt_cmpR op_eq (pe_op op_mod (pv 15) pe_int) pe_int (nomark _)) (pw_and1 (pt_cmpR op_gt (pv 16) pe_int (nomark _))))) (pss_one (ps_set (i:=16) scSts.nd rfl (Or.inl rfl) (pe_op op_sub (pe_op op_sub (pv 16) pe_int) (pe_op op_mod (pe_op op_fdiv (pv 15) pe_int) (pv 16))))) pss_nil))) ?outs)
          (pss_one (ps_if (pt_cmpR op_eq (pe_ix ix_tup (pv 14) pe_int (fun _ _=>rfl)) (pv 9) (nomark _))
            (pss_one (ps_expr (pe_bm PySem.F.plainAttrs_list PySem.F.slot_list_append PySem.F.type_list_append mt_append (pv 13) (pa_cons (pe_tup (pa_cons (pv 14) (pa_cons (pv 16) (pa_cons (pe_callTy call_tuple_of (by rfl) T.tuple PyProof.Rows.boot_tuple (pa_cons (pe_dget hu (pv 3) (pv 14) (fun _ _=>rfl)) pa_nil)) pa_nil)))) pa_nil)))) pss_nil))))))
        (pss_cons (ps_set (i:=17) scSts.nd rfl (Or.inl rfl) (pe_callTy call_tuple_of (by rfl) T.tuple PyProof.Rows.boot_tuple (pa_cons (pe_comp (te:=teTold) (caps:=[("_law_house",9),("_law_records_here",7)]) rfl (pi_list (pe_callB (call_sorted_thingsB rfl) (by rfl) T.sorted PyProof.Rows.boot_sorted (pa_cons (pe_dget hu (pv 7) (pv 9) (fun _ _=>rfl)) pa_nil)))
            rfl (by decide +kernel) rfl (by decide +kernel) rfl ⟨rfl,rfl,trivial⟩ (fun y h=>has4 ⟨_,rfl⟩ ⟨_,rfl⟩ h) ⟨⟨rfl,rfl,rfl,rfl⟩,⟨rfl,rfl,rfl,rfl⟩,trivial⟩ (by decide +kernel) (fun _ _ _ _ _=>pts_nil) (fun _ _ _ _ _=>pe_tup (pa_cons (pv 0) (pa_cons (pe_dget hu (pe_dget hu (pv 2) (pv 1) (fun _ _=>rfl)) (pv 0) (fun _ _=>rfl)) pa_nil)))) pa_nil)))
        (pss_one (ps_dput hu (pv 12) (pv 9) (pe_tup (pa_cons (pe_callTy call_tuple_of (by rfl) T.tuple PyProof.Rows.boot_tuple (pa_cons (pe_dget hu (pv 6) (pv 9) (fun _ _=>rfl)) pa_nil)) (pa_cons (pe_callTy call_tuple_of (by rfl) T.tuple PyProof.Rows.boot_tuple (pa_cons (pv 13) pa_nil)) (pa_cons (pv 17) pa_nil)))) rfl))))))
      (pss_one (ps_ret (pv 12)))))))))))),?_⟩
    case outs =>
      rintro ⟨u,H1,x,o⟩ σ H2 ⟨rfl,rfl⟩
      dsimp only
      refine ⟨_,rfl,_,_,rfl,rfl,(show (0:Int) < 10 by decide),rfl,_,rfl,?_⟩
      refine ite2 (fun _=>?_) (fun _=>?_)
      · exact ⟨_,rfl,_,_,rfl,rfl,_,rfl,_,_,rfl,rfl,⟨by decide,by decide⟩,_,_,rfl,rfl,(show (0:Int) < 3 by decide),_,_,rfl,rfl,rfl,_,rfl⟩
      · refine ⟨_,rfl,_,_,rfl,rfl,(show (0:Int) < 10 by decide),rfl,_,rfl,?_⟩
        refine ite2 (fun _=>?_) (fun _=>⟨rfl,o,rfl⟩)
        refine ⟨_,rfl,_,_,rfl,rfl,_,rfl,?_⟩
        refine ite2 (fun c=>?_) (fun _=>⟨rfl,o,rfl⟩)
        have c:=of_decide_eq_true c
        exact ⟨_,rfl,_,_,rfl,rfl,_,rfl,_,_,rfl,rfl,⟨by decide,by decide⟩,_,rfl,_,_,rfl,rfl,c,_,_,rfl,rfl,rfl,_,rfl⟩
    refine ⟨_,rfl,_,rfl,a,hl,ns,hs,rfl,hS,hlen,eh,h1,h4,fun tl as ts H1 htl s1 etl th1 ndt t1 t24=>?_⟩
    refine ⟨_,rfl,_,rfl,a,tl,ns,as,ts,rfl,hS.keep (KeepT.of_same s1),hlen,etl,th1,ndt,t1,t24,fun d L0 H2 hd0 s2 ed he ek nq=>?_⟩
    have s02:=same_trans s1 s2
    refine ⟨_,rfl,a,ns,1,rfl,(hS.keep (KeepT.of_same s02)).sq,hlen,by decide,by decide,fun c=>?_⟩
    refine ⟨_,rfl,_,_,rfl,rfl,⟨by decide,by decide⟩,_,_,rfl,rfl,⟨by decide,by decide,by decide⟩,_,_,rfl,rfl,(show (0:Int) < 10 ^ 55 by decide),_,_,rfl,rfl,(show 4≤sizeLine by decide),fun q hq=>?_⟩
    have s3:=same_new (o:=.lst [V.int 1,V.int 1,V.int 1,V.int (1 + c / 4 % (10:Int) ^ (55:Int).toNat)]) hq
    have eq0:(upd H2 q (.lst [V.int 1,V.int 1,V.int 1,V.int (1 + c / 4 % (10:Int) ^ (55:Int).toNat)])) q=some (.lst [V.int 1,V.int 1,V.int 1,V.int (1 + c / 4 % (10:Int) ^ (55:Int).toNat)]):=upd_same
    obtain ⟨far,hfar⟩:∃ far:Int,atI [V.int 1,V.int 1,V.int 1,V.int (1 + c / 4 % (10:Int) ^ (55:Int).toNat)] (c % 4)=some (.int far):=by
      rcases (show c % 4=0∨c % 4=1∨c % 4=2∨c % 4=3 by omega) with e | e | e | e <;> rw [e]
      · exact ⟨1,atI_at (by decide) rfl⟩
      · exact ⟨1,atI_at (by decide) rfl⟩
      · exact ⟨1,atI_at (by decide) rfl⟩
      · exact ⟨_,atI_at (by decide) rfl⟩
    refine ⟨_,rfl,_,_,rfl,rfl,(show (0:Int) < 4 by decide),q,_,_,V.int far,rfl,rfl,SqL.of eq0,hfar,?_⟩
    have B3:Bs K (upd H2 q (.lst [V.int 1,V.int 1,V.int 1,V.int (1 + c / 4 % (10:Int) ^ (55:Int).toNat)])) a hl tl d ns hs as ts L0:=Bs.same ⟨hS.keep (KeepT.of_same s02),s02 _ _ eh,s2 _ _ etl,ThsAt.keep (KeepT.of_same s2) th1,ed,he⟩ s3
    have s03:=same_trans s02 s3
    clear s3 eq0 hfar hq s1 etl th1 s2 ed he s02 htl hd0
    generalize upd H2 q (.lst [V.int 1,V.int 1,V.int 1,V.int (1 + c / 4 % (10:Int) ^ (55:Int).toNat)])=H3 at s03 B3
    intro hd hhd
    intro rd hrd
    intro sd hsd
    have n1:H3 rd=none:=same_free (same_new hhd) hrd
    have n2:H3 sd=none:=same_free (same_new hhd) (same_free (same_new hrd) hsd)
    have x1:rd≠hd:=fun z=>by rw [z,upd_same] at hrd; cases hrd
    have x2:sd≠rd:=fun z=>by rw [z,upd_same] at hsd; cases hsd
    have x3:sd≠hd:=fun z=>by rw [z,upd_ne (Ne.symm x1),upd_same] at hsd; cases hsd
    have s4:Same H3 (upd (upd (upd H3 hd (.dK [])) rd (.dK [])) sd (.dT [])):=same_trans (same_new hhd) (same_trans (same_new hrd) (same_new hsd))
    have f1:(upd (upd (upd H3 hd (.dK [])) rd (.dK [])) sd (.dT [])) hd=some (.dK []):=by rw [upd_ne (Ne.symm x3),upd_ne (Ne.symm x1),upd_same]
    have f2:(upd (upd (upd H3 hd (.dK [])) rd (.dK [])) sd (.dT [])) rd=some (.dK []):=by rw [upd_ne (Ne.symm x2),upd_same]
    have f3:(upd (upd (upd H3 hd (.dK [])) rd (.dK [])) sd (.dT [])) sd=some (dInt []):=upd_same
    generalize upd (upd (upd H3 hd (.dK [])) rd (.dK [])) sd (.dT [])=H4 at s4 f1 f2 f3
    have L0n:(L0.map (·.1)).Nodup:=by rw [ek]; exact ndt
    have L0z:L0.length≤24:=by
      have:=congrArg List.length ek
      rw [List.length_map] at this
      omega
    refine ⟨_,rfl,hl,rfl,⟨_,SqL.of (s4 _ _ B3.hl)⟩,?_⟩
    refine for_list (K:=K) (a:=hl) (xs:=hs.map V.int) (fun i σ H'=>L1 K H3 a hl tl d hd rd sd c far hs i σ H') ⟨⟨_,_,_,rfl⟩,s4,⟨[],f1,Nat.le_refl _,fun h hh=>by simp at hh⟩,⟨[],f2,Nat.le_refl _,fun h hh=>by simp at hh⟩,⟨[],f3,Nat.le_refl _⟩⟩ (fun i σ H' _ z=>SqL.of (z.sm _ _ B3.hl)) ?_ ?_
    · rintro i v σ H5 hi ⟨⟨u9,u10,u11,rfl⟩,sm,⟨kh,ekh,zkh,hok⟩,⟨kr,ekr,zkr,rok⟩,⟨ss,ess,zss⟩⟩
      have hi':=(List.getElem?_eq_some_iff.mp hi).1
      rw [List.length_map] at hi'
      rw [List.getElem?_map] at hi
      cases hx:hs[i]? with
      | none=>rw [hx] at hi; cases hi
      | some h =>
        rw [hx] at hi
        have hi:V.int h=v:=Option.some.inj hi
        subst hi
        have tk1:hs.take (i + 1)=hs.take i++[h]:=by rw [List.take_add_one,hx]; rfl
        have B5:=B3.same sm
        refine ⟨_,rfl,a,ns,2,rfl,B5.scr.sq,hlen,by decide,by decide,fun v=>?_⟩
        refine ⟨_,rfl,_,_,rfl,rfl,.inl ⟨by decide,by decide⟩,_,_,rfl,rfl,v + 31 * h,10,rfl,by decide,fun xl xs H6 hxl s6 exl lx px=>?_⟩
        obtain ⟨x9,ex9⟩:=get_of_lt (xs:=xs) (j:=9) (by omega)
        have a9:atI (xs.map V.int) 9=some (.int x9):=atI_at (by decide) (by rw [List.getElem?_map]; show xs[9]?.map V.int=_; rw [ex9]; rfl)
        refine ⟨_,rfl,8,rfl,(show 5≤sizeLine by decide),fun q hq=>?_⟩
        have s7:=same_new (o:=.lst [V.int 0,V.int 0,V.int 1,V.int 1,V.int 2]) hq
        have eq1:(upd H6 q (.lst [V.int 0,V.int 0,V.int 1,V.int 1,V.int 2])) q=some (.lst [V.int 0,V.int 0,V.int 1,V.int 1,V.int 2]):=upd_same
        generalize upd H6 q (.lst [V.int 0,V.int 0,V.int 1,V.int 1,V.int 2])=H7 at s7 eq1
        obtain ⟨z,hz,z0,z2⟩:∃ z:Int,atI [V.int 0,V.int 0,V.int 1,V.int 1,V.int 2] (x9 % 5)=some (.int z)∧0≤z∧z≤2:=by
          rcases (show x9 % 5=0∨x9 % 5=1∨x9 % 5=2∨x9 % 5=3∨x9 % 5=4 by omega) with e | e | e | e | e <;> rw [e]
          · exact ⟨0,atI_at (by decide) rfl,by decide,by decide⟩
          · exact ⟨0,atI_at (by decide) rfl,by decide,by decide⟩
          · exact ⟨1,atI_at (by decide) rfl,by decide,by decide⟩
          · exact ⟨1,atI_at (by decide) rfl,by decide,by decide⟩
          · exact ⟨2,atI_at (by decide) rfl,by decide,by decide⟩
        have exl7:=s7 _ _ exl
        obtain ⟨ys,ey,ly⟩:=cut_ints xs (lo:=8) (hi:=8 + z) (by decide) (by omega)
        refine ⟨_,rfl,xl,_,9,V.int x9,rfl,rfl,SqL.of exl7,a9,_,_,rfl,rfl,(show (0:Int) < 5 by decide),q,_,_,V.int z,rfl,rfl,SqL.of eq1,hz,_,_,rfl,rfl,_,rfl,xl,_,rfl,SqL.of exl7,fun p hp=>?_⟩
        rw [ey]
        have s8:=same_new (o:=.lst (ys.map V.int)) hp
        have ep:(upd H7 p (.lst (ys.map V.int))) p=some (.lst (ys.map V.int)):=upd_same
        generalize upd H7 p (.lst (ys.map V.int))=H8 at s8 ep
        have s58:Same H5 H8:=same_trans s6 (same_trans s7 s8)
        have B8:=B5.same s58
        refine ⟨_,rfl,p,tl,ys,as,ts,rfl,ep,by omega,B8.tl,B8.th,t1,fun b cs us H9 hb s9 eb tu nu lu=>?_⟩
        have s59:=same_trans s58 s9
        have ekh9:=s59 _ _ ekh
        refine ⟨_,rfl,_,rfl,hd,_,rfl,DPut.k (k:=.inl h) ekh9 (small2k (by omega)),?_⟩
        have nbh:b≠hd:=fun z=>by rw [z,s58 _ _ ekh] at hb; cases hb
        have kt10:KeepT H9 (upd H9 hd (.dK (putK kh (.inl h) (.ref b)))):=KeepT.upd fun o' e=>by
          rw [ekh9] at e; cases e; exact ⟨fun _ z=>(by cases z),fun _ _ z=>(by cases z)⟩
        have fr10:∀ b' o,H9 b'=some o→b'≠hd→(upd H9 hd (.dK (putK kh (.inl h) (.ref b)))) b'=some o:=fun b' o e n=>by rw [upd_ne n]; exact e
        have ekh10:(upd H9 hd (.dK (putK kh (.inl h) (.ref b)))) hd=some (.dK (putK kh (.inl h) (.ref b))):=upd_same
        generalize upd H9 hd (.dK (putK kh (.inl h) (.ref b)))=H10 at kt10 fr10 ekh10
        have s310:Same H3 H10:=fun b' o e=>fr10 _ _ (s59 _ _ (sm _ _ e)) (ne_of_none e hhd)
        have B10:=B3.same s310
        have eb10:=fr10 _ _ eb nbh
        have tu10:=ThsAt.keep kt10 tu
        have exl10:H10 xl=some (.lst (xs.map V.int)):=fr10 _ _ (s9 _ _ (s8 _ _ exl7)) (fun z=>by rw [z,s6 _ _ ekh] at exl; cases exl)
        have hok10:HandsOk H10 (putK kh (.inl h) (.ref b)) (hs.take i++[h]) :=
          HandsOk.put (hok.fr ((KeepT.of_same s59).trans kt10) fun b' xs' e=>fr10 _ _ (s59 _ _ e) (fun z=>by rw [z,ekh] at e; cases e)) eb10 tu10 (by omega)
        have gh:DGet H10 hd (.int h) (some (.ref b)):=by
          have:=DGet.k (k:=.inl h) ekh10
          rw [valV_put,if_pos rfl] at this
          exact this
        refine ⟨_,rfl,_,rfl,_,rfl,hd,_,rfl,gh,_,rfl,_,rfl,_,rfl,_,rfl,h,far,b,d,tl,xl,cs,as,us,ts,L0,xs,rfl,eb10,tu10,by omega,B10.dh,B10.he,L0n,L0z,B10.tl,B10.th,t1,exl10,lx,fun ra rs H11 hra s11 era nr zr=>?_⟩
        have ekr11:H11 rd=some (.dK kr):=s11 _ _ (fr10 _ _ (s59 _ _ ekr) x1)
        refine ⟨_,rfl,_,rfl,rd,_,rfl,DPut.k (k:=.inl h) ekr11 (small2k (by omega)),?_⟩
        have ess10:H10 sd=some (dInt ss):=fr10 _ _ (s59 _ _ ess) x3
        have nrs:ra≠sd:=fun z=>by rw [z,ess10] at hra; cases hra
        have nrr:ra≠rd:=fun z=>by rw [z,fr10 _ _ (s59 _ _ ekr) x1] at hra; cases hra
        have nra3:H3 ra=none:=same_free s310 hra
        have fr12:∀ b' o,H11 b'=some o→b'≠rd→(upd H11 rd (.dK (putK kr (.inl h) (.ref ra)))) b'=some o:=fun b' o e n=>by rw [upd_ne n]; exact e
        have ekr12:(upd H11 rd (.dK (putK kr (.inl h) (.ref ra)))) rd=some (.dK (putK kr (.inl h) (.ref ra))):=upd_same
        have kt12:KeepT H11 (upd H11 rd (.dK (putK kr (.inl h) (.ref ra)))):=KeepT.upd fun o' e=>by
          rw [ekr11] at e; cases e; exact ⟨fun _ z=>(by cases z),fun _ _ z=>(by cases z)⟩
        generalize upd H11 rd (.dK (putK kr (.inl h) (.ref ra)))=H12 at fr12 ekr12 kt12
        have era12:=fr12 _ _ era nrr
        have ess12:H12 sd=some (dInt ss):=fr12 _ _ (s11 _ _ ess10) x2
        have ekh12:H12 hd=some (.dK (putK kh (.inl h) (.ref b))):=fr12 _ _ (s11 _ _ ekh10) (Ne.symm x1)
        have s312:Same H3 H12:=fun b' o e=>fr12 _ _ (s11 _ _ (s310 _ _ e)) (ne_of_none e n1)
        have hok12:=hok10.fr ((KeepT.of_same s11).trans kt12) fun b' xs' e=>fr12 _ _ (s11 _ _ e) (fun z=>by rw [z,fr10 _ _ (s59 _ _ ekr) x1] at e; cases e)
        have rok12:RecsOk sd H12 (putK kr (.inl h) (.ref ra)) (hs.take i++[h]) :=
          RecsOk.put (rok.fr fun b' xs' e n=>fr12 _ _ (s11 _ _ (fr10 _ _ (s59 _ _ e) (fun z=>by rw [z,ekh] at e; cases e))) (fun z=>by rw [z,ekr] at e; cases e)) era12 nr zr nrs
        have gr:∀ H',H' rd=some (.dK (putK kr (.inl h) (.ref ra)))→DGet H' rd (.int h) (some (.ref ra)):=fun H' e=>by
          have:=DGet.k (k:=.inl h) e
          rw [valV_put,if_pos rfl] at this
          exact this
        refine ⟨_,rfl,_,rfl,rd,_,rfl,gr _ ekr12,ra,_,rfl,era12,fun ob=>?_⟩
        refine for_dict (d:=ra) (ob:=ob) (fun j σ H'=>∃ (v11:Option V) (st:List (T2×Int)),σ=[some (.ref a),some (.ref hl),some (.ref tl),some (.ref d),some (.int c),some (.int far),some (.ref hd),some (.ref rd),some (.ref sd),some (.int h),some (.ref xl),v11,none,none,none,none,none,none]∧H' sd=some (dInt st)∧st.length≤100 * i + j∧H' ra=some (.frz ob (dInt rs))∧∀ b' o,H12 b'=some o→b'≠ra→b'≠sd→H' b'=some o)
          ⟨_,ss,rfl,by rw [upd_ne (Ne.symm nrs)]; exact ess12,zss,upd_same,fun b' o e n _=>by rw [upd_ne n]; exact e⟩ (fun j σ H' _ ⟨_,_,_,_,_,e,_⟩=>e) ?_ ?_
        · rintro j o kk v σ H13 hj ho ⟨v11,st,rfl,est,zst,erf,frz⟩
          have hj':=(List.getElem?_eq_some_iff.mp hj).1
          rw [List.length_map] at hj'
          rw [List.getElem?_map] at hj
          cases hq:rs[j]? with
          | none=>rw [hq] at hj; cases hj
          | some q =>
            rw [hq] at hj
            have hj:(tk q.1,V.int q.2)=(kk,v):=Option.some.inj hj
            have mq:=List.mem_of_getElem? hq
            have e2:kk=tk q.1:=(Prod.mk.inj hj).1.symm
            rw [e2,tk_kV] at ho
            have ekr13:=frz _ _ ekr12 (Ne.symm nrr) (Ne.symm x2)
            obtain ⟨y,ey2⟩:∃ y:Int,((valV (st.map fun q=>(tk q.1,V.int q.2)) (tk q.1)).getD (.int 0))=.int y:=by
              rw [valV_tk (k:=fun q:T2×Int=>q.1) (f:=fun q=>V.int q.2)]
              cases st.find? fun q_1=>decide (q_1.1=q.1) with
              | none=>exact ⟨0,rfl⟩
              | some r=>exact ⟨r.2,rfl⟩
            have gv:valV (rs.map fun q=>(tk q.1,V.int q.2)) (tk q.1)=some (V.int q.2):=by
              rw [valV_tk (k:=fun q:T2×Int=>q.1) (f:=fun q=>V.int q.2),FX.find_self (k:=fun q:T2×Int=>q.1) nr mq]; rfl
            refine ⟨_,rfl,sd,rfl,.inr ⟨_,.inl est⟩,_,rfl,_,DGet.t (k:=tk q.1) est ho,_,rfl,_,rfl,rd,_,rfl,gr _ ekr13,_,rfl,ra,_,rfl,.inr ⟨_,tk q.1,o,.inr ⟨ob,erf⟩,rfl,ho,gv.symm⟩,y,q.2,ey2,rfl,_,rfl,_,rfl,sd,_,rfl,DPut.t (k:=tk q.1) est ho (by rw [List.length_map]; exact small2k (by omega)),?_⟩
            rw [show ((fun (i j:Int)=>V.int (i + j)) y q.2)=V.int (y + q.2) from rfl]
            have lp:=length_putK (st.map fun q=>(tk q.1,V.int q.2)) (tk q.1) (.int (y + q.2))
            rw [putK_int] at lp ⊢
            rw [List.length_map,List.length_map] at lp
            refine ⟨_,putI st q.1 (y + q.2),rfl,upd_same,by omega,?_,fun b' o' e n n'=>?_⟩
            · rw [upd_ne nrs]; exact erf
            · rw [upd_ne n']; exact frz _ _ e n n'
        · rintro σ H13 ⟨v11,st,rfl,est,zst,erf,frz⟩
          rw [List.length_map] at zst
          refine ⟨upd H13 ra (dInt rs),⟨ra,ob,_,erf,fun o v z=>?_,rfl⟩,?_⟩
          · have z:H ra=some (.frz o v):=z
            rw [same_free s03 nra3] at z; cases z
          have frn:∀ b' o,H12 b'=some o→b'≠sd→(upd H13 ra (dInt rs)) b'=some o:=fun b' o e n=>by
            by_cases z:b'=ra
            · rw [z,upd_same]; rw [z,era12] at e; exact e
            · rw [upd_ne z]; exact frz _ _ e z n
          have est':(upd H13 ra (dInt rs)) sd=some (dInt st):=by rw [upd_ne (Ne.symm nrs)]; exact est
          generalize upd H13 ra (dInt rs)=H14 at frn est'
          have ktn:KeepT H12 H14:=⟨fun b' xs' e=>frn _ _ e (fun z=>by rw [z,ess12] at e; cases e),fun b' o' u' e=>frn _ _ e (fun z=>by rw [z,ess12] at e; cases e)⟩
          have l1:=length_putK kh (.inl h) (.ref b)
          have l2:=length_putK kr (.inl h) (.ref ra)
          refine ⟨⟨_,_,_,rfl⟩,fun b' o e=>frn _ _ (s312 _ _ e) (ne_of_none e n2),⟨_,frn _ _ ekh12 (Ne.symm x3),by omega,?_⟩,⟨_,frn _ _ ekr12 (Ne.symm x2),by omega,?_⟩,⟨st,est',by omega⟩⟩
          · rw [tk1]
            exact hok12.fr ktn fun b' xs' e=>frn _ _ e (fun z=>by rw [z,ess12] at e; cases e)
          · rw [tk1]
            exact rok12.fr fun b' xs' e n=>frn _ _ e n
    · rintro σ H5 ⟨⟨u9,u10,u11,rfl⟩,sm,⟨kh,ekh,zkh,hok⟩,⟨kr,ekr,zkr,rok⟩,⟨ss,ess,zss⟩⟩
      rw [List.length_map] at zkh zkr zss hok rok
      rw [List.take_length] at hok rok
      have B5:=B3.same sm
      have s05:=same_trans s03 sm
      clear zkh zkr
      intro xd hxd
      have nx0:H xd=none:=same_free s05 hxd
      have s6:=same_new (o:=.dK []) hxd
      have e6:(upd H5 xd (.dK [])) xd=some (.dK []):=upd_same
      generalize upd H5 xd (.dK [])=H6 at s6 e6
      obtain ⟨so,pm,pw⟩:=sorts (fun t:T2=>t) (l:=ts) (by simpa using ndt)
      have pw:so.Pairwise lt2:=by simpa using pw
      have zso:so.length=ts.length:=pm.length_eq
      have nso:so.Nodup:=pm.nodup_iff.mpr ndt
      refine ⟨_,rfl,hl,rfl,⟨_,SqL.of (s6 _ _ B5.hl)⟩,?_⟩
      refine for_list (K:=K) (a:=hl) (xs:=hs.map V.int) (fun i σ H'=>∃ (v9 v10 v11 v13 v14 v15 v16 v17:Option V) (L:List (Int×Addr×HS)),σ=[some (.ref a),some (.ref hl),some (.ref tl),some (.ref d),some (.int c),some (.int far),some (.ref hd),some (.ref rd),some (.ref sd),v9,v10,v11,some (.ref xd),v13,v14,v15,v16,v17]∧Same H5 H'∧StsAt K H' xd L∧L.map (·.1)=hs.take i ∧
          ∀ q∈L,q.2.2.2.1.map (·.1)=(so.filter fun t=>decide (t.1=q.1))∧q.2.2.1.length≤5∧(∀ r∈q.2.2.2.1,r.2.2.length≤3)∧q.2.2.2.2.length≤100)
        ⟨_,_,_,_,_,_,_,_,[],rfl,s6,⟨e6,fun q hq=>by cases hq⟩,rfl,fun q hq=>by cases hq⟩ (fun i σ H' _ ⟨_,_,_,_,_,_,_,_,_,_,z,_⟩=>SqL.of (z _ _ B5.hl)) ?_ ?_
      · rintro i v σ H7 hi ⟨v9,v10,v11,v13,v14,v15,v16,v17,L,rfl,s7,sts,eL,pr⟩
        have hi':=(List.getElem?_eq_some_iff.mp hi).1
        rw [List.length_map] at hi'
        rw [List.getElem?_map] at hi
        cases hx:hs[i]? with
        | none=>rw [hx] at hi; cases hi
        | some h =>
          rw [hx] at hi
          have hi:V.int h=v:=Option.some.inj hi
          subst hi
          have mh:=List.mem_of_getElem? hx
          refine ⟨by decide,fun rl hrl=>?_⟩
          have s8:=same_new (o:=.lst []) hrl
          have e8:(upd H7 rl (.lst [])) rl=some (.lst []):=upd_same
          generalize upd H7 rl (.lst [])=H8 at s8 e8
          have s58:=same_trans s7 s8
          have B8:=B5.same s58
          have dr:Rd H8 d (.dT ((L0.map fun q=>(q.1,V.ref q.2.1)).map fun q=>(tk q.1,q.2))):=by
            have e:((L0.map fun q=>(q.1,V.ref q.2.1)).map fun q=>(tk q.1,q.2))=L0.map fun q=>(tk q.1,V.ref q.2.1):=by rw [List.map_map]; rfl
            rw [e]; exact .inl B8.dh
          refine ⟨_,rfl,d,_,so,rfl,dr,by rw [List.length_map]; omega,?_,pw,fun sl as' hsl th'=>?_⟩
          · rw [List.map_map]
            show so.Perm (L0.map (·.1))
            rw [ek]; exact pm
          have s9:=same_new (o:=.lst (as'.map V.ref)) hsl
          have e9:(upd H8 sl (.lst (as'.map V.ref))) sl=some (.lst (as'.map V.ref)):=upd_same
          have th9:=ThsAt.keep (KeepT.of_same s9) th'
          have er9:=s9 _ _ e8
          have nrs:rl≠sl:=fun z=>by rw [z,hsl] at e8; cases e8
          generalize upd H8 sl (.lst (as'.map V.ref))=H9 at s9 e9 th9 er9
          have s79:=same_trans s8 s9
          refine ⟨sl,rfl,⟨_,SqL.of e9⟩,?_⟩
          refine for_list (K:=K) (a:=sl) (xs:=as'.map V.ref) (fun j σ H'=>∃ (w14 w15 w16:Option V) (vs:List V) (rws:List (T2×Int×List T2)),σ=[some (.ref a),some (.ref hl),some (.ref tl),some (.ref d),some (.int c),some (.int far),some (.ref hd),some (.ref rd),some (.ref sd),some (.int h),v10,v11,some (.ref xd),some (.ref rl),w14,w15,w16,v17]∧Same H7 H'∧H' sl=some (.lst (as'.map V.ref))∧ThsAt H' as' so∧H' rl=some (.lst vs)∧Paired (RowA K H') vs rws∧rws.map (·.1)=((so.take j).filter fun t=>decide (t.1=h))∧∀ r∈rws,r.2.2.length≤3)
            ⟨_,_,_,[],[],rfl,s79,e9,th9,er9,.nil,rfl,fun r hr=>by cases hr⟩ (fun j σ H' _ ⟨_,_,_,_,_,_,_,z,_⟩=>SqL.of z) ?_ ?_
          · rintro j v σ H10 hj ⟨w14,w15,w16,vs,rws,rfl,s10,esl,tho,erl,prw,erw,zrw⟩
            have hj':=(List.getElem?_eq_some_iff.mp hj).1
            rw [List.length_map,Paired.length tho] at hj'
            rw [List.getElem?_map] at hj
            cases ho:as'[j]? with
            | none=>rw [ho] at hj; cases hj
            | some o =>
              rw [ho] at hj
              have hj:V.ref o=v:=Option.some.inj hj
              subst hj
              obtain ⟨t,et⟩:=get_of_lt (xs:=so) hj'
              have eo:=paired_get tho j o t ho et
              have s510:=same_trans s7 s10
              have B10:=B5.same s510
              refine ⟨_,rfl,a,ns,3,rfl,B10.scr.sq,hlen,by decide,by decide,fun v=>?_⟩
              refine ⟨_,rfl,o,_,1,V.int t.2,rfl,rfl,SqT.of eo,rfl,_,_,rfl,rfl,.inl ⟨by decide,by decide⟩,_,_,rfl,rfl,_,rfl,_,_,rfl,rfl,v + 7 * t.2 + h,1,rfl,by decide,fun xl xs H11 hxl s11 exl lx px=>?_⟩
              obtain ⟨x,ex⟩:∃ x,xs=[x]:=List.length_eq_one_iff.mp lx
              subst ex
              refine ⟨xl,_,0,V.int x,rfl,rfl,SqL.of exl,rfl,?_⟩
              have ess11:=s11 _ _ (s510 _ _ ess)
              have eo11:=s11 _ _ eo
              obtain ⟨y,ey2⟩:∃ y:Int,((valV (ss.map fun q=>(tk q.1,V.int q.2)) (tk t)).getD (.int 0))=.int y:=by
                rw [valV_tk (k:=fun q:T2×Int=>q.1) (f:=fun q=>V.int q.2)]
                cases ss.find? fun q_1=>decide (q_1.1=t) with
                | none=>exact ⟨0,rfl⟩
                | some r=>exact ⟨r.2,rfl⟩
              refine ⟨_,rfl,sd,rfl,.inr ⟨_,.inl ess11⟩,_,rfl,_,DGet.t (k:=tk t) ess11 eo11,?_⟩
              rw [ey2]
              refine ⟨(fun n=>([some (V.ref a),some (.ref hl),some (.ref tl),some (.ref d),some (.int c),some (.int far),some (.ref hd),some (.ref rd),some (.ref sd),some (.int h),v10,v11,some (.ref xd),some (.ref rl),some (.ref o),none,none,v17]:List (Option V)).getD n none,H11,x,y),⟨rfl,rfl⟩,?_,fun v H' z=>z.elim⟩
              rintro σ H12 ⟨e12,ou,rfl⟩
              have e12:H12=H11:=e12
              subst e12
              refine ⟨_,rfl,o,_,0,V.int t.1,rfl,rfl,SqT.of eo11,rfl,_,rfl,rfl,_,rfl,?_⟩
              have sl11:=s11 _ _ esl
              have rl11:=s11 _ _ erl
              have th11:=ThsAt.keep (KeepT.of_same s11) tho
              have pr11:Paired (RowA K H12) vs rws:=paired_mono (fun _ _ r=>r.keep (KeepT.of_same s11)) prw
              have s711:=same_trans s10 s11
              have tk1:so.take (j + 1)=so.take j++[t]:=by rw [List.take_add_one,et]; rfl
              refine ite2 (fun cc=>?_) (fun cc=>?_)
              · have cc:t.1=h:=by
                  have:=of_decide_eq_true cc
                  injection this
                have tin:t∈L0.map (·.1):=by rw [ek]; exact pm.mem_iff.mp (List.mem_of_getElem? et)
                obtain ⟨q0,mq0,eq0⟩:=List.mem_map.mp tin
                have B12:=B5.same (same_trans s7 s711)
                have gv:valV (L0.map fun (q:T2×Addr×List T2)=>(tk q.1,V.ref q.2.1)) (tk t)=some (V.ref q0.2.1):=by
                  rw [← eq0,valV_tk (k:=fun q:T2×Addr×List T2=>q.1) (f:=fun q=>V.ref q.2.1),FX.find_self (k:=fun q:T2×Addr×List T2=>q.1) L0n mq0]; rfl
                obtain ⟨ds,e3,td,z3⟩:=B12.he q0 mq0
                have gd:DGet H12 d (.ref o) (some (.ref q0.2.1)):=by
                  have:=DGet.t (k:=tk t) B12.dh eo11
                  rw [gv] at this
                  exact this
                refine ⟨_,rfl,.inl ⟨rfl,_,SqL.of rl11⟩,_,rfl,_,rfl,_,rfl,_,rfl,d,_,rfl,gd,q0.2.1,_,rfl,.inl ⟨SqL.of e3,fun tp htp=>?_⟩⟩
                have s13:=same_new (o:=.tup (ds.map V.ref)) htp
                have e13:(upd H12 tp (.tup (ds.map V.ref))) tp=some (.tup (ds.map V.ref)):=upd_same
                generalize upd H12 tp (.tup (ds.map V.ref))=H13 at s13 e13
                refine ⟨(show 3≤sizeLine by decide),fun rp hrp=>?_⟩
                have s14:=same_new (o:=.tup [V.ref o,V.int ou,V.ref tp]) hrp
                have e14:(upd H13 rp (.tup [V.ref o,V.int ou,V.ref tp])) rp=some (.tup [V.ref o,V.int ou,V.ref tp]):=upd_same
                generalize upd H13 rp (.tup [V.ref o,V.int ou,V.ref tp])=H14 at s14 e14
                have s1214:=same_trans s13 s14
                have rl14:=s1214 _ _ rl11
                have lv:=Paired.length pr11
                have lr:rws.length≤24:=by
                  have:=congrArg List.length erw
                  rw [List.length_map] at this
                  have l2:=List.length_filter_le (fun t:T2=>decide (t.1=h)) (so.take j)
                  rw [List.length_take] at l2
                  omega
                refine ⟨rl,_,_,rfl,rfl,rl14,small2k (by omega),?_⟩
                have kt15:KeepT H14 (upd H14 rl (.lst (vs++[V.ref rp]))):=KeepT.upd fun o' e=>by
                  rw [rl14] at e; cases e; exact ⟨fun _ z=>(by cases z),fun _ _ z=>(by cases z)⟩
                have kt:=(KeepT.of_same s1214).trans kt15
                refine ⟨_,_,_,vs++[V.ref rp],rws++[(t,ou,q0.2.2)],rfl,fun b' o' e=>?_,?_,ThsAt.keep kt th11,upd_same,paired_snoc' (paired_mono (fun _ _ r=>r.keep kt) pr11) ⟨rp,o,tp,ds,rfl,SqT.of (kt15.tup _ _ e14),kt.tup _ _ eo11,SqT.of (kt15.tup _ _ (s14 _ _ e13)),ThsAt.keep kt td⟩,?_,fun r hr=>?_⟩
                · rw [upd_ne (ne_of_none e hrl)]; exact s1214 _ _ (s711 _ _ e)
                · rw [upd_ne (Ne.symm nrs)]; exact s1214 _ _ sl11
                · rw [tk1,List.filter_append,List.map_append,erw]
                  simp [cc]
                · rcases List.mem_append.mp hr with hr | hr
                  · exact zrw r hr
                  · rw [List.mem_singleton.mp hr]; exact z3
              · have cc:¬ t.1=h:=fun z=>cc (by rw [z]; simp)
                refine ⟨_,_,_,vs,rws,rfl,s711,sl11,th11,rl11,pr11,?_,zrw⟩
                rw [tk1,List.filter_append,erw]
                simp [cc]
          · rintro σ H10 ⟨w14,w15,w16,vs,rws,rfl,s10,esl,tho,erl,prw,erw,zrw⟩
            rw [List.length_map,Paired.length tho,List.take_length] at erw
            have s510:=same_trans s7 s10
            obtain ⟨ra,rs,vra,era,nra,zra,_⟩:=rok h mh
            obtain ⟨b,cs,us,vb,eb,tu,zu⟩:=hok h mh
            have gr:∀ H',Same H5 H'→DGet H' rd (.int h) (some (.ref ra)):=fun H' z=>by
              have:=DGet.k (k:=.inl h) (z _ _ ekr)
              rw [vra] at this
              exact this
            have gh:∀ H',Same H5 H'→DGet H' hd (.int h) (some (.ref b)):=fun H' z=>by
              have:=DGet.k (k:=.inl h) (z _ _ ekh)
              rw [vb] at this
              exact this
            obtain ⟨rs',pmr,pwr⟩:=sorts (fun q:T2×Int=>q.1) (l:=rs) nra
            refine ⟨_,rfl,_,rfl,rd,_,rfl,gr _ s510,ra,rs.map (fun q=>(q.1,V.int q.2)),rs'.map (·.1),rfl,int_rd (s510 _ _ era),by rw [List.length_map]; omega,?_,pwr,fun r2 as2 hr2 th2=>?_⟩
            · rw [List.map_map]
              exact pmr.map _
            have s11:=same_new (o:=.lst (as2.map V.ref)) hr2
            have e11:(upd H10 r2 (.lst (as2.map V.ref))) r2=some (.lst (as2.map V.ref)):=upd_same
            have th11:=ThsAt.keep (KeepT.of_same s11) th2
            generalize upd H10 r2 (.lst (as2.map V.ref))=H11 at s11 e11 th11
            refine ⟨r2,rfl,⟨_,SqL.of e11⟩,fun p hp=>?_⟩
            have s711:=same_trans s10 s11
            have la:=Paired.length th11
            rw [List.length_map] at la
            have zr':rs'.length≤100:=by rw [pmr.length_eq]; exact zra
            refine comp_list (K:=K) (a:=r2) (xs:=as2.map V.ref) (tt:=fun _ H Q=>Q true H) (te:=teTold) (caps:=[("_law_house",9),("_law_records_here",7)])
              (fun i ys H'=>H' p=some (.lst ys)∧Same H11 H'∧Paired (RecA K H') ys (rs'.take i)) ⟨upd_same,same_new hp,.nil⟩ (fun i ys H' _ z=>⟨SqL.of (z.2.1 _ _ e11),z.1⟩) ?_ ?_
            · rintro i2 v ys H12 N hi2 ⟨ep,s12,pr2⟩ hN
              refine iteT ?_
              have hi2':=(List.getElem?_eq_some_iff.mp hi2).1
              rw [List.length_map] at hi2'
              rw [List.getElem?_map] at hi2
              cases ho:as2[i2]? with
              | none=>rw [ho] at hi2; cases hi2
              | some o =>
                rw [ho] at hi2
                have hi2:V.ref o=v:=Option.some.inj hi2
                subst hi2
                obtain ⟨q,eq2⟩:=get_of_lt (xs:=rs') (j:=i2) (by omega)
                have eo:=s12 _ _ (paired_get th11 i2 o q.1 ho (by rw [List.getElem?_map,eq2]; rfl))
                have s512:=same_trans s7 (same_trans s711 s12)
                have mq:q∈rs:=pmr.mem_iff.mp (List.mem_of_getElem? eq2)
                have gq:DGet H12 ra (.ref o) (some (.int q.2)):=by
                  have:=DGet.t (k:=tk q.1) (s512 _ _ era) eo
                  rw [valV_tk (k:=fun q:T2×Int=>q.1) (f:=fun q=>V.int q.2),FX.find_self (k:=fun q:T2×Int=>q.1) nra mq] at this
                  exact this
                refine ⟨_,rfl,_,rfl,_,rfl,rd,_,rfl,gr _ s512,_,rfl,ra,_,rfl,gq,(show 2≤sizeLine by decide),fun tp htp=>?_⟩
                have s13:=same_new (o:=.tup [V.ref o,V.int q.2]) htp
                have e13:(upd H12 tp (.tup [V.ref o,V.int q.2])) tp=some (.tup [V.ref o,V.int q.2]):=upd_same
                generalize upd H12 tp (.tup [V.ref o,V.int q.2])=H13 at s13 e13
                have ep13:=s13 _ _ ep
                have kt14:KeepT H13 (upd H13 p (.lst (ys++[V.ref tp]))):=KeepT.upd fun o' e=>by
                  rw [ep13] at e; cases e; exact ⟨fun _ z=>(by cases z),fun _ _ z=>(by cases z)⟩
                have ly:=Paired.length pr2
                rw [List.length_take] at ly
                refine ⟨ep13,small2k (by omega),hN _ _ ⟨upd_same,fun b' o' e=>?_,?_⟩⟩
                · rw [upd_ne (ne_of_none e hp)]; exact s13 _ _ (s12 _ _ e)
                · rw [List.take_add_one,eq2]
                  exact paired_snoc' (paired_mono (fun _ _ r=>r.keep ((KeepT.of_same s13).trans kt14)) pr2) ⟨tp,o,rfl,SqT.of (kt14.tup _ _ e13),kt14.tup _ _ (s13 _ _ eo)⟩
            · rintro ys H12 ⟨ep,s12,pr2⟩
              rw [List.length_map,la,List.take_length] at pr2
              refine ⟨p,ys,rfl,.inl ⟨SqL.of ep,fun y3 hy3=>?_⟩⟩
              have s13:=same_new (o:=.tup ys) hy3
              have e13:(upd H12 y3 (.tup ys)) y3=some (.tup ys):=upd_same
              generalize upd H12 y3 (.tup ys)=H13 at s13 e13
              have s713:=same_trans s711 (same_trans s12 s13)
              have s513:=same_trans s7 s713
              refine ⟨_,rfl,_,rfl,hd,_,rfl,gh _ s513,b,_,rfl,.inl ⟨SqL.of (s513 _ _ eb),fun y1 hy1=>?_⟩⟩
              have s14:=same_new (o:=.tup (cs.map V.ref)) hy1
              have e14:(upd H13 y1 (.tup (cs.map V.ref))) y1=some (.tup (cs.map V.ref)):=upd_same
              generalize upd H13 y1 (.tup (cs.map V.ref))=H14 at s14 e14
              have s1014:Same H10 H14:=same_trans s11 (same_trans s12 (same_trans s13 s14))
              refine ⟨_,rfl,rl,_,rfl,.inl ⟨SqL.of (s1014 _ _ erl),fun y2 hy2=>?_⟩⟩
              have s15:=same_new (o:=.tup vs) hy2
              have e15:(upd H14 y2 (.tup vs)) y2=some (.tup vs):=upd_same
              generalize upd H14 y2 (.tup vs)=H15 at s15 e15
              refine ⟨_,rfl,(show 3≤sizeLine by decide),fun x hx3=>?_⟩
              have s16:=same_new (o:=.tup [V.ref y1,V.ref y2,V.ref y3]) hx3
              have e16:(upd H15 x (.tup [V.ref y1,V.ref y2,V.ref y3])) x=some (.tup [V.ref y1,V.ref y2,V.ref y3]):=upd_same
              generalize upd H15 x (.tup [V.ref y1,V.ref y2,V.ref y3])=H16 at s16 e16
              have s1416:=same_trans s15 s16
              have s716:Same H7 H16:=same_trans s713 (same_trans s14 s1416)
              have exd:=s716 _ _ sts.ob
              have lL:L.length≤12:=by
                have:=congrArg List.length eL
                rw [List.length_map,List.length_take] at this
                omega
              refine ⟨_,rfl,_,rfl,xd,_,rfl,DPut.k (k:=.inl h) exd (by rw [List.length_map]; exact small2k (by omega)),?_⟩
              have nL:h∉L.map (·.1):=by
                rw [eL]
                intro z
                obtain ⟨j,hj,e⟩:=List.mem_iff_getElem.mp z
                rw [List.length_take] at hj
                rw [List.getElem_take] at e
                have e3:=(List.getElem?_eq_some_iff.mp hx).2
                have:=(List.getElem_inj nh).mp (e.trans e3.symm)
                omega
              rw [putK_new _ (valK_none nL)]
              rw [show (L.map fun q=>((.inl q.1:Key),V.ref q.2.1))++[(.inl h,V.ref x)]=(L++[(h,x,(us,rws,rs'))]).map fun q=>((.inl q.1:Key),V.ref q.2.1) by rw [List.map_append]; rfl]
              have kt17:KeepT H16 (upd H16 xd (.dK ((L++[(h,x,((us,rws,rs'):HS))]).map fun q=>((.inl q.1:Key),V.ref q.2.1)))):=KeepT.upd fun o' e=>by
                rw [exd] at e; cases e; exact ⟨fun _ z=>(by cases z),fun _ _ z=>(by cases z)⟩
              refine ⟨_,_,_,_,_,_,_,_,L++[(h,x,(us,rws,rs'))],rfl,fun b' o' e=>?_,⟨upd_same,fun q hq=>?_⟩,?_,fun q hq=>?_⟩
              · rw [upd_ne (ne_of_none e hxd)]; exact s716 _ _ (s7 _ _ e)
              · rcases List.mem_append.mp hq with hq | hq
                · exact ((sts.st q hq).keep (KeepT.of_same s716)).keep kt17
                · rw [List.mem_singleton.mp hq]
                  refine StA.keep kt17 ⟨y1,y2,y3,cs,vs,ys,SqT.of e16,SqT.of (s1416 _ _ e14),ThsAt.keep (KeepT.of_same (same_trans s7 s716)) tu,SqT.of (s16 _ _ e15),paired_mono (fun _ _ r=>r.keep (KeepT.of_same (same_trans s1014 s1416))) prw,SqT.of (s1416 _ _ (s14 _ _ e13)),paired_mono (fun _ _ r=>r.keep (KeepT.of_same (same_trans s13 (same_trans s14 s1416)))) pr2⟩
              · rw [List.map_append,eL,List.take_add_one,hx]; rfl
              · rcases List.mem_append.mp hq with hq | hq
                · exact pr q hq
                · rw [List.mem_singleton.mp hq]
                  exact ⟨erw,zu,zrw,zr'⟩
      · rintro σ H7 ⟨v9,v10,v11,v13,v14,v15,v16,v17,L,rfl,s7,sts,eL,pr⟩
        rw [List.length_map,List.take_length] at eL
        refine ⟨_,rfl,k xd L H7 nx0 (same_trans s05 s7) sts ⟨by rw [eL]; exact nh,?_,fun q hq r hr=>?_,fun q hq=>?_,?_,fun q hq=>(pr q hq).2.1,fun q hq=>(pr q hq).2.2.1,fun q hq=>(pr q hq).2.2.2⟩ eL⟩
        · have:=congrArg List.length eL
          rw [List.length_map] at this
          omega
        · have m:r.1∈q.2.2.2.1.map (·.1):=List.mem_map.mpr ⟨r,hr,rfl⟩
          rw [(pr q hq).1] at m
          have:=(List.mem_filter.mp m).2
          simpa using this
        · rw [(pr q hq).1]
          exact nso.filter _
        · have e1:(rowsOf (L.map (·.2.2))).length=((hs.map fun h=>(so.filter fun t=>decide (t.1=h)).length).sum):=by
            rw [← eL]
            unfold rowsOf
            rw [List.length_flatMap,List.map_map,List.map_map]
            congr 1
            refine List.map_congr_left fun q hq=>?_
            have:=congrArg List.length (pr q hq).1
            rw [List.length_map] at this
            exact this
          rw [e1]
          have:=sum_filter hs so nh
          omega
end
end K32
namespace K32
open PySem L2 FX
set_option linter.all false
section
variable {P:Program} {w:World} {K:PySem.W.Frag} {mg:Str→Option Value} {base:Heap}
theorem hand_in {H:Hp} {d t:Addr} {l:List T2} {th:T2} (hd:H d=some (dHand l)) (ht:H t=some (.tup (tv th))):DGet H d (.ref t) (if th∈l then some (V.bl true) else none):=by
  have:=DGet.t (k:=tk th) hd ht
  rw [valV_hand] at this
  exact this
theorem ref_get {H:Hp} {d t:Addr} {l:HL} {th:T2} {q:T2×Addr×List T2} (hd:H d=some (dRef l)) (ht:H t=some (.tup (tv th))) (f:l.find? (fun q=>decide (q.1=th))=some q):DGet H d (.ref t) (some (.ref q.2.1)):=by
  have:=DGet.t (k:=tk th) hd ht
  rw [valV_tk (k:=fun q:T2×Addr×List T2=>q.1) (f:=fun q=>V.ref q.2.1),f] at this
  exact this
def HeldT (K:PySem.W.Frag) (H:Hp) (hl:HL):Prop:=∀ q∈hl,∃ cs:List Addr,SqT K H q.2.1 (cs.map V.ref)∧ThsAt H cs q.2.2
theorem HeldT.keep {K:PySem.W.Frag} {H H':Hp} (k:KeepT H H') {hl:HL} (h:HeldT K H hl):HeldT K H' hl:=fun q hq=>let ⟨cs,e,th⟩:=h q hq; ⟨cs,k.sq e,ThsAt.keep k th⟩
def spReached (K:PySem.W.Frag):Sp:=fun vs H Q _=>∃ (sa l:Addr) (as:List Addr) (ts:List T2) (hl:HL) (n:Nat) (R:List T2),vs=[.ref sa,.ref l]∧H sa=some (.lst (as.map V.ref))∧ThsAt H as ts∧ts.length≤400∧H l=some (dRef hl)∧hl.length≤400 ∧
  HeldT K H hl∧(∀ q∈hl,q.2.2.length≤400)∧Rch (nxT hl) n (ts.filter fun t=>decide (t∈hl.map (·.1))) [] R∧n≤400∧∀ (x:Addr) (H':Hp),H x=none→Same H H'→H' x=some (dHand R)→Q (.ref x) H'
theorem scR:FnScope ["starts","holds","found","thing","ahead"] ["starts","holds"] (defScope sReached):=⟨rfl,rfl,rfl,by decide +kernel,rfl,by decide +kernel,by decide +kernel⟩
theorem ok_reached {f:Addr} {fd:FuncData} (F:Fun K "reached" "reached" sReached f fd):FnOk P w K mg base CX0 1 f fd ["starts","holds"] (spReached K):=by
  refine F.ok scR (fun vs H Q E h=>?_) (fun cdv A outer s H vs Q E hr h=>?_)
  · obtain ⟨sa,l,as,ts,hl,n,R,rfl,_⟩:=h
    rfl
  · obtain ⟨sa,l,as,ts,hl,n,R,rfl,es,th,zt,el,zl,hq,hz,rch,zn,k⟩:=h
    have hu:=hu_of hr
    refine ⟨_,pss_cons (ps_set (i:=2) scR.nd rfl (Or.inl rfl) pe_dnewT)
      (pss_cons (ps_comp (te:=tVar 0) (i:=4) (caps:=[("holds",1)]) scR.nd rfl rfl rfl rfl (pi_list (pv 0))
          rfl (by decide +kernel) rfl (by decide +kernel) rfl ⟨rfl,trivial⟩ (fun y h=>has3 ⟨_,rfl⟩ h) ⟨⟨rfl,rfl,rfl,rfl⟩,trivial⟩ (by decide +kernel) (fun _ _ _ _ _=>pts_one (pt_cmp (pc_din hu (pv 0) (pv 1)))) (fun _ _ _ _ _=>pv 0))
      (pss_cons (ps_while PassesOwn.never (pt_truth (pv 4) (fun _=>rfl))
          (pss_cons (ps_set (i:=3) scR.nd rfl (Or.inl rfl) (pe_bm0 PySem.F.plainAttrs_list PySem.F.slot_list_pop PySem.F.type_list_pop mt_pop (pv 4)))
          (pss_one (ps_if (pt_cmp (pc_dnotin hu (pv 3) (pv 2)))
            (pss_cons (ps_dput hu (pv 2) (pv 3) pe_bl rfl)
            (pss_one (ps_expr (pe_bm PySem.F.plainAttrs_list PySem.F.slot_list_extend PySem.F.type_list_extend mt_extend (pv 4) (pa_cons (pe_comp (te:=tVar 0) (caps:=[("holds",1)]) rfl (pi_tup (pe_dget hu (pv 1) (pv 3) (fun _ _=>rfl)))
              rfl (by decide +kernel) rfl (by decide +kernel) rfl ⟨rfl,trivial⟩ (fun y h=>has3 ⟨_,rfl⟩ h) ⟨⟨rfl,rfl,rfl,rfl⟩,trivial⟩ (by decide +kernel) (fun _ _ _ _ _=>pts_one (pt_cmp (pc_din hu (pv 0) (pv 1)))) (fun _ _ _ _ _=>pv 0)) pa_nil))))) pss_nil))))
      (pss_one (ps_ret (pv 2))))),?_⟩
    intro fa hfa
    have s1:=same_new (o:=.dT []) hfa
    have e1:(upd H fa (.dT [])) fa=some (dHand []):=upd_same
    generalize upd H fa (.dT [])=H1 at s1 e1
    have th1:ThsAt H1 as ts:=ThsAt.keep (KeepT.of_same s1) th
    refine ⟨_,rfl,sa,rfl,⟨_,SqL.of (s1 _ _ es)⟩,fun aa haa=>?_⟩
    refine filt_list (b:=fun t=>decide (t∈hl.map (·.1))) (caps:=[("holds",1)]) haa (by lia) (s1 _ _ es) th1 (fun H2 a t Q' sm ha ht q=>?_) fun H2 bs sm ea tb=>?_
    · obtain ⟨o,g,eo⟩:=key_in (k:=fun q:T2×Addr×List T2=>q.1) (f:=fun q=>V.ref q.2.1) (.inl (sm _ _ (s1 _ _ el))) ha
      refine ⟨_,rfl,_,rfl,l,o,rfl,g,?_⟩
      rw [eo]
      exact ⟨_,rfl,q⟩
    have naa:H aa=none:=by
      cases c:H aa with
      | none=>rfl
      | some o=>rw [s1 _ _ c] at haa; cases haa
    have nfa:fa≠aa:=fun z=>by rw [← z,e1] at haa; cases haa
    refine ⟨fun m σ H'=>∃ (ahead found:List T2) (as':List Addr) (u3:Option V),σ=[some (.ref sa),some (.ref l),some (.ref fa),u3,some (.ref aa)]∧Same H H'∧H' fa=some (dHand found)∧H' aa=some (.lst (as'.map V.ref))∧ThsAt H' as' ahead∧Rch (nxT hl) m ahead found R∧found.length + m≤400∧∀ t∈ahead,t∈hl.map (·.1),
      ⟨n,_,[],bs,_,rfl,same_trans s1 sm,sm _ _ e1,ea,tb,rch,by simpa using zn,fun t ht=>by have:=(List.mem_filter.mp ht).2; simpa using this⟩,?_⟩
    rintro m σ H' ⟨ahead,found,as',u3,rfl,sh,ef,ea',tha,rc,zm,hk⟩
    refine ⟨_,rfl,_,.inl ⟨_,SqL.of ea',rfl⟩,?_⟩
    cases m with
    | zero =>
      obtain ⟨e0,eR⟩:=rc
      rw [e0] at tha
      have e2:as'=[]:=List.length_eq_zero_iff.mp (Paired.length tha)
      rw [e2]
      refine iteF ⟨_,rfl,k fa H' hfa sh ?_⟩
      rw [eR]; exact ef
    | succ m =>
      have zl1:=rc.len
      obtain ⟨a,t,ea0,rc⟩:=rc
      rw [ea0] at tha zl1
      obtain ⟨bs',c,e2,thb,ec⟩:=ths_last tha
      subst e2
      have em:(bs'++[c]).map V.ref=bs'.map V.ref++[V.ref c]:=by rw [List.map_append]; rfl
      rw [em] at ea' ⊢
      rw [show (!(bs'.map V.ref++[V.ref c]).isEmpty)=true by cases bs' <;> rfl]
      refine iteT ⟨_,fun σ' H' h=>⟨m,Nat.lt_succ_self m,h⟩,?_⟩
      refine ⟨_,rfl,.inl ⟨rfl,_,SqL.of ea'⟩,aa,_,_,rfl,rfl,ea',last_at _ _,?_⟩
      rw [show (bs'.map V.ref++[V.ref c]).dropLast=bs'.map V.ref by simp]
      have s3:Same H (upd H' aa (.lst (bs'.map V.ref))):=fun b o e=>by rw [upd_ne (ne_of_none e naa)]; exact sh _ _ e
      have kt3:KeepT H' (upd H' aa (.lst (bs'.map V.ref))):=KeepT.upd fun o' e=>by
        rw [ea'] at e; cases e; exact ⟨fun _ z=>(by cases z),fun _ _ z=>(by cases z)⟩
      have ef3:(upd H' aa (.lst (bs'.map V.ref))) fa=some (dHand found):=by rw [upd_ne nfa]; exact ef
      have ea3:(upd H' aa (.lst (bs'.map V.ref))) aa=some (.lst (bs'.map V.ref)):=upd_same
      have thb3:ThsAt (upd H' aa (.lst (bs'.map V.ref))) bs' a:=ThsAt.keep kt3 thb
      have ec3:=kt3.tup _ _ ec
      generalize upd H' aa (.lst (bs'.map V.ref))=H3 at s3 kt3 ef3 ea3 thb3 ec3
      refine ⟨_,rfl,_,rfl,fa,_,rfl,hand_in ef3 ec3,_,rfl,?_⟩
      rcases rc with ⟨hf,rc⟩ | ⟨hf,rc⟩
      · rw [if_pos hf]
        exact iteF ⟨a,found,bs',_,rfl,s3,ef3,ea3,thb3,rc,by lia,fun u hu=>hk u (by rw [ea0]; exact List.mem_append_left _ hu)⟩
      · rw [if_neg hf]
        refine iteT ⟨_,rfl,_,rfl,fa,_,rfl,DPut.t (k:=tk t) ef3 ec3 (by rw [List.length_map]; exact small2k (by lia)),?_⟩
        rw [putK_hand,show addT found t=found++[t] by unfold addT; rw [if_neg hf]]
        have s4:Same H (upd H3 fa (dHand (found++[t]))):=fun b o e=>by rw [upd_ne (ne_of_none e hfa)]; exact s3 _ _ e
        have kt4:KeepT H3 (upd H3 fa (dHand (found++[t]))):=KeepT.upd fun o' e=>by
          rw [ef3] at e; cases e; exact ⟨fun _ z=>(by cases z),fun _ _ z=>(by cases z)⟩
        have ef4:(upd H3 fa (dHand (found++[t]))) fa=some (dHand (found++[t])):=upd_same
        have ea4:(upd H3 fa (dHand (found++[t]))) aa=some (.lst (bs'.map V.ref)):=by rw [upd_ne nfa.symm]; exact ea3
        have thb4:ThsAt (upd H3 fa (dHand (found++[t]))) bs' a:=ThsAt.keep kt4 thb3
        have ec4:=kt4.tup _ _ ec3
        rw [show HO.dT ((found++[t]).map fun q=>(tk q,V.bl true))=dHand (found++[t]) from rfl]
        generalize upd H3 fa (dHand (found++[t]))=H4 at s4 kt4 ef4 ea4 thb4 ec4
        have tin:t∈hl.map (·.1):=hk t (by rw [ea0]; exact List.mem_append_right _ (by simp))
        obtain ⟨ad,fd'⟩:=find_of tin
        have mq:=List.mem_of_find?_eq_some fd'
        obtain ⟨cs,q1,q2⟩:=hq _ mq
        have q1:SqT K H ad (cs.map V.ref):=q1
        have q2:ThsAt H cs (getH hl t):=q2
        have q3:(getH hl t).length≤400:=hz _ mq
        refine ⟨_,rfl,.inl ⟨rfl,_,SqL.of ea4⟩,_,rfl,_,rfl,l,_,rfl,ref_get (s4 _ _ el) ec4 fd',ad,rfl,⟨_,(KeepT.of_same s4).sq q1⟩,fun pl hpl=>?_⟩
        refine filt_tup (K:=K) (b:=fun u=>decide (u∈hl.map (·.1))) (caps:=[("holds",1)]) hpl (by lia) ((KeepT.of_same s4).sq q1) (ThsAt.keep (KeepT.of_same s4) q2) (fun H2 a' u Q' sm' ha hu' q=>?_) fun H6 bs2 s6 ep6 th6=>?_
        · obtain ⟨o,g,eo⟩:=key_in (k:=fun q:T2×Addr×List T2=>q.1) (f:=fun q=>V.ref q.2.1) (.inl (sm' l (dRef hl) (s4 _ _ el))) ha
          refine ⟨_,rfl,_,rfl,l,o,rfl,g,?_⟩
          rw [eo]
          exact ⟨_,rfl,q⟩
        · have th6:ThsAt H6 bs2 (nxT hl t):=th6
          have zz:=rc.len
          rw [List.length_append] at zz
          have l1:=Paired.length thb4
          have l2:=Paired.length th6
          refine ⟨aa,pl,_,_,rfl,rfl,s6 _ _ ea4,ep6,Nat.le_of_lt (small2k (by rw [List.length_map,List.length_map]; lia)),?_⟩
          rw [← List.map_append]
          have kt7:KeepT H6 (upd H6 aa (.lst ((bs'++bs2).map V.ref))):=KeepT.upd fun o' e=>by
            rw [s6 _ _ ea4] at e; cases e; exact ⟨fun _ z=>(by cases z),fun _ _ z=>(by cases z)⟩
          refine ⟨a++nxT hl t,found++[t],bs'++bs2,_,rfl,fun b o e=>?_,?_,upd_same,ThsAt.keep kt7 (ths_app (ThsAt.keep (KeepT.of_same s6) thb4) th6),rc,?_,fun u hu=>?_⟩
          · rw [upd_ne (ne_of_none e naa)]; exact s6 _ _ (s4 _ _ e)
          · rw [upd_ne nfa]; exact s6 _ _ ef4
          · rw [List.length_append]; show found.length + 1 + m≤400; lia
          · rcases List.mem_append.mp hu with hu | hu
            · exact hk u (by rw [ea0]; exact List.mem_append_left _ hu)
            · have:=(List.mem_filter.mp hu).2; simpa using this
end
end K32
namespace K32
open PySem L2 FX
set_option linter.all false
theorem getW_val (a:List (T2×Int)) (t:T2):((valV (a.map fun q=>(tk q.1,V.int q.2)) (tk t)).getD (.int 0))=.int (getW a t):=by
  rw [valV_tk (k:=fun q:T2×Int=>q.1) (f:=fun q=>V.int q.2)]
  unfold getW
  cases a.find? fun q=>decide (q.1=t) with
  | none=>rfl
  | some r=>rfl
theorem addW_len (a:List (T2×Int)) (q:T2×Int):(addW a q).length≤a.length + 1:=by
  have lp:=length_putK (a.map fun q=>(tk q.1,V.int q.2)) (tk q.1) (.int (getW a q.1 + q.2))
  rw [putK_int,List.length_map,List.length_map] at lp
  exact lp
theorem foldW_len:∀ (l a:List (T2×Int)),(l.foldl addW a).length≤a.length + l.length
  | [],a=>Nat.le_refl _
  | q :: l,a=>by
    have h1:=foldW_len l (addW a q)
    have h2:=addW_len a q
    show (l.foldl addW (addW a q)).length≤_
    simp only [List.length_cons]
    omega
abbrev sts (L:List (Int×Addr×HS)):List HS:=L.map (·.2.2)
theorem StsAt.kvs {K:PySem.W.Frag} {H:Hp} {d:Addr} {L:List (Int×Addr×HS)} {i:Nat} {k:Key} {v:V} (h:(L.map fun q=>((.inl q.1:Key),V.ref q.2.1))[i]?=some (k,v)):∃ q,L[i]?=some q∧v=.ref q.2.1:=by
  rw [List.getElem?_map] at h
  cases e:L[i]? with
  | none=>rw [e] at h; cases h
  | some q =>
    rw [e] at h
    have h:((.inl q.1:Key),V.ref q.2.1)=(k,v):=Option.some.inj h
    exact ⟨q,rfl,(Prod.mk.inj h).2.symm⟩
section
variable {P:Program} {w:World} {K:PySem.W.Frag} {mg:Str→Option Value} {base:Heap}
theorem scRd:FnScope ["states","weights","state","thing","weight"] ["states"] (defScope sRecorded):=⟨rfl,rfl,rfl,by decide +kernel,rfl,by decide +kernel,by decide +kernel⟩
def spRecorded (K:PySem.W.Frag):Sp:=fun vs H Q _=>∃ (d:Addr) (L:List (Int×Addr×HS)),vs=[.ref d]∧StsAt K H d L∧((sts L).flatMap (·.2.2)).length≤1200 ∧
  ∀ (r:Addr) (H':Hp),H r=none→Same H H'→H' r=some (dInt (sumsOf (sts L)))→Q (.ref r) H'
theorem ok_recorded {f:Addr} {fd:FuncData} (F:Fun K "recorded" "recorded" sRecorded f fd):FnOk P w K mg base CX0 1 f fd ["states"] (spRecorded K):=by
  refine F.ok scRd (fun vs H Q E h=>?_) (fun cdv A outer s H vs Q E hr h=>?_)
  · obtain ⟨d,L,rfl,_⟩:=h
    rfl
  · obtain ⟨d,L,rfl,S,zl,k⟩:=h
    have hu:=hu_of hr
    refine ⟨_,pss_cons (ps_set (i:=1) scRd.nd rfl (Or.inl rfl) pe_dnewT)
      (pss_cons (ps_for PassesOwn.never rfl (pi_values (pe_bm0 PySem.F.plainAttrs_dict PySem.F.slot_dict_values PySem.F.type_dict_values mt_values (pv 0))) (pg_name (i:=2) scRd.nd rfl (Or.inl rfl))
        (pss_one (ps_for PassesOwn.never rfl (pi_tup (pe_ix ix_tup (pv 2) pe_int (fun _ _=>rfl))) (pg_tup rfl (pgs_cons (pg_name (i:=3) scRd.nd rfl (Or.inl rfl)) (pgs_cons (pg_name (i:=4) scRd.nd rfl (Or.inl rfl)) pgs_nil)))
          (pss_one (ps_dput hu (pv 1) (pv 3) (pe_op op_add (pe_dget2 hu (pv 1) (pv 3) pe_int ⟨rfl,rfl,rfl,rfl⟩) (pv 4)) rfl)))))
      (PSs.thaw (pss_one (ps_ret (pv 1))))),?_⟩
    intro r hr0
    have s1:=same_new (o:=.dT []) hr0
    have e1:(upd H r (.dT [])) r=some (dInt []):=upd_same
    generalize upd H r (.dT [])=H1 at s1 e1
    have ed1:=s1 _ _ S.ob
    refine ⟨_,rfl,.inr (.inr (.inl ⟨rfl,.inl ⟨_,ed1⟩⟩)),d,_,rfl,rfl,ed1,fun p hp=>?_⟩
    have s2:=same_new (o:=viewO p d) hp
    have e2:(upd H1 p (viewO p d)) p=some (viewO p d):=upd_same
    generalize upd H1 p (viewO p d)=H2 at s2 e2
    have ed2:=s2 _ _ ed1
    have er2:=s2 _ _ e1
    have ndr:r≠d:=fun z=>by rw [z,S.ob] at hr0; cases hr0
    refine ⟨p,d,_,rfl,e2,ed2,fun o=>?_⟩
    have kd:∀ {H':Hp} {u:HO},H' d=some (.dK (L.map fun q=>((.inl q.1:Key),V.ref q.2.1)))→KeepT H' (upd H' d u):=fun {H'} {u} e=>KeepT.upd fun o' e'=>by
      rw [e] at e'; cases e'; exact ⟨fun _ z=>(by cases z),fun _ _ z=>(by cases z)⟩
    refine for_values (d:=d) (ob:=o) (fun i σ H'=>∃ (u2 u3 u4:Option V),σ=[some (.ref d),some (.ref r),u2,u3,u4]∧H' d=some (.frz o (.dK (L.map fun q=>((.inl q.1:Key),V.ref q.2.1))))∧H' r=some (dInt (((sts (L.take i)).flatMap (·.2.2)).foldl addW []))∧KeepT H2 H'∧∀ b ob,H b=some ob→b≠d→H' b=some ob)
      ⟨_,_,_,rfl,upd_same,by rw [upd_ne ndr]; exact er2,kd ed2,fun b ob e n=>by rw [upd_ne n]; exact s2 _ _ (s1 _ _ e)⟩ (fun i σ H' _ ⟨_,_,_,_,e,_⟩=>e) ?_ ?_
    · rintro i kk v σ H3 hi ⟨u2,u3,u4,rfl,ef,er,kt,fr⟩
      obtain ⟨q,eq,rfl⟩:=StsAt.kvs (K:=K) (H:=H) (d:=d) hi
      have mq:=List.mem_of_getElem? eq
      have hi':=(List.getElem?_eq_some_iff.mp eq).1
      have st3:=((S.st q mq).keep ((KeepT.of_same s1).trans (KeepT.of_same s2))).keep kt
      obtain ⟨y1,y2,y3,as,bs,ds,f0,f1,t1,f2,t2,f3,t3⟩:=st3
      refine ⟨_,rfl,q.2.1,_,2,V.ref y3,rfl,rfl,f0,rfl,y3,rfl,⟨_,f3⟩,?_⟩
      have tk1:L.take (i + 1)=L.take i++[q]:=by rw [List.take_add_one,eq]; rfl
      have lT:((sts (L.take i)).flatMap (·.2.2)).length + q.2.2.2.2.length≤1200:=by
        have e5:sts L=sts (L.take (i + 1))++sts (L.drop (i + 1)):=by rw [← List.map_append,List.take_append_drop]
        rw [e5,List.flatMap_append,List.length_append,tk1] at zl
        rw [show sts (L.take i++[q])=sts (L.take i)++[q.2.2] by unfold sts; rw [List.map_append]; rfl,List.flatMap_append,List.length_append] at zl
        simp only [List.flatMap_cons,List.flatMap_nil,List.append_nil] at zl
        omega
      refine for_tup (K:=K) (a:=y3) (xs:=ds) (fun j σ H'=>∃ (w3 w4:Option V),σ=[some (.ref d),some (.ref r),some (.ref q.2.1),w3,w4]∧H' d=some (.frz o (.dK (L.map fun q=>((.inl q.1:Key),V.ref q.2.1))))∧H' r=some (dInt ((((sts (L.take i)).flatMap (·.2.2))++q.2.2.2.2.take j).foldl addW []))∧KeepT H2 H'∧KeepT H3 H'∧∀ b ob,H b=some ob→b≠d→H' b=some ob)
        ⟨_,_,rfl,ef,by rw [List.take_zero,List.append_nil]; exact er,kt,KeepT.refl _,fr⟩ (fun j σ H' _ ⟨_,_,_,_,_,_,k3,_⟩=>k3.sq f3) ?_ ?_
      · rintro j v σ H4 hj ⟨w3,w4,rfl,ef4,er4,kt4,k34,fr4⟩
        obtain ⟨x,ex⟩:=get_of_lt (xs:=q.2.2.2.2) (j:=j) (by rw [← Paired.length t3]; exact (List.getElem?_eq_some_iff.mp hj).1)
        obtain ⟨a,t,rfl,g1,g2⟩:=(paired_get t3 j v x hj ex).keep k34
        have hj':=(List.getElem?_eq_some_iff.mp ex).1
        refine ⟨a,_,rfl,g1,rfl,_,_,rfl,_,_,rfl,rfl,?_⟩
        refine ⟨_,rfl,r,rfl,.inr ⟨_,.inl er4⟩,_,rfl,_,DGet.t (k:=tk x.1) er4 g2,_,rfl,_,x.2,getW_val _ _,rfl,_,rfl,_,rfl,r,_,rfl,DPut.t (k:=tk x.1) er4 g2 (by
          rw [List.length_map]
          have:=foldW_len (((sts (L.take i)).flatMap (·.2.2))++q.2.2.2.2.take j) []
          rw [List.length_append,List.length_take] at this
          simp only [List.length_nil] at this
          exact small2k (by omega)),?_⟩
        rw [show ((fun (i j:Int)=>V.int (i + j)) (getW ((((sts (L.take i)).flatMap (·.2.2))++q.2.2.2.2.take j).foldl addW []) x.1) x.2)=V.int (getW ((((sts (L.take i)).flatMap (·.2.2))++q.2.2.2.2.take j).foldl addW []) x.1 + x.2) from rfl,putK_int]
        have kt5:∀ u:HO,KeepT H4 (upd H4 r u):=fun u=>KeepT.upd fun o' e=>by
          rw [er4] at e; cases e; exact ⟨fun _ z=>(by cases z),fun _ _ z=>(by cases z)⟩
        refine ⟨_,_,rfl,by rw [upd_ne (Ne.symm ndr)]; exact ef4,?_,kt4.trans (kt5 _),k34.trans (kt5 _),fun b ob e n=>by rw [upd_ne (ne_of_none e hr0)]; exact fr4 _ _ e n⟩
        have e7:∀ l:List (T2×Int),(l++[x]).foldl addW []=addW (l.foldl addW []) x:=fun l=>by rw [List.foldl_append]; rfl
        have e8:(sts (L.take i)).flatMap (·.2.2)++q.2.2.2.2.take (j + 1)=((sts (L.take i)).flatMap (·.2.2)++q.2.2.2.2.take j)++[x]:=by rw [List.take_add_one,ex,← List.append_assoc]; rfl
        rw [e8,e7]
        exact upd_same
      · rintro σ H4 ⟨w3,w4,rfl,ef4,er4,kt4,k34,fr4⟩
        rw [Paired.length t3,List.take_length] at er4
        refine ⟨_,_,_,rfl,ef4,?_,kt4,fr4⟩
        rw [tk1,show sts (L.take i++[q])=sts (L.take i)++[q.2.2] by unfold sts; rw [List.map_append]; rfl,List.flatMap_append]
        simp only [List.flatMap_cons,List.flatMap_nil,List.append_nil]
        exact er4
    · rintro σ H3 ⟨u2,u3,u4,rfl,ef,er,kt,fr⟩
      rw [List.length_map,List.take_length] at er
      refine ⟨upd H3 d (.dK (L.map fun q=>((.inl q.1:Key),V.ref q.2.1))),⟨d,o,_,ef,fun ob v z=>?_,rfl⟩,?_⟩
      · have z:H d=some (.frz ob v):=z
        rw [S.ob] at z; cases z
      refine ⟨_,rfl,k r _ hr0 (fun b ob e=>?_) (by rw [upd_ne ndr]; exact er)⟩
      by_cases hb:b=d
      · rw [hb,upd_same]; rw [hb,S.ob] at e; exact e
      · rw [upd_ne hb]; exact fr b ob e hb
end
end K32
namespace K32
open PySem L2 FX
set_option linter.all false
structure Fine (L:List HS):Prop where
  nd:((rowsOf L).map (·.1)).Nodup
  rz:(rowsOf L).length≤40
  hz:(L.flatMap (·.1)).length≤100
  oz:∀ r∈rowsOf L,r.2.2.length≤3
  tz:(L.flatMap (·.2.2)).length≤1200
def startsOf (ws:List (T2×Int)) (L:List HS):List T2:=L.flatMap fun S=>S.1++((S.2.1.filter fun r=>!decide (r.2.1=getW ws r.1)).map (·.1))
theorem starts_len (ws:List (T2×Int)):∀ L:List HS,(startsOf ws L).length≤(L.flatMap (·.1)).length + (rowsOf L).length
  | []=>by simp [startsOf]
  | S :: L=>by
    have ih:=starts_len ws L
    have h:=List.length_filter_le (fun r:T2×Int×List T2=>!decide (r.2.1=getW ws r.1)) S.2.1
    unfold startsOf rowsOf at *
    simp only [List.flatMap_cons,List.length_append,List.length_map] at *
    omega
theorem mem_starts {ws:List (T2×Int)} {L:List HS} {t:T2}:t∈startsOf ws L↔(∃ S∈L,t∈S.1)∨∃ r∈rowsOf L,r.1=t∧r.2.1≠getW ws r.1:=by
  unfold startsOf rowsOf
  simp only [List.mem_flatMap,List.mem_append,List.mem_map,List.mem_filter]
  constructor
  · rintro ⟨S,hS,(h | ⟨r,⟨hr,c⟩,e⟩)⟩
    · exact .inl ⟨S,hS,h⟩
    · exact .inr ⟨r,⟨S,hS,hr⟩,e,by simpa using c⟩
  · rintro (⟨S,hS,h⟩ | ⟨r,⟨S,hS,hr⟩,e,c⟩)
    · exact ⟨S,hS,.inl h⟩
    · exact ⟨S,hS,.inr ⟨r,⟨hr,by simpa using c⟩,e⟩⟩
def Hold (hl:HL) (rows:List (T2×Int×List T2)):Prop:=hl.map (fun q=>(q.1,q.2.2))=rows.map fun r=>(r.1,r.2.2)
theorem Hold.keys {hl:HL} {rows:List (T2×Int×List T2)} (h:Hold hl rows):hl.map (·.1)=rows.map (·.1):=by
  have:=congrArg (List.map Prod.fst) h
  rw [List.map_map,List.map_map] at this
  exact this
theorem Hold.get {hl:HL} {rows:List (T2×Int×List T2)} (h:Hold hl rows) (nd:(rows.map (·.1)).Nodup) {r:T2×Int×List T2} (hr:r∈rows):getH hl r.1=r.2.2:=by
  have m:(r.1,r.2.2)∈hl.map fun q=>(q.1,q.2.2):=by rw [h]; exact List.mem_map.mpr ⟨r,hr,rfl⟩
  obtain ⟨q,hq,e⟩:=List.mem_map.mp m
  have e1:=(Prod.mk.inj e).1
  have e2:=(Prod.mk.inj e).2
  unfold getH
  rw [← e1,FX.find_self (k:=fun q:T2×Addr×List T2=>q.1) (by rw [h.keys]; exact nd) hq]
  exact e2
theorem led_iff {L:List HS} {hl:HL} {n:Nat} {R:List T2} (nd:((rowsOf L).map (·.1)).Nodup) (h:Hold hl (rowsOf L)) (rc:Rch (nxT hl) n ((startsOf (sumsOf L) L).filter fun t=>decide (t∈hl.map (·.1))) [] R) :
    ∀ t,t∈(rowsOf L).map (·.1)→(t∈R↔Led L t):=by
  have start:∀ t,t∈startsOf (sumsOf L) L→Led L t:=fun t ht=>by
    rcases mem_starts.mp ht with ⟨S,hS,m⟩ | ⟨r,hr,e,c⟩
    · exact .hand hS m
    · rw [← e]; exact .out hr c
  have row:∀ t,t∈hl.map (·.1)→∃ r∈rowsOf L,r.1=t:=fun t ht=>by
    rw [h.keys] at ht
    obtain ⟨r,hr,e⟩:=List.mem_map.mp ht
    exact ⟨r,hr,e⟩
  have cl:∀ t∈R,Led L t:=Rch.least (S:=fun t=>Led L t) (fun t lt u hu=>by
    have hu2:=List.mem_filter.mp hu
    by_cases c:t∈hl.map (·.1)
    · obtain ⟨r,hr,e⟩:=row t c
      subst e
      have hu1:=hu2.1
      rw [h.get nd hr] at hu1
      exact .step hr hu1 lt
    · exfalso
      have:getH hl t=[]:=by
        unfold getH
        rw [List.find?_eq_none.mpr fun q hq=>by
          have:q.1≠t:=fun z=>c (List.mem_map.mpr ⟨q,hq,z⟩)
          simpa using this]
        rfl
      rw [this] at hu2
      exact absurd hu2.1 (List.not_mem_nil)) rc (fun t ht=>by cases ht) fun t ht=>start t (List.mem_filter.mp ht).1
  have closed:=Rch.closed rc (fun t ht=>by cases ht)
  have sub:=(Rch.sub rc).2
  have back:∀ t,Led L t→t∈(rowsOf L).map (·.1)→t∈R:=fun t lt=>by
    induction lt with
    | hand hS m=>intro ht; exact sub _ (List.mem_filter.mpr ⟨mem_starts.mpr (.inl ⟨_,hS,m⟩),by rw [h.keys]; simpa using ht⟩)
    | out hr c=>intro ht; exact sub _ (List.mem_filter.mpr ⟨mem_starts.mpr (.inr ⟨_,hr,rfl,c⟩),by rw [h.keys]; simpa using ht⟩)
    | @step r u hr m _ ih =>
      intro ht
      refine closed _ (ih (List.mem_map.mpr ⟨_,hr,rfl⟩)) u (List.mem_filter.mpr ⟨by rw [h.get nd hr]; exact m,by rw [h.keys]; simpa using ht⟩)
  exact fun t ht=>⟨fun m=>cl t m,fun l=>back t l ht⟩
theorem reach_ex {L:List HS} (F:Fine L) {hl:HL} (h:Hold hl (rowsOf L)):∃ n R,n≤400∧Rch (nxT hl) n ((startsOf (sumsOf L) L).filter fun t=>decide (t∈hl.map (·.1))) [] R:=by
  have lk:(hl.map (·.1)).length≤40:=by rw [h.keys,List.length_map]; exact F.rz
  have ls:=starts_len (sumsOf L) L
  have l2:=List.length_filter_le (fun t=>decide (t∈hl.map (·.1))) (startsOf (sumsOf L) L)
  have sz:∀ t,(nxT hl t).length≤3:=fun t=>by
    refine Nat.le_trans (List.length_filter_le _ _) ?_
    by_cases c:t∈hl.map (·.1)
    · rw [h.keys] at c
      obtain ⟨r,hr,e⟩:=List.mem_map.mp c
      rw [← e,h.get F.nd hr]; exact F.oz r hr
    · have:getH hl t=[]:=by
        unfold getH
        rw [List.find?_eq_none.mpr fun q hq=>by
          have:q.1≠t:=fun z=>c (List.mem_map.mpr ⟨q,hq,z⟩)
          simpa using this]
        rfl
      rw [this]; simp
  have:=F.rz
  have:=F.hz
  obtain ⟨n,R,h1,h2⟩:=Rch.ex (nx:=nxT hl) (keys:=hl.map (·.1)) (B:=3) (nx_sub hl) sz 400 ((startsOf (sumsOf L) L).filter fun t=>decide (t∈hl.map (·.1))) [] (fun t ht=>by have:=(List.mem_filter.mp ht).2; simpa using this) (by
    have:((hl.map (·.1)).filter fun t=>decide (t∉([]:List T2))).length≤40:=Nat.le_trans (List.length_filter_le _ _) lk
    have:=Nat.mul_le_mul_right (3 + 1) this
    omega)
  exact ⟨n,R,by omega,h2⟩
end K32
namespace K32
open PySem L2 FX
set_option linter.all false
section
variable {P:Program} {w:World} {K:PySem.W.Frag} {mg:Str→Option Value} {base:Heap}
theorem scUn:FnScope ["states","weights","holds","starts","state","thing","out","held","kept"] ["states"] (defScope sUnreached):=⟨rfl,rfl,rfl,by decide +kernel,rfl,by decide +kernel,by decide +kernel⟩
def spUnreached (K:PySem.W.Frag):Sp:=fun vs H Q _=>∃ (d:Addr) (L:List (Int×Addr×HS)),vs=[.ref d]∧StsAt K H d L∧Fine (sts L) ∧
  ∀ (x:Addr) (as:List Addr) (ts:List T2) (H':Hp),Same H H'→H' x=some (.tup (as.map V.ref))→ThsAt H' as ts→Found (sts L) ts→Q (.ref x) H'
theorem Hold.snoc {hl:HL} {rows:List (T2×Int×List T2)} (h:Hold hl rows) (r:T2×Int×List T2) (a:Addr):Hold (hl++[(r.1,a,r.2.2)]) (rows++[r]):=by
  unfold Hold at *
  rw [List.map_append,List.map_append,h]; rfl
theorem ok_unreached {f fR fD:Addr} {fd dR dD:FuncData} (F:Fun K "unreached" "unreached" sUnreached f fd) (T:Txt mg) (MR:Gdf K mg "reached" sReached ["starts","holds"] fR dR) (MD:Gdf K mg "recorded" sRecorded ["states"] fD dD):FnOk P w K mg base CX0 2 f fd ["states"] (spUnreached K):=by
  have GR:FnOk P w K mg base CX0 1 fR dR ["starts","holds"] (spReached K):=ok_reached MR.fn
  have GD:FnOk P w K mg base CX0 1 fD dD ["states"] (spRecorded K):=ok_recorded MD.fn
  refine F.ok scUn (fun vs H Q E h=>?_) (fun cdv A outer s H vs Q E hr h=>?_)
  · obtain ⟨d,L,rfl,_⟩:=h
    rfl
  · obtain ⟨d,L,rfl,S,fi,k⟩:=h
    have hu:=hu_of hr
    have hr1:Room 1 _:=hr.mono (by decide)
    refine ⟨_,pss_cons (ps_set (i:=1) scUn.nd rfl (Or.inl rfl) (pe_call GD hr1 (by rfl) MD.mg MD.fn.kp MD.bd .nil pass0 (pa_cons (pv 0) pa_nil)))
      (pss_cons (ps_set (i:=2) scUn.nd rfl (Or.inl rfl) pe_dnewT)
      (pss_cons (ps_set (i:=3) scUn.nd rfl (Or.inl rfl) (pe_lst pa_nil))
      (pss_cons (ps_for PassesOwn.never rfl (pi_values (pe_bm0 PySem.F.plainAttrs_dict PySem.F.slot_dict_values PySem.F.type_dict_values mt_values (pv 0))) (pg_name (i:=4) scUn.nd rfl (Or.inl rfl))
        (pss_cons (ps_expr (pe_bm PySem.F.plainAttrs_list PySem.F.slot_list_extend PySem.F.type_list_extend mt_extendS (pv 3) (pa_cons (pe_ix ix_tup (pv 4) pe_int (fun _ _=>rfl)) pa_nil)))
        (pss_one (ps_for PassesOwn.never rfl (pi_tup (pe_ix ix_tup (pv 4) pe_int (fun _ _=>rfl))) (pg_tup rfl (pgs_cons (pg_name (i:=5) scUn.nd rfl (Or.inl rfl)) (pgs_cons (pg_name (i:=6) scUn.nd rfl (Or.inl rfl)) (pgs_cons (pg_name (i:=7) scUn.nd rfl (Or.inl rfl)) pgs_nil))))
          (pss_cons (ps_dput hu (pv 2) (pv 5) (pv 7) rfl)
          (pss_one (ps_if (pt_cmpR op_ne (pv 6) (pe_dget2 hu (pv 1) (pv 5) pe_int ⟨rfl,rfl,rfl,rfl⟩) (nomark _)) (pss_one (ps_expr (pe_bm PySem.F.plainAttrs_list PySem.F.slot_list_append PySem.F.type_list_append mt_append (pv 3) (pa_cons (pv 5) pa_nil)))) pss_nil)))))))
      (PSs.thaw (pss_cons (ps_set (i:=8) scUn.nd rfl (Or.inr rfl) (pe_call GR hr1 (by rfl) MR.mg MR.fn.kp MR.bd .nil pass0 (pa_cons (pv 3) (pa_cons (pv 2) pa_nil))))
      (pss_one (ps_ret (pe_callTy call_tuple_of (by rfl) T.tuple PyProof.Rows.boot_tuple (pa_cons (pe_comp (te:=tVar 0) (caps:=[("kept",8)]) rfl (pi_list (pe_callB (call_sorted_things rfl) (by rfl) T.sorted PyProof.Rows.boot_sorted (pa_cons (pv 2) pa_nil)))
          rfl (by decide +kernel) rfl (by decide +kernel) rfl ⟨rfl,trivial⟩ (fun y h=>has3 ⟨_,rfl⟩ h) ⟨⟨rfl,rfl,rfl,rfl⟩,trivial⟩ (by decide +kernel) (fun _ _ _ _ _=>pts_one (pt_cmp (pc_dnotin hu (pv 0) (pv 1)))) (fun _ _ _ _ _=>pv 0)) pa_nil))))))))),?_⟩
    refine ⟨_,rfl,d,L,rfl,S,fi.tz,fun ws H1 hws s1 ew=>?_⟩
    intro hd hhd
    have s2:=same_new (o:=.dT []) hhd
    have e2:(upd H1 hd (.dT [])) hd=some (dRef []):=upd_same
    generalize upd H1 hd (.dT [])=H2 at s2 e2
    refine ⟨by decide,fun sl hsl=>?_⟩
    have s3:=same_new (o:=.lst []) hsl
    have e3:(upd H2 sl (.lst [])) sl=some (.lst []):=upd_same
    generalize upd H2 sl (.lst [])=H3 at s3 e3
    have s03:=same_trans s1 (same_trans s2 s3)
    have ew3:=s3 _ _ (s2 _ _ ew)
    have eh3:=s3 _ _ e2
    have nh0:H hd=none:=same_free s1 hhd
    have ns0:H sl=none:=same_free s1 (same_free s2 hsl)
    have nwh:ws≠hd:=ne_of_none ew hhd
    have nws:ws≠sl:=ne_of_none (s2 _ _ ew) hsl
    have nhs:hd≠sl:=ne_of_none e2 hsl
    have ed3:=s03 _ _ S.ob
    have ndh:hd≠d:=fun z=>by rw [z,S.ob] at nh0; cases nh0
    have nds:sl≠d:=fun z=>by rw [z,S.ob] at ns0; cases ns0
    have ndw:ws≠d:=fun z=>by rw [z,S.ob] at hws; cases hws
    refine ⟨_,rfl,.inr (.inr (.inl ⟨rfl,.inl ⟨_,ed3⟩⟩)),d,_,rfl,rfl,ed3,fun p hp=>?_⟩
    have s4:=same_new (o:=viewO p d) hp
    have e4:(upd H3 p (viewO p d)) p=some (viewO p d):=upd_same
    generalize upd H3 p (viewO p d)=H4 at s4 e4
    have ed4:=s4 _ _ ed3
    refine ⟨p,d,_,rfl,e4,ed4,fun o=>?_⟩
    have rowsT:∀ i,rowsOf (sts (L.take i))=(sts (L.take i)).flatMap (·.2.1):=fun i=>rfl
    have stT:∀ {i:Nat} {q:Int×Addr×HS},L[i]?=some q→sts (L.take (i + 1))=sts (L.take i)++[q.2.2]:=fun {i q} eq=>by
      rw [List.take_add_one,eq]
      show List.map _ (L.take i++[q])=_
      rw [List.map_append]; rfl
    refine for_values (d:=d) (ob:=o) (fun i σ H'=>∃ (u4 u5 u6 u7:Option V) (hl:HL) (as:List Addr),σ=[some (.ref d),some (.ref ws),some (.ref hd),some (.ref sl),u4,u5,u6,u7,none]∧H' d=some (.frz o (.dK (L.map fun q=>((.inl q.1:Key),V.ref q.2.1))))∧H' ws=some (dInt (sumsOf (sts L)))∧H' hd=some (dRef hl)∧Hold hl (rowsOf (sts (L.take i)))∧HeldT K H' hl∧H' sl=some (.lst (as.map V.ref))∧ThsAt H' as (startsOf (sumsOf (sts L)) (sts (L.take i)))∧KeepT H4 H'∧∀ b ob,H b=some ob→b≠d→H' b=some ob)
      ⟨_,_,_,_,[],[],rfl,upd_same,by rw [upd_ne ndw]; exact s4 _ _ ew3,by rw [upd_ne ndh]; exact s4 _ _ eh3,rfl,(fun q hq=>by cases hq),by rw [upd_ne nds]; exact s4 _ _ e3,.nil,KeepT.upd (fun o' e'=>by rw [ed4] at e'; cases e'; exact ⟨fun _ z=>(by cases z),fun _ _ z=>(by cases z)⟩),fun b ob e n=>by rw [upd_ne n]; exact s4 _ _ (s03 _ _ e)⟩
      (fun i σ H' _ ⟨_,_,_,_,_,_,_,e,_⟩=>e) ?_ ?_
    · rintro i kk v σ H5 hi ⟨u4,u5,u6,u7,hl,as,rfl,ef,ew5,eh5,hho,hht,es5,th5,kt5,fr5⟩
      obtain ⟨q,eq,rfl⟩:=StsAt.kvs (K:=K) (H:=H) (d:=d) hi
      have mq:=List.mem_of_getElem? eq
      have st5:=((S.st q mq).keep ((KeepT.of_same s03).trans (KeepT.of_same s4))).keep kt5
      obtain ⟨y1,y2,y3,as1,bs,ds,f0,f1,t1,f2,t2,f3,t3⟩:=st5
      have spl:rowsOf (sts L)=rowsOf (sts (L.take i))++(q.2.2.2.1++rowsOf (sts (L.drop (i + 1)))):=by
        have e5:sts L=sts (L.take (i + 1))++sts (L.drop (i + 1)):=by rw [← List.map_append,List.take_append_drop]
        rw [e5,stT eq]
        unfold rowsOf
        simp only [List.flatMap_append,List.flatMap_cons,List.flatMap_nil,List.append_nil,List.append_assoc]
      have splh:(sts L).flatMap (·.1)=(sts (L.take i)).flatMap (·.1)++(q.2.2.1++(sts (L.drop (i + 1))).flatMap (·.1)):=by
        have e5:sts L=sts (L.take (i + 1))++sts (L.drop (i + 1)):=by rw [← List.map_append,List.take_append_drop]
        rw [e5,stT eq]
        simp only [List.flatMap_append,List.flatMap_cons,List.flatMap_nil,List.append_nil,List.append_assoc]
      have zr:=fi.rz
      have zh:=fi.hz
      have ls:=starts_len (sumsOf (sts L)) (sts (L.take i))
      have lth:=Paired.length th5
      have l1:=Paired.length t1
      rw [spl,List.length_append,List.length_append] at zr
      rw [splh,List.length_append,List.length_append] at zh
      have nd:=fi.nd
      rw [spl] at nd
      refine ⟨_,rfl,.inl ⟨rfl,_,SqL.of es5⟩,_,rfl,q.2.1,_,0,V.ref y1,rfl,rfl,f0,rfl,sl,y1,_,_,rfl,rfl,es5,f1,Nat.le_of_lt (small2k (by rw [List.length_map,List.length_map]; omega)),?_⟩
      rw [← List.map_append]
      have kt6:KeepT H5 (upd H5 sl (.lst ((as++as1).map V.ref))):=KeepT.upd fun o' e=>by
        rw [es5] at e; cases e; exact ⟨fun _ z=>(by cases z),fun _ _ z=>(by cases z)⟩
      have fr6:∀ b ob,H5 b=some ob→b≠sl→(upd H5 sl (.lst ((as++as1).map V.ref))) b=some ob:=fun b ob e n=>by rw [upd_ne n]; exact e
      have es6:(upd H5 sl (.lst ((as++as1).map V.ref))) sl=some (.lst ((as++as1).map V.ref)):=upd_same
      have th6:ThsAt (upd H5 sl (.lst ((as++as1).map V.ref))) (as++as1) (startsOf (sumsOf (sts L)) (sts (L.take i))++q.2.2.1):=ThsAt.keep kt6 (ths_app th5 t1)
      generalize upd H5 sl (.lst ((as++as1).map V.ref))=H6 at kt6 fr6 es6 th6
      refine ⟨_,rfl,q.2.1,_,1,V.ref y2,rfl,rfl,kt6.sq f0,rfl,y2,rfl,⟨_,kt6.sq f2⟩,?_⟩
      refine for_tup (K:=K) (a:=y2) (xs:=bs) (fun j σ H'=>∃ (w5 w6 w7:Option V) (hl:HL) (as:List Addr),σ=[some (.ref d),some (.ref ws),some (.ref hd),some (.ref sl),some (.ref q.2.1),w5,w6,w7,none]∧H' d=some (.frz o (.dK (L.map fun q=>((.inl q.1:Key),V.ref q.2.1))))∧H' ws=some (dInt (sumsOf (sts L)))∧H' hd=some (dRef hl)∧Hold hl (rowsOf (sts (L.take i))++q.2.2.2.1.take j)∧HeldT K H' hl∧H' sl=some (.lst (as.map V.ref))∧ThsAt H' as ((startsOf (sumsOf (sts L)) (sts (L.take i))++q.2.2.1)++((q.2.2.2.1.take j).filter fun r=>!decide (r.2.1=getW (sumsOf (sts L)) r.1)).map (·.1))∧KeepT H6 H'∧∀ b ob,H b=some ob→b≠d→H' b=some ob)
        ⟨_,_,_,hl,as++as1,rfl,fr6 _ _ ef (Ne.symm nds),fr6 _ _ ew5 nws,fr6 _ _ eh5 nhs,by rw [List.take_zero,List.append_nil]; exact hho,hht.keep kt6,es6,by rw [List.take_zero]; simpa using th6,KeepT.refl _,fun b ob e n=>fr6 _ _ (fr5 _ _ e n) (ne_of_none e ns0)⟩ (fun j σ H' _ ⟨_,_,_,_,_,_,_,_,_,_,_,_,_,k3,_⟩=>(kt6.trans k3).sq f2) ?_ ?_
      · rintro j v σ H7 hj ⟨w5,w6,w7,hl7,as7,rfl,ef7,ew7,eh7,hho7,hht7,es7,th7,k67,fr7⟩
        obtain ⟨r,er⟩:=get_of_lt (xs:=q.2.2.2.1) (j:=j) (by rw [← Paired.length t2]; exact (List.getElem?_eq_some_iff.mp hj).1)
        obtain ⟨a,t,ha,cs,rfl,g1,g2,g3,g4⟩:=(paired_get t2 j v r hj er).keep (kt6.trans k67)
        have hj':=(List.getElem?_eq_some_iff.mp er).1
        have tk1:q.2.2.2.1.take (j + 1)=q.2.2.2.1.take j++[r]:=by rw [List.take_add_one,er]; rfl
        have nin:r.1∉hl7.map (·.1):=by
          rw [hho7.keys]
          intro z
          have e9:q.2.2.2.1=q.2.2.2.1.take (j + 1)++q.2.2.2.1.drop (j + 1):=(List.take_append_drop _ _).symm
          rw [e9,tk1,← List.append_assoc,← List.append_assoc,← List.append_assoc,List.append_assoc (rowsOf (sts (L.take i))++q.2.2.2.1.take j++[r])] at nd
          have nd2:((rowsOf (sts (L.take i))++q.2.2.2.1.take j++[r]).map (·.1)).Nodup:=by
            rw [List.map_append] at nd
            exact (List.nodup_append.mp nd).1
          rw [List.map_append] at nd2
          exact (List.nodup_append.mp nd2).2.2 r.1 z r.1 (by simp) rfl
        have lh:hl7.length≤40:=by
          have:=congrArg List.length hho7.keys
          rw [List.length_map,List.length_map,List.length_append,List.length_take] at this
          omega
        have lf:=List.length_filter_le (fun r:T2×Int×List T2=>!decide (r.2.1=getW (sumsOf (sts L)) r.1)) (q.2.2.2.1.take j)
        rw [List.length_take] at lf
        have la7:=Paired.length th7
        rw [List.length_append,List.length_append,List.length_map] at la7
        refine ⟨a,_,rfl,g1,rfl,_,_,rfl,_,_,rfl,_,_,rfl,rfl,?_⟩
        refine ⟨_,rfl,_,rfl,_,rfl,hd,_,rfl,DPut.t (k:=tk r.1) eh7 g2 (by rw [List.length_map]; exact small2k (by omega)),?_⟩
        rw [putK_tk (V.ref ha) (fun q hq z=>nin (List.mem_map.mpr ⟨q,hq,z⟩))]
        rw [show (hl7.map fun q=>(tk q.1,V.ref q.2.1))++[(tk r.1,V.ref ha)]=(hl7++[(r.1,ha,r.2.2)]).map fun q=>(tk q.1,V.ref q.2.1) by rw [List.map_append]; rfl]
        have kt8:KeepT H7 (upd H7 hd (dRef (hl7++[(r.1,ha,r.2.2)]))):=KeepT.upd fun o' e=>by
          rw [eh7] at e; cases e; exact ⟨fun _ z=>(by cases z),fun _ _ z=>(by cases z)⟩
        have fr8:∀ b ob,H7 b=some ob→b≠hd→(upd H7 hd (dRef (hl7++[(r.1,ha,r.2.2)]))) b=some ob:=fun b ob e n=>by rw [upd_ne n]; exact e
        have eh8:(upd H7 hd (dRef (hl7++[(r.1,ha,r.2.2)]))) hd=some (dRef (hl7++[(r.1,ha,r.2.2)])):=upd_same
        rw [show HO.dT ((hl7++[(r.1,ha,r.2.2)]).map fun q=>(tk q.1,V.ref q.2.1))=dRef (hl7++[(r.1,ha,r.2.2)]) from rfl]
        generalize upd H7 hd (dRef (hl7++[(r.1,ha,r.2.2)]))=H8 at kt8 fr8 eh8
        have hht8:HeldT K H8 (hl7++[(r.1,ha,r.2.2)]):=fun q' hq'=>by
          rcases List.mem_append.mp hq' with hq' | hq'
          · exact (hht7.keep kt8) q' hq'
          · rw [List.mem_singleton.mp hq']; exact ⟨cs,kt8.sq g3,ThsAt.keep kt8 g4⟩
        have hho8:Hold (hl7++[(r.1,ha,r.2.2)]) (rowsOf (sts (L.take i))++q.2.2.2.1.take (j + 1)):=by
          rw [tk1,← List.append_assoc]; exact hho7.snoc r ha
        have ew8:=fr8 _ _ ew7 nwh
        have es8:=fr8 _ _ es7 (Ne.symm nhs)
        have ef8:=fr8 _ _ ef7 (Ne.symm ndh)
        have g28:=kt8.tup _ _ g2
        have th8:=ThsAt.keep kt8 th7
        refine ⟨_,rfl,_,rfl,ws,rfl,.inr ⟨_,.inl ew8⟩,_,rfl,_,DGet.t (k:=tk r.1) ew8 g28,?_⟩
        rw [getW_val]
        refine ⟨rfl,_,rfl,?_⟩
        refine ite2 (fun c=>?_) (fun c=>?_)
        · have c:¬ r.2.1=getW (sumsOf (sts L)) r.1:=fun z=>by rw [z] at c; simp at c
          refine ⟨_,rfl,.inl ⟨rfl,_,SqL.of es8⟩,_,rfl,sl,_,_,rfl,rfl,es8,small2k (by rw [List.length_map]; omega),?_⟩
          have kt9:KeepT H8 (upd H8 sl (.lst (as7.map V.ref++[V.ref t]))):=KeepT.upd fun o' e=>by
            rw [es8] at e; cases e; exact ⟨fun _ z=>(by cases z),fun _ _ z=>(by cases z)⟩
          refine ⟨_,_,_,hl7++[(r.1,ha,r.2.2)],as7++[t],rfl,by rw [upd_ne (Ne.symm nds)]; exact ef8,by rw [upd_ne nws]; exact ew8,by rw [upd_ne nhs]; exact eh8,hho8,hht8.keep kt9,by rw [List.map_append]; exact upd_same,?_,(k67.trans kt8).trans kt9,fun b ob e n=>by rw [upd_ne (ne_of_none e ns0)]; exact fr8 _ _ (fr7 _ _ e n) (ne_of_none e nh0)⟩
          rw [tk1,List.filter_append,List.map_append,← List.append_assoc]
          have ef1:([r].filter fun r=>!decide (r.2.1=getW (sumsOf (sts L)) r.1))=[r]:=by simp [c]
          rw [ef1]
          exact paired_snoc' (ThsAt.keep kt9 th8) (kt9.tup _ _ g28)
        · have c:r.2.1=getW (sumsOf (sts L)) r.1:=by simpa using c
          refine ⟨_,_,_,hl7++[(r.1,ha,r.2.2)],as7,rfl,ef8,ew8,eh8,hho8,hht8,es8,?_,k67.trans kt8,fun b ob e n=>fr8 _ _ (fr7 _ _ e n) (ne_of_none e nh0)⟩
          rw [tk1,List.filter_append]
          have ef1:([r].filter fun r=>!decide (r.2.1=getW (sumsOf (sts L)) r.1))=[]:=by simp [c]
          rw [ef1,List.append_nil]
          exact th8
      · rintro σ H7 ⟨w5,w6,w7,hl7,as7,rfl,ef7,ew7,eh7,hho7,hht7,es7,th7,k67,fr7⟩
        rw [Paired.length t2,List.take_length] at hho7 th7
        refine ⟨_,_,_,_,hl7,as7,rfl,ef7,ew7,eh7,?_,hht7,es7,?_,(kt5.trans kt6).trans k67,fr7⟩
        · rw [stT eq]
          unfold rowsOf at hho7 ⊢
          simp only [List.flatMap_append,List.flatMap_cons,List.flatMap_nil,List.append_nil]
          exact hho7
        · rw [stT eq]
          unfold startsOf at th7 ⊢
          simp only [List.flatMap_append,List.flatMap_cons,List.flatMap_nil,List.append_nil]
          rw [List.append_assoc] at th7
          exact th7
    · rintro σ H5 ⟨u4,u5,u6,u7,hl,as,rfl,ef,ew5,eh5,hho,hht,es5,th5,kt5,fr5⟩
      rw [List.length_map,List.take_length] at hho th5
      refine ⟨upd H5 d (.dK (L.map fun q=>((.inl q.1:Key),V.ref q.2.1))),⟨d,o,_,ef,fun ob v z=>?_,rfl⟩,?_⟩
      · have z:H d=some (.frz ob v):=z
        rw [S.ob] at z; cases z
      have s6:Same H (upd H5 d (.dK (L.map fun q=>((.inl q.1:Key),V.ref q.2.1)))):=fun b ob e=>by
        by_cases hb:b=d
        · rw [hb,upd_same]; rw [hb,S.ob] at e; exact e
        · rw [upd_ne hb]; exact fr5 b ob e hb
      have sq6:∀ {b:Addr} {xs:List V},SqT K H5 b xs→SqT K (upd H5 d (.dK (L.map fun q=>((.inl q.1:Key),V.ref q.2.1)))) b xs:=fun {b xs} z=>by
        rcases z with (z | ⟨ob,z⟩) | z
        · exact .inl (.inl (by rw [upd_ne (fun y=>by rw [y,ef] at z; cases z)]; exact z))
        · exact .inl (.inr ⟨ob,by rw [upd_ne (fun y=>by rw [y,ef] at z; cases z)]; exact z⟩)
        · exact .inr z
      have th6:∀ {as:List Addr} {ts:List T2},ThsAt H5 as ts→ThsAt (upd H5 d (.dK (L.map fun q=>((.inl q.1:Key),V.ref q.2.1)))) as ts:=fun {as ts} z=>paired_mono (fun b t e=>by rw [upd_ne (fun y=>by rw [y,ef] at e; cases e)]; exact e) z
      have hht6:HeldT K (upd H5 d (.dK (L.map fun q=>((.inl q.1:Key),V.ref q.2.1)))) hl:=fun q hq=>let ⟨cs,e,t⟩:=hht q hq; ⟨cs,sq6 e,th6 t⟩
      have th5':=th6 th5
      have es6:(upd H5 d (.dK (L.map fun q=>((.inl q.1:Key),V.ref q.2.1)))) sl=some (.lst (as.map V.ref)):=by rw [upd_ne nds]; exact es5
      have eh6:(upd H5 d (.dK (L.map fun q=>((.inl q.1:Key),V.ref q.2.1)))) hd=some (dRef hl):=by rw [upd_ne ndh]; exact eh5
      clear sq6 th6
      generalize upd H5 d (.dK (L.map fun q=>((.inl q.1:Key),V.ref q.2.1)))=H6 at s6 hht6 th5' es6 eh6
      obtain ⟨n,R,zn,rc⟩:=reach_ex fi hho
      have ls:=starts_len (sumsOf (sts L)) (sts L)
      have zr:=fi.rz
      have zh:=fi.hz
      have lh:hl.length=(rowsOf (sts L)).length:=by
        have:=congrArg List.length hho.keys
        rw [List.length_map,List.length_map] at this
        exact this
      refine ⟨_,rfl,_,rfl,sl,hd,as,_,hl,n,R,rfl,es6,th5',by omega,eh6,by omega,hht6,fun q hq=>?_,rc,zn,fun x H7 hx s7 ex=>?_⟩
      · have m:q.1∈(rowsOf (sts L)).map (·.1):=by rw [← hho.keys]; exact List.mem_map.mpr ⟨q,hq,rfl⟩
        have e8:getH hl q.1=q.2.2:=by
          unfold getH
          rw [FX.find_self (k:=fun q:T2×Addr×List T2=>q.1) (by rw [hho.keys]; exact fi.nd) hq]; rfl
        obtain ⟨r,hr',e⟩:=List.mem_map.mp m
        rw [← e,hho.get fi.nd hr'] at e8
        rw [← e8]
        exact Nat.le_trans (fi.oz r hr') (by decide)
      have eh7:=s7 _ _ eh6
      obtain ⟨so,pm,pw⟩:=sorts (fun t:T2=>t) (l:=(rowsOf (sts L)).map (·.1)) (by rw [List.map_id']; exact fi.nd)
      have pw:so.Pairwise lt2:=by simpa using pw
      have dr:Rd H7 hd (.dT ((hl.map fun q=>(q.1,V.ref q.2.1)).map fun q=>(tk q.1,q.2))):=by
        have e:((hl.map fun q=>(q.1,V.ref q.2.1)).map fun q=>(tk q.1,q.2))=hl.map fun q=>(tk q.1,V.ref q.2.1):=by rw [List.map_map]; rfl
        rw [e]; exact .inl eh7
      refine ⟨_,rfl,hd,_,so,rfl,dr,by rw [List.length_map]; omega,?_,pw,fun r2 as2 hr2 th2=>?_⟩
      · rw [List.map_map]
        show so.Perm (hl.map (·.1))
        rw [hho.keys]; exact pm
      have s8:=same_new (o:=.lst (as2.map V.ref)) hr2
      have e8:(upd H7 r2 (.lst (as2.map V.ref))) r2=some (.lst (as2.map V.ref)):=upd_same
      have th8:=ThsAt.keep (KeepT.of_same s8) th2
      generalize upd H7 r2 (.lst (as2.map V.ref))=H8 at s8 e8 th8
      have ex8:=s8 _ _ ex
      refine ⟨r2,rfl,⟨_,SqL.of e8⟩,fun p2 hp2=>?_⟩
      have lso:so.length≤40:=by rw [pm.length_eq,List.length_map]; exact zr
      refine filt_list (b:=fun t=>!decide (t∈R)) (caps:=[("kept",8)]) hp2 (by omega) e8 th8 (fun H9 a t Q' sm ha ht q=>?_) fun H9 bs sm ea tb=>?_
      · refine ⟨_,rfl,_,rfl,x,_,rfl,hand_in (sm _ _ ex8) ha,_,rfl,?_⟩
        by_cases c:t∈R
        · rw [if_pos c]
          rw [show (!decide (t∈R))=false by simp [c]] at q
          exact q
        · rw [if_neg c]
          rw [show (!decide (t∈R))=true by simp [c]] at q
          exact q
      · refine ⟨p2,_,rfl,.inl ⟨SqL.of ea,fun tt htt=>?_⟩⟩
        have s9:=same_new (o:=.tup (bs.map V.ref)) htt
        refine k tt bs _ _ (same_trans s6 (same_trans s7 (same_trans s8 (same_trans sm s9)))) upd_same (ThsAt.keep (KeepT.of_same s9) tb) ⟨pw.filter _,fun t=>?_⟩
        have li:=led_iff fi.nd hho rc
        rw [List.mem_filter]
        constructor
        · rintro ⟨h1,h2⟩
          have m:=pm.mem_iff.mp h1
          exact ⟨m,fun z=>by rw [(li t m).mpr z |> decide_eq_true] at h2; simp at h2⟩
        · rintro ⟨h1,h2⟩
          exact ⟨pm.mem_iff.mpr h1,by have:t∉R:=fun z=>h2 ((li t h1).mp z); simp [this]⟩
end
end K32
namespace FX
open PySem PySem.Spec PyProof.Rows L2
set_option linter.all false
theorem nodup_len:∀ {R U:List T2},R.Nodup→(∀ t∈R,t∈U)→R.length≤U.length
  | [],U,_,_=>Nat.zero_le _
  | a :: R,U,nd,h=>by
    have nd':=List.nodup_cons.mp nd
    have ha:=h a (List.mem_cons_self ..)
    have ih:=nodup_len (R:=R) (U:=U.erase a) nd'.2 fun t ht=>(List.mem_erase_of_ne (fun z=>nd'.1 (by rw [← z]; exact ht))).mpr (h t (List.mem_cons_of_mem _ ht))
    rw [List.length_erase_of_mem ha] at ih
    have:=List.length_pos_of_mem ha
    simp only [List.length_cons]
    omega
theorem addT_pre (l:List T2) (t:T2):∃ m,addT l t=l++m:=by
  unfold addT
  by_cases c:t∈l
  · rw [if_pos c]; exact ⟨[],(List.append_nil l).symm⟩
  · rw [if_neg c]; exact ⟨[t],rfl⟩
theorem addAll_pre:∀ (m l:List T2),∃ k,addAll l m=l++k
  | [],l=>⟨[],(List.append_nil l).symm⟩
  | u :: m,l=>by
    obtain ⟨k1,e1⟩:=addT_pre l u
    obtain ⟨k2,e2⟩:=addAll_pre m (addT l u)
    refine ⟨k1++k2,?_⟩
    show addAll (addT l u) m=_
    rw [e2,e1,List.append_assoc]
theorem addT_nd {l:List T2} (h:l.Nodup) (t:T2):(addT l t).Nodup:=by
  unfold addT
  by_cases c:t∈l
  · rw [if_pos c]; exact h
  · rw [if_neg c]
    exact List.nodup_append.mpr ⟨h,by simp,fun x hx y hy e=>c (by rw [List.mem_singleton.mp hy] at e; rw [← e]; exact hx)⟩
theorem addAll_nd:∀ {m l:List T2},l.Nodup→(addAll l m).Nodup
  | [],l,h=>h
  | u :: m,l,h=>addAll_nd (m:=m) (addT_nd h u)
theorem addAll_snoc (l m:List T2) (u:T2):addAll l (m++[u])=addT (addAll l m) u:=by
  unfold addAll; rw [List.foldl_append]; rfl
end FX
namespace K32
open PySem L2 FX
set_option linter.all false
section
variable {P:Program} {w:World} {K:PySem.W.Frag} {mg:Str→Option Value} {base:Heap}
theorem scDu:FnScope ["_law_states_here","_law_held_here","_law_outs","_law_reached","_law_sums","_law_house","_law_thing","_law_out","_law_holds","_law_weight","_law_many","_law_one"] ["_law_states_here"] (defScope sDue):=⟨rfl,rfl,rfl,by decide +kernel,rfl,by decide +kernel,by decide +kernel⟩
def spDue (K:PySem.W.Frag):Sp:=fun vs H Q _=>∃ (d:Addr) (L:List (Int×Addr×HS)),vs=[.ref d]∧StsAt K H d L∧(L.map (·.1)).Nodup∧Fine (sts L) ∧
  ∀ (x:Addr) (as:List Addr) (ts:List T2) (H':Hp),Same H H'→H' x=some (.tup (as.map V.ref))→ThsAt H' as ts→Found (sts L) ts→Q (.ref x) H'
theorem StsAt.keyv {L:List (Int×Addr×HS)} {i:Nat} {k:Key} {v:V} (h:(L.map fun q=>((.inl q.1:Key),V.ref q.2.1))[i]?=some (k,v)):∃ q,L[i]?=some q∧k=.inl q.1∧v=.ref q.2.1:=by
  rw [List.getElem?_map] at h
  cases e:L[i]? with
  | none=>rw [e] at h; cases h
  | some q =>
    rw [e] at h
    have h:((.inl q.1:Key),V.ref q.2.1)=(k,v):=Option.some.inj h
    exact ⟨q,rfl,(Prod.mk.inj h).1.symm,(Prod.mk.inj h).2.symm⟩
theorem valK_some {L:List (Int×Addr×HS)} (nd:(L.map (·.1)).Nodup) {q:Int×Addr×HS} (hq:q∈L):valV (L.map fun q=>((.inl q.1:Key),V.ref q.2.1)) (.inl q.1)=some (.ref q.2.1):=by
  induction L with
  | nil=>cases hq
  | cons r L ih =>
    rw [List.map_cons]
    have nd':=List.nodup_cons.mp nd
    rcases List.mem_cons.mp hq with rfl | hq
    · exact valV_pos rfl
    · rw [valV_neg (fun z=>nd'.1 (by
        have z:(Sum.inl r.1:Key)=.inl q.1:=z
        injection z with z
        exact List.mem_map.mpr ⟨q,hq,z.symm⟩))]
      exact ih nd'.2 hq
structure D1 (K:PySem.W.Frag) (H0:Hp) (d hd od rd sd:Addr) (o:Obj) (L:List (Int×Addr×HS)) (rows:List (T2×Int×List T2)) (told:List (T2×Int)) (H:Hp):Prop where
  fz:H d=some (.frz o (.dK (L.map fun q=>((.inl q.1:Key),V.ref q.2.1))))
  hh:∃ hl,H hd=some (dRef hl)∧Hold hl rows∧HeldT K H hl
  ho:H od=some (dInt (rows.map fun r=>(r.1,r.2.1)))
  hr:H rd=some (dHand [])
  hs:H sd=some (dInt (told.foldl addW []))
  kt:KeepT H0 H
  fr:∀ b ob,H0 b=some ob→b≠d→b≠hd→b≠od→b≠rd→b≠sd→H b=some ob
def allOf (L:List HS):List T2:=startsOf (sumsOf L) L++(rowsOf L).flatMap (·.2.2)
theorem all_len {L:List HS} (F:Fine L):(allOf L).length≤300:=by
  unfold allOf
  rw [List.length_append]
  have h1:=starts_len (sumsOf L) L
  have h2:∀ rows:List (T2×Int×List T2),(∀ r∈rows,r.2.2.length≤3)→(rows.flatMap (·.2.2)).length≤3 * rows.length:=by
    intro rows
    induction rows with
    | nil=>intro _; simp
    | cons r rows ih =>
      intro h
      have i1:=ih fun q hq=>h q (List.mem_cons_of_mem _ hq)
      have i2:=h r (List.mem_cons_self ..)
      simp only [List.flatMap_cons,List.length_append,List.length_cons]
      omega
  have h3:=h2 _ F.oz
  have:=F.rz
  have:=F.hz
  omega
structure Go (L:List HS) (hl:HL) (many:Nat) (R:List T2):Prop where
  nd:R.Nodup
  le:many≤R.length
  sub:∀ t∈R,t∈allOf L
  led:∀ t∈R,Led L t
  st:∀ t∈startsOf (sumsOf L) L,t∈R
  cl:∀ t∈R.take many,∀ u∈getH hl t,u∈R
theorem Go.len {L:List HS} (F:Fine L) {hl:HL} {many:Nat} {R:List T2} (g:Go L hl many R):R.length≤300:=Nat.le_trans (nodup_len g.nd g.sub) (all_len F)
theorem held_row {L:List HS} {hl:HL} (nd:((rowsOf L).map (·.1)).Nodup) (h:Hold hl (rowsOf L)) {t u:T2} (hu:u∈getH hl t):∃ r∈rowsOf L,r.1=t∧u∈r.2.2:=by
  by_cases c:t∈(rowsOf L).map (·.1)
  · obtain ⟨r,hr,e⟩:=List.mem_map.mp c
    subst e
    rw [h.get nd hr] at hu
    exact ⟨r,hr,rfl,hu⟩
  · exfalso
    have:getH hl t=[]:=by
      unfold getH
      rw [List.find?_eq_none.mpr fun q hq=>by
        have:q.1≠t:=fun z=>c (by rw [← h.keys]; exact List.mem_map.mpr ⟨q,hq,z⟩)
        simpa using this]
      rfl
    rw [this] at hu
    exact absurd hu (List.not_mem_nil)
theorem Go.step {L:List HS} {hl:HL} {many:Nat} {R:List T2} (nd:((rowsOf L).map (·.1)).Nodup) (h:Hold hl (rowsOf L)) (g:Go L hl many R):Go L hl R.length (addAll R (R.flatMap (getH hl))):=by
  obtain ⟨k,e⟩:=addAll_pre (R.flatMap (getH hl)) R
  refine ⟨addAll_nd g.nd,by rw [e,List.length_append]; omega,fun t ht=>?_,fun t ht=>?_,fun t ht=>mem_addAll.mpr (.inl (g.st t ht)),fun t ht u hu=>?_⟩
  · rcases mem_addAll.mp ht with ht | ht
    · exact g.sub t ht
    · obtain ⟨s,_,hu⟩:=List.mem_flatMap.mp ht
      obtain ⟨r,hr,_,m⟩:=held_row nd h hu
      exact List.mem_append_right _ (List.mem_flatMap.mpr ⟨r,hr,m⟩)
  · rcases mem_addAll.mp ht with ht | ht
    · exact g.led t ht
    · obtain ⟨s,hs,hu⟩:=List.mem_flatMap.mp ht
      obtain ⟨r,hr,e1,m⟩:=held_row nd h hu
      exact .step hr m (by rw [e1]; exact g.led s hs)
  · rw [e,List.take_left] at ht
    exact mem_addAll.mpr (.inr (List.mem_flatMap.mpr ⟨t,ht,hu⟩))
theorem Go.done {L:List HS} {hl:HL} {many:Nat} {R:List T2} (nd:((rowsOf L).map (·.1)).Nodup) (h:Hold hl (rowsOf L)) (g:Go L hl many R) (e:R.length≤many):∀ t,Led L t→t∈R:=fun t lt=>by
  induction lt with
  | hand hS m=>exact g.st _ (mem_starts.mpr (.inl ⟨_,hS,m⟩))
  | out hr c=>exact g.st _ (mem_starts.mpr (.inr ⟨_,hr,rfl,c⟩))
  | @step r u hr m _ ih =>
    refine g.cl r.1 ?_ u (by rw [h.get nd hr]; exact m)
    rw [List.take_of_length_le e]; exact ih
structure D2 (K:PySem.W.Frag) (H0 H4:Hp) (d hd rd sd:Addr) (L:List HS) (R:List T2) (H:Hp):Prop where
  hh:∃ hl,H hd=some (dRef hl)∧Hold hl (rowsOf L)∧HeldT K H hl
  hr:H rd=some (dHand R)
  hs:H sd=some (dInt (sumsOf L))
  kt:KeepT H4 H
  fr:∀ b ob,H0 b=some ob→b≠d→H b=some ob
theorem D2.add {K:PySem.W.Frag} {H0 H4:Hp} {d hd rd sd:Addr} {L:List HS} {R R':List T2} {H:Hp} (x:D2 K H0 H4 d hd rd sd L R H) (n1:hd≠rd) (n2:sd≠rd) (n3:H0 rd=none):D2 K H0 H4 d hd rd sd L R' (upd H rd (dHand R')):=by
  have kt:KeepT H (upd H rd (dHand R')):=KeepT.upd fun o' e=>by rw [x.hr] at e; cases e; exact ⟨fun _ z=>(by cases z),fun _ _ z=>(by cases z)⟩
  obtain ⟨hl,e,h,t⟩:=x.hh
  exact ⟨⟨hl,by rw [upd_ne n1]; exact e,h,t.keep kt⟩,upd_same,by rw [upd_ne n2]; exact x.hs,x.kt.trans kt,fun b ob e n=>by rw [upd_ne (ne_of_none e n3)]; exact x.fr b ob e n⟩
theorem sq_thaw {K:PySem.W.Frag} {H:Hp} {d:Addr} {o:Obj} {u:HO} (ef:H d=some (.frz o u)) (nt:∀ xs,u≠.tup xs) {b:Addr} {xs:List V} (z:SqT K H b xs):SqT K (upd H d u) b xs:=by
  rcases z with (z | ⟨ob,z⟩) | z
  · exact .inl (.inl (by rw [upd_ne (fun y=>by rw [y,ef] at z; cases z)]; exact z))
  · exact .inl (.inr ⟨ob,by rw [upd_ne (fun y=>by rw [y,ef] at z; injection z with z; injection z with z1 z2; exact nt _ z2)]; exact z⟩)
  · exact .inr z
theorem ths_thaw {H:Hp} {d:Addr} {o:Obj} {u:HO} (ef:H d=some (.frz o u)) {as:List Addr} {ts:List T2} (z:ThsAt H as ts):ThsAt (upd H d u) as ts :=
  paired_mono (fun b t e=>by rw [upd_ne (fun y=>by rw [y,ef] at e; cases e)]; exact e) z
theorem HeldT.thaw {K:PySem.W.Frag} {H:Hp} {d:Addr} {o:Obj} {u:HO} (ef:H d=some (.frz o u)) (nt:∀ xs,u≠.tup xs) {hl:HL} (h:HeldT K H hl):HeldT K (upd H d u) hl:=fun q hq=>let ⟨cs,e,t⟩:=h q hq; ⟨cs,sq_thaw ef nt e,ths_thaw ef t⟩
theorem keep_thaw {H4 H:Hp} {d:Addr} {o:Obj} {u:HO} (k:KeepT H4 H) (ef:H d=some (.frz o u)) (n4:∀ o u,H4 d≠some (.frz o u)):KeepT H4 (upd H d u) :=
  ⟨fun b xs e=>by rw [upd_ne (fun y=>by have:=k.tup _ _ e; rw [y,ef] at this; cases this)]; exact k.tup _ _ e,fun b ob v e=>by
    by_cases y:b=d
    · rw [y] at e; exact absurd e (n4 _ _)
    · rw [upd_ne y]; exact k.frz _ _ _ e⟩
theorem D2.thaw {K:PySem.W.Frag} {H0 H4:Hp} {d hd rd sd e:Addr} {L:List HS} {R:List T2} {H:Hp} {o:Obj} {u:HO} (x:D2 K H0 H4 d hd rd sd L R H) (ef:H e=some (.frz o u)) (nt:∀ xs,u≠.tup xs) (n4:∀ o u,H4 e≠some (.frz o u)) (n1:hd≠e) (n2:rd≠e) (n3:sd≠e) (n5:e=d∨H0 e=none):D2 K H0 H4 d hd rd sd L R (upd H e u):=by
  obtain ⟨hl,eh,h,t⟩:=x.hh
  refine ⟨⟨hl,by rw [upd_ne n1]; exact eh,h,t.thaw ef nt⟩,by rw [upd_ne n2]; exact x.hr,by rw [upd_ne n3]; exact x.hs,keep_thaw x.kt ef n4,fun b ob eb n=>?_⟩
  rw [upd_ne (fun y=>by rcases n5 with z | z; exact n (y.trans z); rw [y,z] at eb; cases eb)]
  exact x.fr b ob eb n
theorem D2.frz {K:PySem.W.Frag} {H0 H4:Hp} {d hd rd sd e:Addr} {L:List HS} {R:List T2} {H:Hp} {o:Obj} {kvs:HO} (x:D2 K H0 H4 d hd rd sd L R H) (ee:H e=some kvs) (nt:(∀ xs,kvs≠.tup xs)∧∀ b u,kvs≠.frz b u) (n1:hd≠e) (n2:rd≠e) (n3:sd≠e) (n5:e=d∨H0 e=none):D2 K H0 H4 d hd rd sd L R (upd H e (.frz o kvs)):=by
  have kt:KeepT H (upd H e (.frz o kvs)):=KeepT.upd fun o' e'=>by rw [ee] at e'; cases e'; exact nt
  obtain ⟨hl,eh,h,t⟩:=x.hh
  refine ⟨⟨hl,by rw [upd_ne n1]; exact eh,h,t.keep kt⟩,by rw [upd_ne n2]; exact x.hr,by rw [upd_ne n3]; exact x.hs,x.kt.trans kt,fun b ob eb n=>?_⟩
  rw [upd_ne (fun y=>by rcases n5 with z | z; exact n (y.trans z); rw [y,z] at eb; cases eb)]
  exact x.fr b ob eb n
theorem ok_due {f:Addr} {fd:FuncData} (F:Fun K "_law_due" "_law_due" sDue f fd) (T:Txt mg):FnOk P w K mg base CX0 1 f fd ["_law_states_here"] (spDue K):=by
  refine F.ok scDu (fun vs H Q E h=>?_) (fun cdv A outer s H vs Q E hr h=>?_)
  · obtain ⟨d,L,rfl,_⟩:=h
    rfl
  · obtain ⟨d,L,rfl,S,ndL,fi,k⟩:=h
    have hu:=hu_of hr
    refine ⟨_,pss_cons (ps_set (i:=1) scDu.nd rfl (Or.inl rfl) pe_dnewT)
      (pss_cons (ps_set (i:=2) scDu.nd rfl (Or.inl rfl) pe_dnewT)
      (pss_cons (ps_set (i:=3) scDu.nd rfl (Or.inr rfl) pe_dnewT)
      (pss_cons (ps_set (i:=4) scDu.nd rfl (Or.inl rfl) pe_dnewT)
      (pss_cons (ps_for PassesOwn.never rfl (pi_dictK (pv 0)) (pg_name (i:=5) scDu.nd rfl (Or.inl rfl))
        (pss_cons (ps_for PassesOwn.never rfl (pi_tup (pe_ix ix_tup (pe_dget hu (pv 0) (pv 5) (fun _ _=>rfl)) pe_int (fun _ _=>rfl))) (pg_tup rfl (pgs_cons (pg_name (i:=6) scDu.nd rfl (Or.inl rfl)) (pgs_cons (pg_name (i:=7) scDu.nd rfl (Or.inl rfl)) (pgs_cons (pg_name (i:=8) scDu.nd rfl (Or.inl rfl)) pgs_nil))))
          (pss_cons (ps_dput hu (pv 1) (pv 6) (pv 8) rfl)
          (pss_one (ps_dput hu (pv 2) (pv 6) (pv 7) rfl))))
        (pss_one (ps_for PassesOwn.never rfl (pi_tup (pe_ix ix_tup (pe_dget hu (pv 0) (pv 5) (fun _ _=>rfl)) pe_int (fun _ _=>rfl))) (pg_tup rfl (pgs_cons (pg_name (i:=6) scDu.nd rfl (Or.inl rfl)) (pgs_cons (pg_name (i:=9) scDu.nd rfl (Or.inl rfl)) pgs_nil)))
          (pss_one (ps_dput hu (pv 4) (pv 6) (pe_op op_add (pe_dget2 hu (pv 4) (pv 6) pe_int ⟨rfl,rfl,rfl,rfl⟩) (pv 9)) rfl))))))
      (PSs.thaw (pss_cons (ps_for PassesOwn.never rfl (pi_dictK (pv 0)) (pg_name (i:=5) scDu.nd rfl (Or.inl rfl))
        (pss_one (ps_for PassesOwn.never rfl (pi_tup (pe_ix ix_tup (pe_dget hu (pv 0) (pv 5) (fun _ _=>rfl)) pe_int (fun _ _=>rfl))) (pg_name (i:=6) scDu.nd rfl (Or.inl rfl))
          (pss_one (ps_dput hu (pv 3) (pv 6) pe_bl rfl)))))
      (PSs.thaw (pss_cons (ps_for PassesOwn.never rfl (pi_dict (pv 2)) (pg_name (i:=6) scDu.nd rfl (Or.inl rfl))
        (pss_one (ps_if (pt_cmpR op_ne (pe_dget hu (pv 2) (pv 6) (fun _ _=>rfl)) (pe_dget2 hu (pv 4) (pv 6) pe_int ⟨rfl,rfl,rfl,rfl⟩) (nomark _)) (pss_one (ps_dput hu (pv 3) (pv 6) pe_bl rfl)) pss_nil)))
      (PSs.thaw (pss_cons (ps_set (i:=10) scDu.nd rfl (Or.inl rfl) pe_int)
      (pss_cons (ps_while PassesOwn.never (pt_cmpR op_gt (pe_callB call_lenT (by rfl) T.len PySem.boot_len (pa_cons (pv 3) pa_nil)) (pv 10) (nomark _))
        (pss_cons (ps_set (i:=10) scDu.nd rfl (Or.inl rfl) (pe_callB call_lenT (by rfl) T.len PySem.boot_len (pa_cons (pv 3) pa_nil)))
        (pss_one (ps_for PassesOwn.never rfl (pi_list (pe_callTy (call_list_dict rfl) (by rfl) T.list PyProof.Rows.boot_list (pa_cons (pv 3) pa_nil))) (pg_name (i:=6) scDu.nd rfl (Or.inl rfl))
          (pss_one (ps_for PassesOwn.never rfl (pi_tup (pe_dget2 hu (pv 1) (pv 6) (pe_tup pa_nil) ⟨rfl,rfl,rfl,rfl⟩)) (pg_name (i:=11) scDu.nd rfl (Or.inl rfl))
            (pss_one (ps_dput hu (pv 3) (pv 11) pe_bl rfl))))))))
      (pss_one (ps_ret (pe_callTy call_tuple_of (by rfl) T.tuple PyProof.Rows.boot_tuple (pa_cons (pe_callB (call_sorted_list rfl) (by rfl) T.sorted PyProof.Rows.boot_sorted (pa_cons (PE.thaw (pe_comp (te:=tVar 0) (caps:=[("_law_reached",3)]) rfl (pi_dict (pv 1))
          rfl (by decide +kernel) rfl (by decide +kernel) rfl ⟨rfl,trivial⟩ (fun y h=>has3 ⟨_,rfl⟩ h) ⟨⟨rfl,rfl,rfl,rfl⟩,trivial⟩ (by decide +kernel) (fun _ _ _ _ _=>pts_one (pt_cmp (pc_dnotin hu (pv 0) (pv 1)))) (fun _ _ _ _ _=>pv 0))) pa_nil)) pa_nil))))))))))))))),?_⟩
    intro hd hhd
    intro od hod
    intro rd hrd
    intro sd hsd
    have s1:=same_new (o:=.dT []) hhd
    have s2:=same_new (o:=.dT []) hod
    have s3:=same_new (o:=.dT []) hrd
    have s4:=same_new (o:=.dT []) hsd
    have nho:hd≠od:=fun z=>by rw [← z,upd_same] at hod; cases hod
    have nhr:hd≠rd:=fun z=>by rw [← z,s2 _ _ upd_same] at hrd; cases hrd
    have nor:od≠rd:=fun z=>by rw [← z,upd_same] at hrd; cases hrd
    have nhs:hd≠sd:=fun z=>by rw [← z,s3 _ _ (s2 _ _ upd_same)] at hsd; cases hsd
    have nos:od≠sd:=fun z=>by rw [← z,s3 _ _ upd_same] at hsd; cases hsd
    have nrs:rd≠sd:=fun z=>by rw [← z,upd_same] at hsd; cases hsd
    have h0:H hd=none:=hhd
    have o0:H od=none:=same_free s1 hod
    have r0:H rd=none:=same_free s1 (same_free s2 hrd)
    have d0:H sd=none:=same_free s1 (same_free s2 (same_free s3 hsd))
    have e1:(upd (upd (upd (upd H hd (.dT [])) od (.dT [])) rd (.dT [])) sd (.dT [])) hd=some (dRef []):=s4 _ _ (s3 _ _ (s2 _ _ upd_same))
    have e2:(upd (upd (upd (upd H hd (.dT [])) od (.dT [])) rd (.dT [])) sd (.dT [])) od=some (dInt []):=s4 _ _ (s3 _ _ upd_same)
    have e3:(upd (upd (upd (upd H hd (.dT [])) od (.dT [])) rd (.dT [])) sd (.dT [])) rd=some (dHand []):=s4 _ _ upd_same
    have e4:(upd (upd (upd (upd H hd (.dT [])) od (.dT [])) rd (.dT [])) sd (.dT [])) sd=some (dInt []):=upd_same
    have s04:=same_trans s1 (same_trans s2 (same_trans s3 s4))
    generalize upd (upd (upd (upd H hd (.dT [])) od (.dT [])) rd (.dT [])) sd (.dT [])=H4 at e1 e2 e3 e4 s04
    have ed4:=s04 _ _ S.ob
    have nd1:hd≠d:=fun z=>by rw [z,S.ob] at h0; cases h0
    have nd2:od≠d:=fun z=>by rw [z,S.ob] at o0; cases o0
    have nd3:rd≠d:=fun z=>by rw [z,S.ob] at r0; cases r0
    have nd4:sd≠d:=fun z=>by rw [z,S.ob] at d0; cases d0
    have stT:∀ {i:Nat} {q:Int×Addr×HS},L[i]?=some q→sts (L.take (i + 1))=sts (L.take i)++[q.2.2]:=fun {i q} eq=>by
      rw [List.take_add_one,eq]
      show List.map _ (L.take i++[q])=_
      rw [List.map_append]; rfl
    have gd:∀ {H':Hp} {o:Obj} {q:Int×Addr×HS},H' d=some (.frz o (.dK (L.map fun q=>((.inl q.1:Key),V.ref q.2.1))))→q∈L→DGet H' d (.int q.1) (some (.ref q.2.1)):=fun {H' o q} e m=>.inl ⟨_,.inl q.1,.inr ⟨o,e⟩,rfl,(valK_some ndL m).symm⟩
    refine ⟨_,rfl,d,_,rfl,ed4,fun o=>?_⟩
    refine for_dictK (d:=d) (ob:=o) (fun i σ H'=>(∃ u5 u6 u7 u8 u9,σ=[some (.ref d),some (.ref hd),some (.ref od),some (.ref rd),some (.ref sd),u5,u6,u7,u8,u9,none,none])∧D1 K H4 d hd od rd sd o L (rowsOf (sts (L.take i))) ((sts (L.take i)).flatMap (·.2.2)) H')
      ⟨⟨_,_,_,_,_,rfl⟩,upd_same,⟨[],by rw [upd_ne nd1]; exact e1,rfl,fun q hq=>by cases hq⟩,by rw [upd_ne nd2]; exact e2,by rw [upd_ne nd3]; exact e3,by rw [upd_ne nd4]; exact e4,KeepT.upd (fun o' e'=>by rw [ed4] at e'; cases e'; exact ⟨fun _ z=>(by cases z),fun _ _ z=>(by cases z)⟩),fun b ob e n _ _ _ _=>by rw [upd_ne n]; exact e⟩
      (fun i σ H' _ z=>z.2.fz) ?_ ?_
    · rintro i kk v σ H5 hi ⟨⟨u5,u6,u7,u8,u9,rfl⟩,D⟩
      obtain ⟨q,eq,rfl,rfl⟩:=StsAt.keyv hi
      have mq:=List.mem_of_getElem? eq
      have st5:=((S.st q mq).keep (KeepT.of_same s04)).keep D.kt
      obtain ⟨y1,y2,y3,as1,bs,ds,f0,f1,t1,f2,t2,f3,t3⟩:=st5
      have cut:sts L=sts (L.take (i + 1))++sts (L.drop (i + 1)):=by rw [← List.map_append,List.take_append_drop]
      have spl:rowsOf (sts L)=rowsOf (sts (L.take i))++(q.2.2.2.1++rowsOf (sts (L.drop (i + 1)))):=by
        rw [cut,stT eq]
        unfold rowsOf
        simp only [List.flatMap_append,List.flatMap_cons,List.flatMap_nil,List.append_nil,List.append_assoc]
      have splt:(sts L).flatMap (·.2.2)=(sts (L.take i)).flatMap (·.2.2)++(q.2.2.2.2++(sts (L.drop (i + 1))).flatMap (·.2.2)):=by
        rw [cut,stT eq]
        simp only [List.flatMap_append,List.flatMap_cons,List.flatMap_nil,List.append_nil,List.append_assoc]
      have zr:=fi.rz
      have zt:=fi.tz
      rw [spl,List.length_append,List.length_append] at zr
      rw [splt,List.length_append,List.length_append] at zt
      have nd:=fi.nd
      rw [spl] at nd
      refine ⟨_,rfl,_,rfl,d,_,rfl,gd D.fz mq,q.2.1,_,1,V.ref y2,rfl,rfl,f0,rfl,y2,rfl,⟨_,f2⟩,?_⟩
      refine for_tup (K:=K) (a:=y2) (xs:=bs) (fun j σ H'=>(∃ w6 w7 w8,σ=[some (.ref d),some (.ref hd),some (.ref od),some (.ref rd),some (.ref sd),some (.int q.1),w6,w7,w8,u9,none,none])∧D1 K H4 d hd od rd sd o L (rowsOf (sts (L.take i))++q.2.2.2.1.take j) ((sts (L.take i)).flatMap (·.2.2)) H'∧KeepT H5 H')
        ⟨⟨_,_,_,rfl⟩,by rw [List.take_zero,List.append_nil]; exact D,KeepT.refl _⟩ (fun j σ H' _ z=>z.2.2.sq f2) ?_ ?_
      · rintro j v σ H6 hj ⟨⟨w6,w7,w8,rfl⟩,D6,k6⟩
        obtain ⟨hl,eh,ho,ht⟩:=D6.hh
        obtain ⟨r,er⟩:=get_of_lt (xs:=q.2.2.2.1) (j:=j) (by rw [← Paired.length t2]; exact (List.getElem?_eq_some_iff.mp hj).1)
        obtain ⟨a,t,ha,cs,rfl,g1,g2,g3,g4⟩:=(paired_get t2 j v r hj er).keep k6
        have hj':=(List.getElem?_eq_some_iff.mp er).1
        have tk1:q.2.2.2.1.take (j + 1)=q.2.2.2.1.take j++[r]:=by rw [List.take_add_one,er]; rfl
        have nin:r.1∉(rowsOf (sts (L.take i))++q.2.2.2.1.take j).map (·.1):=by
          intro z
          have e9:q.2.2.2.1=q.2.2.2.1.take (j + 1)++q.2.2.2.1.drop (j + 1):=(List.take_append_drop _ _).symm
          rw [e9,tk1,← List.append_assoc,← List.append_assoc,← List.append_assoc,List.append_assoc (rowsOf (sts (L.take i))++q.2.2.2.1.take j++[r])] at nd
          have nd2:((rowsOf (sts (L.take i))++q.2.2.2.1.take j++[r]).map (·.1)).Nodup:=by
            rw [List.map_append] at nd
            exact (List.nodup_append.mp nd).1
          rw [List.map_append] at nd2
          exact (List.nodup_append.mp nd2).2.2 r.1 z r.1 (by simp) rfl
        have lz:(rowsOf (sts (L.take i))++q.2.2.2.1.take j).length≤40:=by rw [List.length_append,List.length_take]; omega
        have lh:hl.length≤40:=by
          have:=congrArg List.length ho.keys
          rw [List.length_map,List.length_map] at this
          omega
        refine ⟨a,_,rfl,g1,rfl,_,_,rfl,_,_,rfl,_,_,rfl,rfl,?_⟩
        refine ⟨_,rfl,_,rfl,_,rfl,hd,_,rfl,DPut.t (k:=tk r.1) eh g2 (by rw [List.length_map]; exact small2k (by omega)),?_⟩
        rw [putK_tk (V.ref ha) (fun q' hq' z=>nin (by rw [← ho.keys]; exact List.mem_map.mpr ⟨q',hq',z⟩))]
        rw [show (hl.map fun q=>(tk q.1,V.ref q.2.1))++[(tk r.1,V.ref ha)]=(hl++[(r.1,ha,r.2.2)]).map fun q=>(tk q.1,V.ref q.2.1) by rw [List.map_append]; rfl]
        have kt7:KeepT H6 (upd H6 hd (dRef (hl++[(r.1,ha,r.2.2)]))):=KeepT.upd fun o' e=>by
          rw [eh] at e; cases e; exact ⟨fun _ z=>(by cases z),fun _ _ z=>(by cases z)⟩
        have fr7:∀ b ob,H6 b=some ob→b≠hd→(upd H6 hd (dRef (hl++[(r.1,ha,r.2.2)]))) b=some ob:=fun b ob e n=>by rw [upd_ne n]; exact e
        have eh7:(upd H6 hd (dRef (hl++[(r.1,ha,r.2.2)]))) hd=some (dRef (hl++[(r.1,ha,r.2.2)])):=upd_same
        rw [show HO.dT ((hl++[(r.1,ha,r.2.2)]).map fun q=>(tk q.1,V.ref q.2.1))=dRef (hl++[(r.1,ha,r.2.2)]) from rfl]
        generalize upd H6 hd (dRef (hl++[(r.1,ha,r.2.2)]))=H7 at kt7 fr7 eh7
        have eo7:=fr7 _ _ D6.ho (Ne.symm nho)
        refine ⟨_,rfl,_,rfl,_,rfl,od,_,rfl,DPut.t (k:=tk r.1) eo7 (kt7.tup _ _ g2) (by rw [List.length_map,List.length_map]; exact small2k (by omega)),?_⟩
        rw [putK_tk _ (fun q' hq' z=>nin (by
          obtain ⟨r',hr',e'⟩:=List.mem_map.mp hq'
          exact List.mem_map.mpr ⟨r',hr',by rw [← z,← e']⟩))]
        rw [show ((rowsOf (sts (L.take i))++q.2.2.2.1.take j).map (fun r=>(r.1,r.2.1))).map (fun q=>(tk q.1,V.int q.2))++[(tk r.1,V.int r.2.1)]=((rowsOf (sts (L.take i))++q.2.2.2.1.take (j + 1)).map (fun r=>(r.1,r.2.1))).map (fun q=>(tk q.1,V.int q.2)) by rw [tk1,← List.append_assoc]; generalize rowsOf (sts (L.take i))++q.2.2.2.1.take j=l; rw [List.map_append (l₂:=[r]),List.map_append]; rfl]
        have kt8:∀ u:HO,KeepT H7 (upd H7 od u):=fun u=>KeepT.upd fun o' e=>by
          rw [eo7] at e; cases e; exact ⟨fun _ z=>(by cases z),fun _ _ z=>(by cases z)⟩
        refine ⟨⟨_,_,_,rfl⟩,⟨by rw [upd_ne (Ne.symm nd2)]; exact fr7 _ _ D6.fz (Ne.symm nd1),⟨_,by rw [upd_ne nho]; exact eh7,by rw [tk1,← List.append_assoc]; exact ho.snoc r ha,fun q' hq'=>?_⟩,upd_same,by rw [upd_ne (Ne.symm nor)]; exact fr7 _ _ D6.hr (Ne.symm nhr),by rw [upd_ne (Ne.symm nos)]; exact fr7 _ _ D6.hs (Ne.symm nhs),(D6.kt.trans kt7).trans (kt8 _),fun b ob e n1 n2 n3 n4 n5=>by rw [upd_ne n3]; exact fr7 _ _ (D6.fr b ob e n1 n2 n3 n4 n5) n2⟩,(k6.trans kt7).trans (kt8 _)⟩
        rcases List.mem_append.mp hq' with hq' | hq'
        · exact ((ht.keep kt7).keep (kt8 _)) q' hq'
        · rw [List.mem_singleton.mp hq']; exact ⟨cs,(kt7.trans (kt8 _)).sq g3,ThsAt.keep (kt7.trans (kt8 _)) g4⟩
      · rintro σ H6 ⟨⟨w6,w7,w8,rfl⟩,D6,k6⟩
        rw [Paired.length t2,List.take_length] at D6
        refine ⟨_,rfl,_,rfl,d,_,rfl,gd D6.fz mq,q.2.1,_,2,V.ref y3,rfl,rfl,k6.sq f0,rfl,y3,rfl,⟨_,k6.sq f3⟩,?_⟩
        refine for_tup (K:=K) (a:=y3) (xs:=ds) (fun j σ H'=>(∃ x6 x9,σ=[some (.ref d),some (.ref hd),some (.ref od),some (.ref rd),some (.ref sd),some (.int q.1),x6,w7,w8,x9,none,none])∧D1 K H4 d hd od rd sd o L (rowsOf (sts (L.take i))++q.2.2.2.1) ((sts (L.take i)).flatMap (·.2.2)++q.2.2.2.2.take j) H'∧KeepT H6 H')
          ⟨⟨_,_,rfl⟩,by rw [List.take_zero,List.append_nil]; exact D6,KeepT.refl _⟩ (fun j σ H' _ z=>(k6.trans z.2.2).sq f3) ?_ ?_
        · rintro j v σ H7 hj ⟨⟨x6,x9,rfl⟩,D7,k7⟩
          obtain ⟨x,ex⟩:=get_of_lt (xs:=q.2.2.2.2) (j:=j) (by rw [← Paired.length t3]; exact (List.getElem?_eq_some_iff.mp hj).1)
          obtain ⟨a,t,rfl,g1,g2⟩:=(paired_get t3 j v x hj ex).keep (k6.trans k7)
          have hj':=(List.getElem?_eq_some_iff.mp ex).1
          refine ⟨a,_,rfl,g1,rfl,_,_,rfl,_,_,rfl,rfl,?_⟩
          refine ⟨_,rfl,sd,rfl,.inr ⟨_,.inl D7.hs⟩,_,rfl,_,DGet.t (k:=tk x.1) D7.hs g2,_,rfl,_,x.2,getW_val _ _,rfl,_,rfl,_,rfl,sd,_,rfl,DPut.t (k:=tk x.1) D7.hs g2 (by
            rw [List.length_map]
            have:=foldW_len ((sts (L.take i)).flatMap (·.2.2)++q.2.2.2.2.take j) []
            rw [List.length_append,List.length_take] at this
            simp only [List.length_nil] at this
            exact small2k (by omega)),?_⟩
          rw [show ((fun (i j:Int)=>V.int (i + j)) (getW (((sts (L.take i)).flatMap (·.2.2)++q.2.2.2.2.take j).foldl addW []) x.1) x.2)=V.int (getW (((sts (L.take i)).flatMap (·.2.2)++q.2.2.2.2.take j).foldl addW []) x.1 + x.2) from rfl,putK_int]
          have kt8:∀ u:HO,KeepT H7 (upd H7 sd u):=fun u=>KeepT.upd fun o' e=>by
            rw [D7.hs] at e; cases e; exact ⟨fun _ z=>(by cases z),fun _ _ z=>(by cases z)⟩
          have e7:∀ l:List (T2×Int),(l++[x]).foldl addW []=addW (l.foldl addW []) x:=fun l=>by rw [List.foldl_append]; rfl
          have e8:(sts (L.take i)).flatMap (·.2.2)++q.2.2.2.2.take (j + 1)=((sts (L.take i)).flatMap (·.2.2)++q.2.2.2.2.take j)++[x]:=by rw [List.take_add_one,ex,← List.append_assoc]; rfl
          obtain ⟨hl,eh,ho,ht⟩:=D7.hh
          refine ⟨⟨_,_,rfl⟩,⟨by rw [upd_ne (Ne.symm nd4)]; exact D7.fz,⟨hl,by rw [upd_ne nhs]; exact eh,ho,ht.keep (kt8 _)⟩,by rw [upd_ne nos]; exact D7.ho,by rw [upd_ne nrs]; exact D7.hr,by rw [e8,e7]; exact upd_same,D7.kt.trans (kt8 _),fun b ob e n1 n2 n3 n4 n5=>by rw [upd_ne n5]; exact D7.fr b ob e n1 n2 n3 n4 n5⟩,k7.trans (kt8 _)⟩
        · rintro σ H7 ⟨⟨x6,x9,rfl⟩,D7,k7⟩
          rw [Paired.length t3,List.take_length] at D7
          refine ⟨⟨_,_,_,_,_,rfl⟩,?_⟩
          rw [stT eq]
          unfold rowsOf at D7 ⊢
          simp only [List.flatMap_append,List.flatMap_cons,List.flatMap_nil,List.append_nil]
          exact D7
    · rintro σ H5 ⟨⟨u5,u6,u7,u8,u9,rfl⟩,D⟩
      rw [List.length_map,List.take_length] at D
      refine ⟨upd H5 d (.dK (L.map fun q=>((.inl q.1:Key),V.ref q.2.1))),⟨d,o,_,D.fz,fun ob v z=>?_,rfl⟩,?_⟩
      · have z:H d=some (.frz ob v):=z
        rw [S.ob] at z; cases z
      have n4:∀ o u,H4 d≠some (.frz o u):=fun o u z=>by rw [ed4] at z; cases z
      have X6:D2 K H H4 d hd rd sd (sts L) [] (upd H5 d (.dK (L.map fun q=>((.inl q.1:Key),V.ref q.2.1)))):=by
        obtain ⟨hl,eh,h,t⟩:=D.hh
        exact ⟨⟨hl,by rw [upd_ne nd1]; exact eh,h,t.thaw D.fz (fun _ z=>by cases z)⟩,by rw [upd_ne nd3]; exact D.hr,by rw [upd_ne nd4]; exact D.hs,keep_thaw D.kt D.fz n4,fun b ob e n=>by rw [upd_ne n]; exact D.fr b ob (s04 _ _ e) n (ne_of_none e h0) (ne_of_none e o0) (ne_of_none e r0) (ne_of_none e d0)⟩
      have eo6:(upd H5 d (.dK (L.map fun q=>((.inl q.1:Key),V.ref q.2.1)))) od=some (dInt ((rowsOf (sts L)).map fun r=>(r.1,r.2.1))):=by rw [upd_ne nd2]; exact D.ho
      have ed6:(upd H5 d (.dK (L.map fun q=>((.inl q.1:Key),V.ref q.2.1)))) d=some (.dK (L.map fun q=>((.inl q.1:Key),V.ref q.2.1))):=upd_same
      generalize upd H5 d (.dK (L.map fun q=>((.inl q.1:Key),V.ref q.2.1)))=H6 at X6 eo6 ed6
      clear D
      refine ⟨_,rfl,d,_,rfl,ed6,fun o1=>?_⟩
      refine for_dictK (d:=d) (ob:=o1) (fun i σ H'=>(∃ u5 u6,σ=[some (.ref d),some (.ref hd),some (.ref od),some (.ref rd),some (.ref sd),u5,u6,u7,u8,u9,none,none])∧H' d=some (.frz o1 (.dK (L.map fun q=>((.inl q.1:Key),V.ref q.2.1))))∧H' od=some (dInt ((rowsOf (sts L)).map fun r=>(r.1,r.2.1)))∧D2 K H H4 d hd rd sd (sts L) (addAll [] ((sts (L.take i)).flatMap (·.1))) H')
        ⟨⟨_,_,rfl⟩,upd_same,by rw [upd_ne nd2]; exact eo6,X6.frz ed6 ⟨fun _ z=>(by cases z),fun _ _ z=>(by cases z)⟩ nd1 nd3 nd4 (.inl rfl)⟩ (fun i σ H' _ z=>z.2.1) ?_ ?_
      · rintro i kk v σ H7 hi ⟨⟨v5,v6,rfl⟩,ef7,eo7,X7⟩
        obtain ⟨q,eq,rfl,rfl⟩:=StsAt.keyv hi
        have mq:=List.mem_of_getElem? eq
        have st7:=((S.st q mq).keep (KeepT.of_same s04)).keep X7.kt
        obtain ⟨y1,y2,y3,as1,bs,ds,f0,f1,t1,f2,t2,f3,t3⟩:=st7
        have cut:sts L=sts (L.take (i + 1))++sts (L.drop (i + 1)):=by rw [← List.map_append,List.take_append_drop]
        have zh:=fi.hz
        rw [cut,stT eq] at zh
        simp only [List.flatMap_append,List.flatMap_cons,List.flatMap_nil,List.append_nil,List.length_append] at zh
        refine ⟨_,rfl,_,rfl,d,_,rfl,gd ef7 mq,q.2.1,_,0,V.ref y1,rfl,rfl,f0,rfl,y1,rfl,⟨_,f1⟩,?_⟩
        refine for_tup (K:=K) (a:=y1) (xs:=as1.map V.ref) (fun j σ H'=>(∃ w6,σ=[some (.ref d),some (.ref hd),some (.ref od),some (.ref rd),some (.ref sd),some (.int q.1),w6,u7,u8,u9,none,none])∧H' d=some (.frz o1 (.dK (L.map fun q=>((.inl q.1:Key),V.ref q.2.1))))∧H' od=some (dInt ((rowsOf (sts L)).map fun r=>(r.1,r.2.1)))∧D2 K H H4 d hd rd sd (sts L) (addAll [] ((sts (L.take i)).flatMap (·.1)++q.2.2.1.take j)) H'∧KeepT H7 H')
          ⟨⟨_,rfl⟩,ef7,eo7,by rw [List.take_zero,List.append_nil]; exact X7,KeepT.refl _⟩ (fun j σ H' _ z=>z.2.2.2.2.sq f1) ?_ ?_
        · rintro j v σ H8 hj ⟨⟨w6,rfl⟩,ef8,eo8,X8,k8⟩
          rw [List.getElem?_map] at hj
          cases ha:as1[j]? with
          | none=>rw [ha] at hj; cases hj
          | some a =>
            rw [ha] at hj
            have hj:V.ref a=v:=Option.some.inj hj
            subst hj
            obtain ⟨t,et⟩:=get_of_lt (xs:=q.2.2.1) (j:=j) (by rw [← Paired.length t1]; exact (List.getElem?_eq_some_iff.mp ha).1)
            have ea:=k8.tup _ _ (paired_get t1 j a t ha et)
            have lz:=addAll_len ((sts (L.take i)).flatMap (·.1)++q.2.2.1.take j) []
            rw [List.length_append,List.length_take] at lz
            simp only [List.length_nil] at lz
            refine ⟨_,rfl,_,rfl,rd,_,rfl,DPut.t (k:=tk t) X8.hr ea (by rw [List.length_map]; exact small2k (by omega)),?_⟩
            rw [putK_hand]
            have e8:(sts (L.take i)).flatMap (·.1)++q.2.2.1.take (j + 1)=((sts (L.take i)).flatMap (·.1)++q.2.2.1.take j)++[t]:=by rw [List.take_add_one,et,← List.append_assoc]; rfl
            refine ⟨⟨_,rfl⟩,by show upd H8 rd _ d=_; rw [upd_ne (Ne.symm nd3)]; exact ef8,by show upd H8 rd _ od=_; rw [upd_ne nor]; exact eo8,?_,k8.trans (KeepT.upd fun o' e=>by rw [X8.hr] at e; cases e; exact ⟨fun _ z=>(by cases z),fun _ _ z=>(by cases z)⟩)⟩
            rw [e8,addAll_snoc]
            exact X8.add nhr (Ne.symm nrs) r0
        · rintro σ H8 ⟨⟨w6,rfl⟩,ef8,eo8,X8,k8⟩
          rw [List.length_map,Paired.length t1,List.take_length] at X8
          refine ⟨⟨_,_,rfl⟩,ef8,eo8,?_⟩
          rw [stT eq]
          simp only [List.flatMap_append,List.flatMap_cons,List.flatMap_nil,List.append_nil]
          exact X8
      · rintro σ H7 ⟨⟨v5,v6,rfl⟩,ef7,eo7,X7⟩
        rw [List.length_map,List.take_length] at X7
        refine ⟨upd H7 d (.dK (L.map fun q=>((.inl q.1:Key),V.ref q.2.1))),⟨d,o1,_,ef7,fun ob v z=>?_,rfl⟩,?_⟩
        · have z:H d=some (.frz ob v):=z
          rw [S.ob] at z; cases z
        have X8:=X7.thaw ef7 (fun _ z=>by cases z) n4 nd1 nd3 nd4 (.inl rfl)
        have eo8:(upd H7 d (.dK (L.map fun q=>((.inl q.1:Key),V.ref q.2.1)))) od=some (dInt ((rowsOf (sts L)).map fun r=>(r.1,r.2.1))):=by rw [upd_ne nd2]; exact eo7
        have ed8:(upd H7 d (.dK (L.map fun q=>((.inl q.1:Key),V.ref q.2.1)))) d=some (.dK (L.map fun q=>((.inl q.1:Key),V.ref q.2.1))):=upd_same
        generalize upd H7 d (.dK (L.map fun q=>((.inl q.1:Key),V.ref q.2.1)))=H8 at X8 eo8 ed8
        clear X7 ef7 eo7 X6 eo6 ed6
        have ndr:=fi.nd
        have zr:=fi.rz
        have zh:=fi.hz
        refine ⟨_,rfl,od,_,rfl,eo8,fun o2=>?_⟩
        refine for_dict (d:=od) (ob:=o2) (fun i σ H'=>(∃ u6,σ=[some (.ref d),some (.ref hd),some (.ref od),some (.ref rd),some (.ref sd),v5,u6,u7,u8,u9,none,none])∧H' d=some (.dK (L.map fun q=>((.inl q.1:Key),V.ref q.2.1)))∧H' od=some (.frz o2 (dInt ((rowsOf (sts L)).map fun r=>(r.1,r.2.1))))∧D2 K H H4 d hd rd sd (sts L) (addAll [] ((sts L).flatMap (·.1)++(((rowsOf (sts L)).take i).filter fun r=>!decide (r.2.1=getW (sumsOf (sts L)) r.1)).map (·.1))) H')
          ⟨⟨_,rfl⟩,by rw [upd_ne (Ne.symm nd2)]; exact ed8,upd_same,by rw [List.take_zero,List.filter_nil,List.map_nil,List.append_nil]; exact X8.frz eo8 ⟨fun _ z=>(by cases z),fun _ _ z=>(by cases z)⟩ nho (Ne.symm nor) (Ne.symm nos) (.inr o0)⟩ (fun i σ H' _ z=>z.2.2.1) ?_ ?_
        · rintro i a kk v σ H9 hi ea ⟨⟨w6,rfl⟩,ed9,ef9,X9⟩
          rw [List.map_map,List.getElem?_map] at hi
          cases er:(rowsOf (sts L))[i]? with
          | none=>rw [er] at hi; cases hi
          | some r =>
            rw [er] at hi
            have hi:(tk r.1,V.int r.2.1)=(kk,v):=Option.some.inj hi
            have e2:kk=tk r.1:=(Prod.mk.inj hi).1.symm
            rw [e2,tk_kV] at ea
            have mr:=List.mem_of_getElem? er
            have tk1:(rowsOf (sts L)).take (i + 1)=(rowsOf (sts L)).take i++[r]:=by rw [List.take_add_one,er]; rfl
            have gv:valV (((rowsOf (sts L)).map fun r=>(r.1,r.2.1)).map fun q=>(tk q.1,V.int q.2)) (tk r.1)=some (V.int r.2.1):=by
              rw [List.map_map]
              have:=valV_tk (rowsOf (sts L)) (fun r=>r.1) (fun r=>V.int r.2.1) r.1
              rw [FX.find_self (k:=fun r:T2×Int×List T2=>r.1) ndr mr] at this
              exact this
            refine ⟨_,rfl,_,rfl,od,_,rfl,.inr ⟨_,tk r.1,a,.inr ⟨o2,ef9⟩,rfl,ea,gv.symm⟩,_,rfl,sd,rfl,.inr ⟨_,.inl X9.hs⟩,_,rfl,_,DGet.t (k:=tk r.1) X9.hs ea,?_⟩
            rw [getW_val]
            refine ⟨rfl,_,rfl,?_⟩
            refine ite2 (fun c=>?_) (fun c=>?_)
            · have c:¬ r.2.1=getW (sumsOf (sts L)) r.1:=fun z=>by rw [z] at c; simp at c
              have lz:=addAll_len ((sts L).flatMap (·.1)++(((rowsOf (sts L)).take i).filter fun r=>!decide (r.2.1=getW (sumsOf (sts L)) r.1)).map (·.1)) []
              have lf:=List.length_filter_le (fun r:T2×Int×List T2=>!decide (r.2.1=getW (sumsOf (sts L)) r.1)) ((rowsOf (sts L)).take i)
              rw [List.length_append,List.length_map] at lz
              rw [List.length_take] at lf
              simp only [List.length_nil] at lz
              refine ⟨_,rfl,_,rfl,rd,_,rfl,DPut.t (k:=tk r.1) X9.hr ea (by rw [List.length_map]; exact small2k (by omega)),?_⟩
              rw [putK_hand]
              refine ⟨⟨_,rfl⟩,by show upd H9 rd _ d=_; rw [upd_ne (Ne.symm nd3)]; exact ed9,by show upd H9 rd _ od=_; rw [upd_ne nor]; exact ef9,?_⟩
              rw [tk1,List.filter_append,List.map_append,← List.append_assoc]
              have ef1:([r].filter fun r=>!decide (r.2.1=getW (sumsOf (sts L)) r.1))=[r]:=by simp [c]
              rw [ef1]
              show D2 K H H4 d hd rd sd (sts L) (addAll [] (_++[r.1])) _
              rw [addAll_snoc]
              exact X9.add nhr (Ne.symm nrs) r0
            · have c:r.2.1=getW (sumsOf (sts L)) r.1:=by simpa using c
              refine ⟨⟨_,rfl⟩,ed9,ef9,?_⟩
              rw [tk1,List.filter_append]
              have ef1:([r].filter fun r=>!decide (r.2.1=getW (sumsOf (sts L)) r.1))=[]:=by simp [c]
              rw [ef1,List.append_nil]
              exact X9
        · rintro σ H9 ⟨⟨w6,rfl⟩,ed9,ef9,X9⟩
          rw [List.length_map,List.length_map,List.take_length] at X9
          refine ⟨upd H9 od (dInt ((rowsOf (sts L)).map fun r=>(r.1,r.2.1))),⟨od,o2,_,ef9,fun ob v z=>?_,rfl⟩,?_⟩
          · have z:H od=some (.frz ob v):=z
            rw [o0] at z; cases z
          have X10:=X9.thaw ef9 (fun _ z=>by cases z) (fun o u z=>by rw [e2] at z; cases z) nho (Ne.symm nor) (Ne.symm nos) (.inr o0)
          have ed10:(upd H9 od (dInt ((rowsOf (sts L)).map fun r=>(r.1,r.2.1)))) d=some (.dK (L.map fun q=>((.inl q.1:Key),V.ref q.2.1))):=by rw [upd_ne (Ne.symm nd2)]; exact ed9
          generalize upd H9 od (dInt ((rowsOf (sts L)).map fun r=>(r.1,r.2.1)))=H10 at X10 ed10
          clear X9 ef9 ed9
          obtain ⟨hl,eh10,hho,hht10⟩:=X10.hh
          have g0:Go (sts L) hl 0 (addAll [] ((sts L).flatMap (·.1)++((rowsOf (sts L)).filter fun r=>!decide (r.2.1=getW (sumsOf (sts L)) r.1)).map (·.1))):=by
            have st:∀ t,t∈(sts L).flatMap (·.1)++((rowsOf (sts L)).filter fun r=>!decide (r.2.1=getW (sumsOf (sts L)) r.1)).map (·.1)↔t∈startsOf (sumsOf (sts L)) (sts L):=fun t=>by
              rw [mem_starts,List.mem_append,List.mem_flatMap,List.mem_map]
              constructor
              · rintro (h | ⟨r,hr,e⟩)
                · exact .inl h
                · have:=List.mem_filter.mp hr
                  exact .inr ⟨r,this.1,e,by simpa using this.2⟩
              · rintro (h | ⟨r,hr,e,c⟩)
                · exact .inl h
                · exact .inr ⟨r,List.mem_filter.mpr ⟨hr,by simpa using c⟩,e⟩
            have ms:∀ t,t∈addAll [] ((sts L).flatMap (·.1)++((rowsOf (sts L)).filter fun r=>!decide (r.2.1=getW (sumsOf (sts L)) r.1)).map (·.1))↔t∈startsOf (sumsOf (sts L)) (sts L):=fun t=>by
              rw [mem_addAll]
              exact ⟨fun h=>(st t).mp (h.resolve_left (List.not_mem_nil)),fun h=>.inr ((st t).mpr h)⟩
            refine ⟨addAll_nd List.nodup_nil,Nat.zero_le _,fun t ht=>List.mem_append_left _ ((ms t).mp ht),fun t ht=>?_,fun t ht=>(ms t).mpr ht,fun t ht=>by rw [List.take_zero] at ht; cases ht⟩
            rcases mem_starts.mp ((ms t).mp ht) with ⟨S',hS,m⟩ | ⟨r,hr,e,c⟩
            · exact .hand hS m
            · rw [← e]; exact .out hr c
          generalize addAll [] ((sts L).flatMap (·.1)++((rowsOf (sts L)).filter fun r=>!decide (r.2.1=getW (sumsOf (sts L)) r.1)).map (·.1))=R0 at g0 X10
          have hhx:∀ {H':Hp} {R:List T2},D2 K H H4 d hd rd sd (sts L) R H'→H' hd=some (dRef hl)→HeldT K H' hl→True:=fun _ _ _=>trivial
          clear hhx
          refine ⟨fun m σ H'=>∃ (many:Nat) (R:List T2) (w6 w11:Option V),σ=[some (.ref d),some (.ref hd),some (.ref od),some (.ref rd),some (.ref sd),v5,w6,u7,u8,u9,some (.int (many:Int)),w11]∧m=400 - many∧H' d=some (.dK (L.map fun q=>((.inl q.1:Key),V.ref q.2.1)))∧H' hd=some (dRef hl)∧HeldT K H' hl∧D2 K H H4 d hd rd sd (sts L) R H'∧Go (sts L) hl many R,
            ⟨400,0,R0,_,_,rfl,rfl,ed10,eh10,hht10,X10,g0⟩,?_⟩
          rintro m σ H11 ⟨many,R,w6',w11,rfl,rfl,ed11,eh11,hht11,X11,g⟩
          have lR:=g.len fi
          refine ⟨_,rfl,rd,_,rfl,X11.hr,_,rfl,_,_,rfl,rfl,_,rfl,?_⟩
          rw [List.length_map]
          refine ite2 (fun c=>?_) (fun c=>?_)
          · have c:=of_decide_eq_true c
            refine ⟨fun σ' H'=>∃ (w6 w11:Option V),σ'=[some (.ref d),some (.ref hd),some (.ref od),some (.ref rd),some (.ref sd),v5,w6,u7,u8,u9,some (.int (R.length:Int)),w11]∧H' d=some (.dK (L.map fun q=>((.inl q.1:Key),V.ref q.2.1)))∧H' hd=some (dRef hl)∧HeldT K H' hl∧D2 K H H4 d hd rd sd (sts L) (addAll R (R.flatMap (getH hl))) H',fun σ' H' ⟨w6,w11,e,a1,a2,a3,a4⟩=>⟨400 - R.length,by omega,R.length,_,w6,w11,e,rfl,a1,a2,a3,a4,g.step ndr hho⟩,?_⟩
            refine ⟨_,rfl,rd,_,rfl,X11.hr,?_⟩
            rw [List.length_map]
            refine ⟨_,rfl,rd,_,rfl,.inl X11.hr,fun l as hl0 ks=>?_⟩
            have th:ThsAt H11 as R:=by
              have la:=Paired.length ks
              rw [List.length_map] at la
              refine paired_of (by omega) fun j a t ea et=>?_
              have:=paired_get ks j (tk t,V.bl true) a (by rw [List.getElem?_map,et]; rfl) ea
              exact this
            have s12:=same_new (o:=.lst (as.map V.ref)) hl0
            have e12:(upd H11 l (.lst (as.map V.ref))) l=some (.lst (as.map V.ref)):=upd_same
            have X12:D2 K H H4 d hd rd sd (sts L) R (upd H11 l (.lst (as.map V.ref))):=⟨⟨hl,s12 _ _ eh11,hho,hht11.keep (KeepT.of_same s12)⟩,s12 _ _ X11.hr,s12 _ _ X11.hs,X11.kt.trans (KeepT.of_same s12),fun b ob e n=>s12 _ _ (X11.fr b ob e n)⟩
            have th12:=ThsAt.keep (KeepT.of_same s12) th
            have ed12:=s12 _ _ ed11
            have eh12:=s12 _ _ eh11
            have hht12:=hht11.keep (KeepT.of_same s12)
            have nlr:l≠rd:=fun z=>by rw [z,X11.hr] at hl0; cases hl0
            generalize upd H11 l (.lst (as.map V.ref))=H12 at s12 e12 X12 th12 ed12 eh12 hht12
            refine ⟨l,rfl,⟨_,SqL.of e12⟩,?_⟩
            have gsz:∀ t,(getH hl t).length≤3:=fun t=>by
              by_cases z:t∈(rowsOf (sts L)).map (·.1)
              · obtain ⟨r,hr',e⟩:=List.mem_map.mp z
                rw [← e,hho.get ndr hr']; exact fi.oz r hr'
              · have:getH hl t=[]:=by
                  unfold getH
                  rw [List.find?_eq_none.mpr fun q hq=>by
                    have:q.1≠t:=fun y=>z (by rw [← hho.keys]; exact List.mem_map.mpr ⟨q,hq,y⟩)
                    simpa using this]
                  rfl
                rw [this]; simp
            have fsz:∀ l:List T2,(l.flatMap (getH hl)).length≤3 * l.length:=fun l=>by
              induction l with
              | nil=>simp
              | cons t l ih =>
                have:=gsz t
                simp only [List.flatMap_cons,List.length_append,List.length_cons]
                omega
            refine for_list (K:=K) (a:=l) (xs:=as.map V.ref) (fun j σ H'=>(∃ x6 x11,σ=[some (.ref d),some (.ref hd),some (.ref od),some (.ref rd),some (.ref sd),v5,x6,u7,u8,u9,some (.int (R.length:Int)),x11])∧H' l=some (.lst (as.map V.ref))∧H' d=some (.dK (L.map fun q=>((.inl q.1:Key),V.ref q.2.1)))∧H' hd=some (dRef hl)∧HeldT K H' hl∧D2 K H H4 d hd rd sd (sts L) (addAll R ((R.take j).flatMap (getH hl))) H'∧KeepT H12 H')
              ⟨⟨_,_,rfl⟩,e12,ed12,eh12,hht12,X12,KeepT.refl _⟩ (fun j σ H' _ z=>SqL.of z.2.1) ?_ ?_
            · rintro j v σ H13 hj ⟨⟨x6,x11,rfl⟩,el13,ed13,eh13,hht13,X13,k13⟩
              rw [List.getElem?_map] at hj
              cases ha:as[j]? with
              | none=>rw [ha] at hj; cases hj
              | some a =>
                rw [ha] at hj
                have hj:V.ref a=v:=Option.some.inj hj
                subst hj
                obtain ⟨t,et⟩:=get_of_lt (xs:=R) (j:=j) (by rw [← Paired.length th]; exact (List.getElem?_eq_some_iff.mp ha).1)
                have ea:=k13.tup _ _ (paired_get th12 j a t ha et)
                have tk1:R.take (j + 1)=R.take j++[t]:=by rw [List.take_add_one,et]; rfl
                refine ⟨_,rfl,hd,rfl,.inr ⟨_,.inl eh13⟩,_,rfl,Nat.zero_le _,fun z hz=>?_⟩
                have s14:=same_new (o:=.tup []) hz
                have e14:(upd H13 z (.tup [])) z=some (.tup []):=upd_same
                have X14:D2 K H H4 d hd rd sd (sts L) (addAll R ((R.take j).flatMap (getH hl))) (upd H13 z (.tup [])):=⟨⟨hl,s14 _ _ eh13,hho,hht13.keep (KeepT.of_same s14)⟩,s14 _ _ X13.hr,s14 _ _ X13.hs,X13.kt.trans (KeepT.of_same s14),fun b ob e n=>s14 _ _ (X13.fr b ob e n)⟩
                have el14:=s14 _ _ el13
                have ed14:=s14 _ _ ed13
                have eh14:=s14 _ _ eh13
                have hht14:=hht13.keep (KeepT.of_same s14)
                have ea14:=s14 _ _ ea
                have k14:=k13.trans (KeepT.of_same s14)
                generalize upd H13 z (.tup [])=H14 at s14 e14 X14 el14 ed14 eh14 hht14 ea14 k14
                obtain ⟨ov,ad,cs,gv,ge,sq,tc⟩:∃ (ov:Option V) (ad:Addr) (cs:List Addr),DGet H14 hd (.ref a) ov∧ov.getD (.ref z)=.ref ad∧SqT K H14 ad (cs.map V.ref)∧ThsAt H14 cs (getH hl t):=by
                  by_cases y:t∈hl.map (·.1)
                  · obtain ⟨ad,fd'⟩:=find_of y
                    obtain ⟨cs,q1,q2⟩:=hht14 _ (List.mem_of_find?_eq_some fd')
                    exact ⟨_,ad,cs,ref_get eh14 ea14 fd',rfl,q1,q2⟩
                  · have gn:getH hl t=[]:=by
                      unfold getH
                      rw [List.find?_eq_none.mpr fun q hq=>by
                        have:q.1≠t:=fun w=>y (List.mem_map.mpr ⟨q,hq,w⟩)
                        simpa using this]
                      rfl
                    refine ⟨none,z,[],?_,rfl,SqT.of e14,by rw [gn]; exact .nil⟩
                    have:=DGet.t (k:=tk t) eh14 ea14
                    rw [valV_tk (k:=fun q:T2×Addr×List T2=>q.1) (f:=fun q=>V.ref q.2.1),List.find?_eq_none.mpr fun q hq=>by
                      have:q.1≠t:=fun w=>y (List.mem_map.mpr ⟨q,hq,w⟩)
                      simpa using this] at this
                    exact this
                refine ⟨ov,gv,ad,ge,⟨_,sq⟩,?_⟩
                refine for_tup (K:=K) (a:=ad) (xs:=cs.map V.ref) (fun i σ H'=>(∃ x11,σ=[some (.ref d),some (.ref hd),some (.ref od),some (.ref rd),some (.ref sd),v5,some (.ref a),u7,u8,u9,some (.int (R.length:Int)),x11])∧H' l=some (.lst (as.map V.ref))∧H' d=some (.dK (L.map fun q=>((.inl q.1:Key),V.ref q.2.1)))∧H' hd=some (dRef hl)∧HeldT K H' hl∧D2 K H H4 d hd rd sd (sts L) (addAll R ((R.take j).flatMap (getH hl)++(getH hl t).take i)) H'∧KeepT H14 H')
                  ⟨⟨_,rfl⟩,el14,ed14,eh14,hht14,by rw [List.take_zero,List.append_nil]; exact X14,KeepT.refl _⟩ (fun i σ H' _ z=>z.2.2.2.2.2.2.sq sq) ?_ ?_
                · rintro i v σ H15 hi ⟨⟨y11,rfl⟩,el15,ed15,eh15,hht15,X15,k15⟩
                  rw [List.getElem?_map] at hi
                  cases hc:cs[i]? with
                  | none=>rw [hc] at hi; cases hi
                  | some b =>
                    rw [hc] at hi
                    have hi:V.ref b=v:=Option.some.inj hi
                    subst hi
                    obtain ⟨u,eu⟩:=get_of_lt (xs:=getH hl t) (j:=i) (by rw [← Paired.length tc]; exact (List.getElem?_eq_some_iff.mp hc).1)
                    have eb:=k15.tup _ _ (paired_get tc i b u hc eu)
                    have lz:=addAll_len ((R.take j).flatMap (getH hl)++(getH hl t).take i) R
                    have l1:=fsz (R.take j)
                    have l2:=gsz t
                    rw [List.length_append,List.length_take] at lz
                    rw [List.length_take] at l1
                    refine ⟨_,rfl,_,rfl,rd,_,rfl,DPut.t (k:=tk u) X15.hr eb (by rw [List.length_map]; exact Nat.lt_of_le_of_lt (show _≤2000 by omega) (by decide)),?_⟩
                    rw [putK_hand]
                    have kt16:∀ w:HO,KeepT H15 (upd H15 rd w):=fun w=>KeepT.upd fun o' e=>by rw [X15.hr] at e; cases e; exact ⟨fun _ z=>(by cases z),fun _ _ z=>(by cases z)⟩
                    have e8:(R.take j).flatMap (getH hl)++(getH hl t).take (i + 1)=((R.take j).flatMap (getH hl)++(getH hl t).take i)++[u]:=by rw [List.take_add_one,eu,← List.append_assoc]; rfl
                    refine ⟨⟨_,rfl⟩,by show upd H15 rd _ l=_; rw [upd_ne nlr]; exact el15,by show upd H15 rd _ d=_; rw [upd_ne (Ne.symm nd3)]; exact ed15,by show upd H15 rd _ hd=_; rw [upd_ne nhr]; exact eh15,hht15.keep (kt16 _),?_,k15.trans (kt16 _)⟩
                    rw [e8,addAll_snoc]
                    exact X15.add nhr (Ne.symm nrs) r0
                · rintro σ H15 ⟨⟨y11,rfl⟩,el15,ed15,eh15,hht15,X15,k15⟩
                  rw [List.length_map,Paired.length tc,List.take_length] at X15
                  refine ⟨⟨_,_,rfl⟩,el15,ed15,eh15,hht15,?_,k14.trans k15⟩
                  rw [tk1,List.flatMap_append]
                  simp only [List.flatMap_cons,List.flatMap_nil,List.append_nil]
                  exact X15
            · rintro σ H13 ⟨⟨x6,x11,rfl⟩,el13,ed13,eh13,hht13,X13,k13⟩
              rw [List.length_map,Paired.length th,List.take_length] at X13
              exact ⟨_,_,rfl,ed13,eh13,hht13,X13⟩
          · have c:R.length≤many:=by
              have:=of_decide_eq_false (by simpa using c:decide ((many:Int) < (R.length:Int))=false)
              omega
            have led:=g.done ndr hho c
            refine ⟨_,rfl,hd,_,rfl,eh11,fun o3 p hp=>?_⟩
            have kf:KeepT H11 (upd H11 hd (.frz o3 (dRef hl))):=KeepT.upd fun o' e=>by rw [eh11] at e; cases e; exact ⟨fun _ z=>(by cases z),fun _ _ z=>(by cases z)⟩
            have er:(upd H11 hd (.frz o3 (dRef hl))) rd=some (dHand R):=by rw [upd_ne (Ne.symm nhr)]; exact X11.hr
            have lh:hl.length≤40:=by
              have:=congrArg List.length hho.keys
              rw [List.length_map,List.length_map] at this
              omega
            refine filt_dict (b:=fun u=>!decide (u∈R)) (caps:=[("_law_reached",3)]) (l:=hl) (key:=fun q=>q.1) (val:=fun q=>V.ref q.2.1) (ob:=o3) hp (by omega) upd_same (fun H12 a t Q' sm ha ht q=>?_) fun H12 bs sm ep tb=>?_
            · refine ⟨_,rfl,_,rfl,rd,_,rfl,hand_in (sm _ _ er) ha,_,rfl,?_⟩
              by_cases y:t∈R
              · rw [if_pos y]
                rw [show (!decide (t∈R))=false by simp [y]] at q
                exact q
              · rw [if_neg y]
                rw [show (!decide (t∈R))=true by simp [y]] at q
                exact q
            · have f12:H12 hd=some (.frz o3 (dRef hl)):=sm _ _ upd_same
              refine ⟨upd H12 hd (dRef hl),⟨hd,o3,_,f12,fun ob v z=>?_,rfl⟩,?_⟩
              · have z:H hd=some (.frz ob v):=z
                rw [h0] at z; cases z
              have nph:p≠hd:=fun z=>by rw [z,upd_same] at hp; cases hp
              have ep13:(upd H12 hd (dRef hl)) p=some (.lst (bs.map V.ref)):=by rw [upd_ne nph]; exact ep
              have tb13:=ths_thaw f12 tb
              have s13:Same H (upd H12 hd (dRef hl)):=fun b ob e=>by
                rw [upd_ne (ne_of_none e h0)]
                refine sm _ _ ?_
                rw [upd_ne (ne_of_none e h0)]
                by_cases y:b=d
                · rw [y]; rw [y,S.ob] at e; rw [← e]; exact ed11
                · exact X11.fr b ob e y
              generalize upd H12 hd (dRef hl)=H13 at ep13 tb13 s13
              have ndf:((hl.map (·.1)).filter fun u=>!decide (u∈R)).Nodup:=by rw [hho.keys]; exact ndr.filter _
              obtain ⟨so,pm,pw⟩:=sorts (fun t:T2=>t) (l:=(hl.map (·.1)).filter fun u=>!decide (u∈R)) (by rw [List.map_id']; exact ndf)
              have pw:so.Pairwise lt2:=by rw [List.map_id'] at pw; exact pw
              have lf:=List.length_filter_le (fun u=>!decide (u∈R)) (hl.map (·.1))
              rw [List.length_map] at lf
              refine ⟨p,bs,_,so,rfl,ep13,tb13,by omega,pm,pw,fun r2 as2 hr2 th2=>?_⟩
              have s14:=same_new (o:=.lst (as2.map V.ref)) hr2
              refine ⟨r2,_,rfl,.inl ⟨SqL.of upd_same,fun tt htt=>?_⟩⟩
              have s15:=same_new (o:=.tup (as2.map V.ref)) htt
              refine k tt as2 so _ (same_trans s13 (same_trans s14 s15)) upd_same (ThsAt.keep (KeepT.of_same (same_trans s14 s15)) th2) ⟨pw,fun t=>?_⟩
              rw [pm.mem_iff,List.mem_filter,hho.keys]
              constructor
              · rintro ⟨a1,a2⟩
                exact ⟨a1,fun z=>by rw [decide_eq_true (led t z)] at a2; simp at a2⟩
              · rintro ⟨a1,a2⟩
                exact ⟨a1,by have:t∉R:=fun z=>a2 (g.led t z); simp [this]⟩
end
end K32
namespace K32
open PySem L2 FX
set_option linter.all false
theorem rows_nd:∀ {L:List (Int×Addr×HS)},(L.map (·.1)).Nodup→(∀ q∈L,∀ r∈q.2.2.2.1,r.1.1=q.1)→(∀ q∈L,(q.2.2.2.1.map (·.1)).Nodup)→((rowsOf (sts L)).map (·.1)).Nodup
  | [],_,_,_=>by simp [sts,rowsOf]
  | q :: L,nd,own,rn=>by
    have nd':=List.nodup_cons.mp nd
    have ih:=rows_nd nd'.2 (fun p hp=>own p (List.mem_cons_of_mem _ hp)) (fun p hp=>rn p (List.mem_cons_of_mem _ hp))
    have e:rowsOf (sts (q :: L))=q.2.2.2.1++rowsOf (sts L):=by simp [sts,rowsOf]
    rw [e,List.map_append]
    refine List.nodup_append.mpr ⟨rn q (List.mem_cons_self ..),ih,fun x hx y hy z=>?_⟩
    obtain ⟨r,hr,er⟩:=List.mem_map.mp hx
    obtain ⟨s,hs,es⟩:=List.mem_map.mp hy
    obtain ⟨S,hS,ms⟩:=List.mem_flatMap.mp hs
    obtain ⟨p,hp,ep⟩:=List.mem_map.mp hS
    subst ep
    have h1:=own q (List.mem_cons_self ..) r hr
    have h2:=own p (List.mem_cons_of_mem _ hp) s ms
    refine nd'.1 (List.mem_map.mpr ⟨p,hp,?_⟩)
    show p.1=q.1
    rw [← h1,← h2,er,es,z]
theorem sum_le {f:Int×Addr×HS→Nat} {b:Nat}:∀ {L:List (Int×Addr×HS)},(∀ q∈L,f q≤b)→(L.map f).sum≤b * L.length
  | [],_=>by simp
  | q :: L,h=>by
    have ih:=sum_le (L:=L) fun p hp=>h p (List.mem_cons_of_mem _ hp)
    have:=h q (List.mem_cons_self ..)
    simp only [List.map_cons,List.sum_cons,List.length_cons,Nat.mul_add,Nat.mul_one]
    omega
theorem Fit.fine {L:List (Int×Addr×HS)} (F:Fit L):Fine (sts L):=by
  refine ⟨rows_nd F.nd F.own F.rn,Nat.le_trans F.rz (by decide),?_,fun r hr=>?_,?_⟩
  · rw [List.length_flatMap,List.map_map]
    have:=sum_le (L:=L) (f:=fun q=>q.2.2.1.length) (b:=5) F.hz
    have:=F.len
    refine Nat.le_trans (m:=5 * L.length) ?_ (by omega)
    exact sum_le (L:=L) (f:=fun q=>q.2.2.1.length) (b:=5) F.hz
  · obtain ⟨S,hS,ms⟩:=List.mem_flatMap.mp hr
    obtain ⟨p,hp,ep⟩:=List.mem_map.mp hS
    subst ep
    exact F.oz p hp r ms
  · rw [List.length_flatMap,List.map_map]
    have:=F.len
    refine Nat.le_trans (m:=100 * L.length) ?_ (by omega)
    exact sum_le (L:=L) (f:=fun q=>q.2.2.2.2.length) (b:=100) F.tz
theorem rows_sub {L L':List (Int×Addr×HS)} (s:L'.Sublist L):(rowsOf (sts L')).length≤(rowsOf (sts L)).length:=by
  have e:∀ (q:Int×Addr×HS) (L:List (Int×Addr×HS)),(rowsOf (sts (q :: L))).length=q.2.2.2.1.length + (rowsOf (sts L)).length:=fun q L=>by simp [sts,rowsOf]
  induction s with
  | slnil=>exact Nat.le_refl _
  | cons a _ ih=>rw [e]; omega
  | cons_cons a _ ih=>rw [e,e]; omega
theorem Fit.sub {L L':List (Int×Addr×HS)} (F:Fit L) (s:L'.Sublist L):Fit L':=by
  refine ⟨F.nd.sublist (s.map _),Nat.le_trans s.length_le F.len,fun q hq=>F.own q (s.subset hq),fun q hq=>F.rn q (s.subset hq),?_,fun q hq=>F.hz q (s.subset hq),fun q hq=>F.oz q (s.subset hq),fun q hq=>F.tz q (s.subset hq)⟩
  exact Nat.le_trans (rows_sub s) F.rz
end K32
namespace K32
open PySem L2 FX
set_option linter.all false
def iN (os:List Nat):List V:=os.map fun k:Nat=>V.int (k:Int)
theorem rg_iN (n:Nat):(rg n).map V.int=iN (List.range n):=by unfold rg iN; rw [List.map_map]; rfl
theorem erase_perm {α:Type}:∀ {l:List α} {k:Nat} {x:α},l[k]?=some x→(x :: l.eraseIdx k).Perm l
  | [],_,_,h=>by cases h
  | a :: l,0,x,h=>by
    have h:a=x:=Option.some.inj h
    subst h
    exact .refl _
  | a :: l,k + 1,x,h=>by
    have ih:=erase_perm (l:=l) (k:=k) h
    exact (List.Perm.swap a x _).trans (ih.cons a)
theorem erase_map {α β:Type} (f:α→β):∀ (l:List α) (k:Nat),(l.map f).eraseIdx k=(l.eraseIdx k).map f
  | [],_=>rfl
  | a :: l,0=>rfl
  | a :: l,k + 1=>by
    show f a :: (l.map f).eraseIdx k=f a :: (l.eraseIdx k).map f
    rw [erase_map f l k]
section
variable {P:Program} {w:World} {K:PySem.W.Frag} {mg:Str→Option Value} {base:Heap}
theorem scOr:FnScope ["_law_many","_law_cell_here","_law_order_here","_law_turned"] ["_law_many","_law_cell_here"] (defScope sOrder):=⟨rfl,rfl,rfl,by decide +kernel,rfl,by decide +kernel,by decide +kernel⟩
def spOrder:Sp:=fun vs H Q _=>∃ (n:Nat) (c:Int),vs=[.int n,.int c]∧n≤100∧∀ (l:Addr) (os:List Nat) (H':Hp),H l=none→Same H H'→H' l=some (.lst (iN os))→os.Perm (List.range n)→Q (.ref l) H'
theorem ok_order {f:Addr} {fd:FuncData} (F:Fun K "_law_order" "_law_order" sOrder f fd) (T:Txt mg):FnOk P w K mg base CX0 1 f fd ["_law_many","_law_cell_here"] spOrder:=by
  refine F.ok scOr (fun vs H Q E h=>?_) (fun cdv A outer s H vs Q E hr h=>?_)
  · obtain ⟨n,c,rfl,_⟩:=h
    rfl
  · obtain ⟨n,c,rfl,hz,k⟩:=h
    refine ⟨_,pss_cons (ps_set (i:=2) scOr.nd rfl (Or.inl rfl) (pe_callTy (call_list_rng rfl) (by rfl) T.list PyProof.Rows.boot_list (pa_cons (pe_callTy call_rangeO (by rfl) T.range PyProof.Rows.boot_range (pa_cons (pv 0) pa_nil)) pa_nil)))
      (pss_cons (ps_set (i:=3) scOr.nd rfl (Or.inl rfl) (pe_lst pa_nil))
      (pss_cons (ps_while PassesOwn.never (pt_cmpR (op_neD (hu64 hr)) (pv 2) (pe_lst pa_nil) (nomark _))
        (pss_cons (ps_set (i:=1) scOr.nd rfl (Or.inl rfl) (pe_op op_mod (pe_op op_add (pe_op op_mul (pv 1) pe_int) pe_int) pe_int))
        (pss_one (ps_expr (pe_bm PySem.F.plainAttrs_list PySem.F.slot_list_append PySem.F.type_list_append mt_append (pv 3) (pa_cons (pe_bm PySem.F.plainAttrs_list PySem.F.slot_list_pop PySem.F.type_list_pop mt_popAt (pv 2) (pa_cons (pe_op op_mod (pv 1) (pe_callB call_len_seq (by rfl) T.len PySem.boot_len (pa_cons (pv 2) pa_nil))) pa_nil)) pa_nil))))))
      (pss_one (ps_ret (pv 3))))),?_⟩
    refine ⟨_,rfl,_,rfl,fun p hp=>?_⟩
    have s1:=same_new (o:=rngO p n) hp
    have e1:(upd H p (rngO p n)) p=some (rngO p n):=upd_same
    generalize upd H p (rngO p n)=H1 at s1 e1
    refine ⟨p,n,rfl,e1,by omega,fun l hl=>?_⟩
    rw [rg_iN]
    have s2:=same_new (o:=.lst (iN (List.range n))) hl
    have e2:(upd H1 l (.lst (iN (List.range n)))) l=some (.lst (iN (List.range n))):=upd_same
    have l0:H l=none:=same_free s1 hl
    generalize upd H1 l (.lst (iN (List.range n)))=H2 at s2 e2
    refine ⟨by decide,fun r hr'=>?_⟩
    have s3:=same_new (o:=.lst []) hr'
    have e3:(upd H2 r (.lst [])) r=some (.lst (iN [])):=upd_same
    have r0:H r=none:=same_free s1 (same_free s2 hr')
    have nlr:l≠r:=ne_of_none e2 hr'
    have el3:=s3 _ _ e2
    have s03:=same_trans s1 (same_trans s2 s3)
    generalize upd H2 r (.lst [])=H3 at s3 e3 el3 s03
    refine ⟨fun m σ H'=>∃ (c:Int) (os ts:List Nat),σ=[some (.int n),some (.int c),some (.ref l),some (.ref r)]∧m=os.length∧Same H H'∧H' l=some (.lst (iN os))∧H' r=some (.lst (iN ts))∧(ts++os).Perm (List.range n),
      ⟨n,c,List.range n,[],rfl,List.length_range.symm,s03,el3,e3,.refl _⟩,?_⟩
    rintro m σ H4 ⟨c,os,ts,rfl,rfl,s4,el4,er4,pm⟩
    have ln:=pm.length_eq
    rw [List.length_append,List.length_range] at ln
    refine ⟨_,rfl,by decide,fun q hq=>?_⟩
    have s5:=same_new (o:=.lst []) hq
    have e5:(upd H4 q (.lst [])) q=some (.lst []):=upd_same
    have el5:=s5 _ _ el4
    have er5:=s5 _ _ er4
    have s05:=same_trans s4 s5
    generalize upd H4 q (.lst [])=H5 at s5 e5 el5 er5 s05
    have ok:Okd (.list (os.map fun k:Nat=>PyData.int (k:Int))):=okd_list fun d hd=>by
      obtain ⟨x,_,rfl⟩:=List.mem_map.mp hd
      exact ⟨by simp [PyData.canLay0],by simp [PyData.depth]⟩
    have rp:Paired (RepT K H5) (iN os) (os.map fun k:Nat=>PyData.int (k:Int)):=by
      unfold iN
      clear ok pm el4 el5 ln
      induction os with
      | nil=>exact .nil
      | cons k os ih=>exact .cons (.int _) ih
    refine ⟨_,_,.lst (SqL.of el5) rp,.lst (SqL.of e5) (ds:=[]) .nil,ok,nil_ok,_,rfl,?_⟩
    rw [eqv_nil]
    cases os with
    | nil =>
      refine iteF ?_
      rw [List.append_nil] at pm
      exact ⟨_,rfl,k r ts H5 r0 s05 er5 pm⟩
    | cons o os =>
      refine iteT ⟨fun σ' H'=>∃ (c:Int) (os' ts:List Nat),σ'=[some (.int n),some (.int c),some (.ref l),some (.ref r)]∧os'.length=os.length∧Same H H'∧H' l=some (.lst (iN os'))∧H' r=some (.lst (iN ts))∧(ts++os').Perm (List.range n),fun σ' H' ⟨c,os',ts,e,a1,a2,a3,a4,a5⟩=>⟨os.length,by simp,c,os',ts,e,a1.symm,a2,a3,a4,a5⟩,?_⟩
      refine ⟨_,rfl,_,_,rfl,rfl,.inr ⟨by decide,by decide⟩,_,_,rfl,rfl,_,_,rfl,rfl,(show (0:Int) < 2147483647 by decide),?_⟩
      rw [show ((fun (i j:Int)=>V.int (i % j)) (c * 48271 + 12345) 2147483647)=V.int ((c * 48271 + 12345) % 2147483647) from rfl]
      generalize (c * 48271 + 12345) % 2147483647=y
      have lz:(iN (o :: os)).length=os.length + 1:=by unfold iN; rw [List.length_map]; rfl
      have hpos:(0:Int) < (((iN (o :: os)).length:Nat):Int):=by rw [lz]; omega
      obtain ⟨j,hj,ej⟩:∃ j:Nat,j < os.length + 1∧y % (((iN (o :: os)).length:Nat):Int)=(j:Int):=by
        rw [lz]
        have i0:=Int.emod_nonneg y (show (((os.length + 1:Nat)):Int)≠0 by omega)
        have i1:=Int.emod_lt_of_pos y (show (0:Int) < ((os.length + 1:Nat):Int) by omega)
        exact ⟨(y % ((os.length + 1:Nat):Int)).toNat,by omega,(Int.toNat_of_nonneg i0).symm⟩
      obtain ⟨x,ex⟩:=get_of_lt (xs:=o :: os) (j:=j) (by simp only [List.length_cons]; omega)
      have hi:seqIndex? (j:Int) (iN (o :: os)).length=some j:=by
        rw [lz]
        have h0:¬ ((j:Int) < 0):=by omega
        have:(decide (0≤(j:Int)) && decide ((j:Int) < ((os.length + 1:Nat):Int)))=true:=by simp only [Bool.and_eq_true,decide_eq_true_eq]; omega
        unfold seqIndex?
        simp only [if_neg h0,this,if_true,Int.toNat_natCast]
      simp only [List.length_cons] at ln
      refine ⟨_,rfl,.inl ⟨rfl,_,SqL.of er5⟩,_,rfl,.inl ⟨rfl,_,SqL.of el5⟩,_,rfl,_,rfl,l,_,rfl,.inl (SqL.of el5),_,_,rfl,rfl,hpos,l,_,(j:Int),j,V.int (x:Int),rfl,by show [V.int (y % _)]=[V.int (j:Int)]; rw [ej],el5,by omega,by omega,hi,by unfold iN; rw [List.getElem?_map,ex]; rfl,?_⟩
      have ep:=erase_perm ex
      have lp:=ep.length_eq
      simp only [List.length_cons] at lp
      have er:(iN (o :: os)).eraseIdx j=iN ((o :: os).eraseIdx j):=by unfold iN; exact erase_map _ _ _
      rw [er]
      generalize (o :: os).eraseIdx j=os2 at ep lp
      have er6:(upd H5 l (.lst (iN os2))) r=some (.lst (iN ts)):=by rw [upd_ne (Ne.symm nlr)]; exact er5
      refine ⟨r,_,_,rfl,rfl,er6,small1000 (by unfold iN; rw [List.length_map]; omega),?_⟩
      refine ⟨y,os2,ts++[x],rfl,by omega,fun b o' e=>by rw [upd_ne (ne_of_none e r0),upd_ne (ne_of_none e l0)]; exact s05 _ _ e,by rw [upd_ne nlr]; exact upd_same,?_,?_⟩
      · rw [upd_same]; unfold iN; rw [List.map_append]; rfl
      · rw [List.append_assoc]
        exact (ep.append_left ts).trans pm
theorem scTr:FnScope ["_law_answer","_law_due_here"] ["_law_answer","_law_due_here"] (defScope sTruth):=⟨rfl,rfl,rfl,by decide +kernel,rfl,by decide +kernel,by decide +kernel⟩
def spTruth:Sp:=fun vs H Q _=>∃ (a b:Bool),vs=[.bl a,.bl b]∧Q (.bl (decide (a=b))) H
theorem ok_truth {f:Addr} {fd:FuncData} (F:Fun K "_law_truth" "_law_truth" sTruth f fd) (T:Txt mg):FnOk P w K mg base CX0 1 f fd ["_law_answer","_law_due_here"] spTruth:=by
  refine F.ok scTr (fun vs H Q E h=>?_) (fun cdv A outer s H vs Q E hr h=>?_)
  · obtain ⟨a,b,rfl,_⟩:=h
    rfl
  · obtain ⟨a,b,rfl,k⟩:=h
    refine ⟨_,pss_one (ps_ret (pe_and (pe_callB call_isi (by rfl) T.isi PyProof.Rows.boot_isinstance (pa_cons (pv 0) (pa_cons (pe_bltn (v:=.ty "bool") (by rfl) T.bool PyProof.Rows.boot_bool rfl) pa_nil))) (pe_one (pe_cmpR op_eq (pv 0) (pv 1) (nomark _))))),?_⟩
    refine ⟨_,rfl,_,"bool",_,true,rfl,TyOf.bl _,kit_same,true,rfl,iteT ?_⟩
    refine ⟨_,rfl,_,rfl,rfl,?_⟩
    rw [show decide (V.bl a=V.bl b)=decide (a=b) by cases a <;> cases b <;> rfl]
    exact k
theorem scTi:FnScope ["_law_script","_law_many","_law_first","_law_second","_law_h","_law_xs","_law_tick"] ["_law_script","_law_many"] (defScope sTicks):=⟨rfl,rfl,rfl,by decide +kernel,rfl,by decide +kernel,by decide +kernel⟩
def spTicks (K:PySem.W.Frag):Sp:=fun vs H Q _=>∃ (a:Addr) (ns:List Int) (n:Nat),vs=[.ref a,.int n]∧Scr K H a (ns.map V.int)∧ns.length≤63∧n≤100∧∀ (x l1 l2:Addr) (T1 T2:List Int) (H':Hp),H x=none→Same H H'→H' x=some (.tup [.ref l1,.ref l2])→H' l1=some (.lst (T1.map V.int))→H' l2=some (.lst (T2.map V.int))→T1.length=n→T2.length=n→Q (.ref x) H'
theorem ok_ticks {f fC fS:Addr} {fd dC dS:FuncData} (F:Fun K "_law_ticks" "_law_ticks" sTicks f fd) (T:Txt mg) (MC:Gdf K mg "_law_cell" sCell ["_law_script","_law_k"] fC dC) (MS:Gdf K mg "_law_stream" sStream ["_law_cell_here","_law_many"] fS dS):FnOk P w K mg base CX0 2 f fd ["_law_script","_law_many"] (spTicks K):=by
  have GC:FnOk P w K mg base CX0 1 fC dC ["_law_script","_law_k"] (spCell K):=ok_cell MC.fn T.len
  have GS:FnOk P w K mg base CX0 1 fS dS ["_law_cell_here","_law_many"] spStream:=ok_stream MS.fn T
  refine F.ok scTi (fun vs H Q E h=>?_) (fun cdv A outer s H vs Q E hr h=>?_)
  · obtain ⟨a,ns,n,rfl,_⟩:=h
    rfl
  · obtain ⟨a,ns,n,rfl,hS,hlen,hz,k⟩:=h
    have hr1:Room 1 _:=hr.mono (by decide)
    refine ⟨_,pss_cons (ps_set (i:=2) scTi.nd rfl (Or.inl rfl) (pe_lst pa_nil))
      (pss_cons (ps_set (i:=3) scTi.nd rfl (Or.inl rfl) (pe_lst pa_nil))
      (pss_cons (ps_for PassesOwn.never rfl (pi_range1 rfl T.range (pa_cons (pv 1) pa_nil)) (pg_name (i:=4) scTi.nd rfl (Or.inl rfl))
        (pss_cons (ps_set (i:=5) scTi.nd rfl (Or.inl rfl) (pe_call GS hr1 (by rfl) MS.mg MS.fn.kp MS.bd .nil pass0 (pa_cons (pe_op op_add (pe_call GC hr1 (by rfl) MC.mg MC.fn.kp MC.bd .nil pass0 (pa_cons (pv 0) (pa_cons pe_int pa_nil))) (pv 4)) (pa_cons pe_int pa_nil))))
        (pss_cons (ps_set (i:=6) scTi.nd rfl (Or.inl rfl) (pe_op op_mod (pe_call GC hr1 (by rfl) MC.mg MC.fn.kp MC.bd .nil pass0 (pa_cons (pv 0) (pa_cons (pe_op op_add pe_int (pv 4)) pa_nil))) (pe_op op_pow pe_int pe_int)))
        (pss_cons (ps_expr (pe_bm PySem.F.plainAttrs_list PySem.F.slot_list_append PySem.F.type_list_append mt_append (pv 2) (pa_cons (pv 6) pa_nil)))
        (pss_one (ps_expr (pe_bm PySem.F.plainAttrs_list PySem.F.slot_list_append PySem.F.type_list_append mt_append (pv 3) (pa_cons (pe_op op_add (pv 6) (pe_op op_mul (pe_callTy call_int1 (by rfl) T.int PyProof.Rows.boot_int (pa_cons (pe_cmpR op_eq (pe_op op_mod (pe_ix ix_list (pv 5) pe_int (fun _ _=>rfl)) pe_int) pe_int (nomark _)) pa_nil)) (pe_op op_add pe_int (pe_op op_mod (pe_ix ix_list (pv 5) pe_int (fun _ _=>rfl)) pe_int)))) pa_nil))))))))
      (pss_one (ps_ret (pe_tup (pa_cons (pv 2) (pa_cons (pv 3) pa_nil))))))),?_⟩
    refine ⟨by decide,fun l1 h1=>?_⟩
    refine ⟨by decide,fun l2 h2=>?_⟩
    have n12:l1≠l2:=fun z=>by rw [← z,upd_same] at h2; cases h2
    have l20:H l2=none:=same_free (same_new h1) h2
    refine ⟨_,rfl,(n:Int),rfl,by omega,by omega,?_⟩
    rw [Int.toNat_natCast]
    refine for_range (lo:=0) (n:=n) (fun i σ H2=>∃ (T1 T2:List Int) (u4 u5 u6:Option V),σ=[some (.ref a),some (.int n),some (.ref l1),some (.ref l2),u4,u5,u6]∧Same H H2∧H2 l1=some (.lst (T1.map V.int))∧H2 l2=some (.lst (T2.map V.int))∧T1.length=i∧T2.length=i)
      ⟨[],[],_,_,_,rfl,same_trans (same_new h1) (same_new h2),by rw [upd_ne n12]; exact upd_same,upd_same,rfl,rfl⟩ ?_ ?_
    · rintro i σ H2 hi ⟨T1,T2,u4,u5,u6,rfl,s2,e1,e2,z1,z2⟩
      rw [show (0:Int) + (i:Int)=(i:Int) by omega]
      refine ⟨_,rfl,a,ns,29,rfl,(hS.keep (KeepT.of_same s2)).sq,hlen,by decide,by decide,fun v=>?_⟩
      refine ⟨_,rfl,_,_,rfl,rfl,v + (i:Int),2,rfl,by decide,fun q xs H3 hq s3 eq lx px=>?_⟩
      have s23:=same_trans s2 s3
      obtain ⟨x0,ex0⟩:=get_of_lt (xs:=xs) (j:=0) (by omega)
      obtain ⟨x1,ex1⟩:=get_of_lt (xs:=xs) (j:=1) (by omega)
      refine ⟨_,rfl,_,rfl,_,_,rfl,rfl,a,ns,30 + (i:Int),rfl,(hS.keep (KeepT.of_same s23)).sq,hlen,by omega,by omega,fun v2=>?_⟩
      refine ⟨_,_,rfl,rfl,⟨by decide,by decide,by decide⟩,_,_,rfl,rfl,(show (0:Int) < 10 ^ 50 by decide),?_⟩
      rw [show ((fun (i j:Int)=>V.int (i % j)) v2 ((10:Int) ^ (50:Int).toNat))=V.int (v2 % (10:Int) ^ (50:Int).toNat) from rfl]
      generalize v2 % (10:Int) ^ (50:Int).toNat=y
      have e13:=s3 _ _ e1
      have e23:=s3 _ _ e2
      refine ⟨_,rfl,.inl ⟨rfl,_,SqL.of e13⟩,_,rfl,l1,_,_,rfl,rfl,e13,small1000 (by rw [List.length_map]; omega),?_⟩
      have e24:(upd H3 l1 (.lst (T1.map V.int++[V.int y]))) l2=some (.lst (T2.map V.int)):=by rw [upd_ne (Ne.symm n12)]; exact e23
      have nq1:q≠l1:=fun z=>by rw [z,e1] at hq; cases hq
      have nq2:q≠l2:=fun z=>by rw [z,e2] at hq; cases hq
      have eq4:(upd H3 l1 (.lst (T1.map V.int++[V.int y]))) q=some (.lst (xs.map V.int)):=by rw [upd_ne nq1]; exact eq
      have e14:(upd H3 l1 (.lst (T1.map V.int++[V.int y]))) l1=some (.lst (T1.map V.int++[V.int y])):=upd_same
      have s4:Same H (upd H3 l1 (.lst (T1.map V.int++[V.int y]))):=fun b o e=>by rw [upd_ne (ne_of_none e h1)]; exact s23 _ _ e
      generalize upd H3 l1 (.lst (T1.map V.int++[V.int y]))=H4 at e24 eq4 e14 s4
      refine ⟨_,rfl,.inl ⟨rfl,_,SqL.of e24⟩,_,rfl,_,rfl,q,_,0,V.int x0,rfl,rfl,SqL.of eq4,atI_at (by decide) (by rw [List.getElem?_map]; show xs[0]?.map V.int=_; rw [ex0]; rfl),_,_,rfl,rfl,(show (0:Int) < 4 by decide),rfl,.inr ⟨_,rfl,?_⟩⟩
      refine ⟨_,rfl,q,_,1,V.int x1,rfl,rfl,SqL.of eq4,atI_at (by decide) (by rw [List.getElem?_map]; show xs[1]?.map V.int=_; rw [ex1]; rfl),_,_,rfl,rfl,(show (0:Int) < 3 by decide),_,_,rfl,rfl,_,_,rfl,rfl,?_,_,_,rfl,rfl,l2,_,_,rfl,rfl,e24,small1000 (by rw [List.length_map]; omega),?_⟩
      · refine .inl ⟨?_,?_⟩ <;> split <;> decide
      refine ⟨T1++[y],T2++[_],_,_,_,rfl,fun b o e=>by rw [upd_ne (ne_of_none e l20)]; exact s4 _ _ e,by rw [upd_ne n12,e14,List.map_append]; rfl,by rw [upd_same,List.map_append]; rfl,by rw [List.length_append,z1]; rfl,by rw [List.length_append,z2]; rfl⟩
    · rintro σ H2 ⟨T1,T2,u4,u5,u6,rfl,s2,e1,e2,z1,z2⟩
      refine ⟨_,rfl,_,rfl,(show 2≤sizeLine by decide),fun x hx=>?_⟩
      have s3:=same_new (o:=.tup [V.ref l1,V.ref l2]) hx
      exact k x l1 l2 T1 T2 _ (same_free s2 hx) (same_trans s2 s3) upd_same (s3 _ _ e1) (s3 _ _ e2) z1 z2
end
end K32
namespace K32
open PySem L2 FX
set_option linter.all false
structure Mth (K:PySem.W.Frag) (C:Addr) (x qual:Str) (st:Stmt) (ps:List Str) (f:Addr) (fd:FuncData):Prop where
  fn:Fun K x qual st f fd
  bd:Binds K fd ps []
  mt:Meth K C x f
theorem q1:¬ (("many":Str)="second_ticks"):=by decide +kernel
theorem q2:¬ (("many":Str)="first_ticks"):=by decide +kernel
theorem q3:¬ (("many":Str)="states"):=by decide +kernel
theorem q4:¬ (("states":Str)="second_ticks"):=by decide +kernel
theorem q5:¬ (("states":Str)="first_ticks"):=by decide +kernel
theorem q6:¬ (("first_ticks":Str)="second_ticks"):=by decide +kernel
def flds (m:Int) (sd fd cd:Addr):List (Str×V):=putF "second_ticks" (.ref cd) (putF "first_ticks" (.ref fd) (putF "states" (.ref sd) (putF "many" (.int m) [])))
section
variable {m:Int} {sd fd cd:Addr}
theorem fl_many:(flds m sd fd cd).lookup ("many":Str)=some (.int m):=by unfold flds; rw [lookup_putF,if_neg q1,lookup_putF,if_neg q2,lookup_putF,if_neg q3,lookup_putF,if_pos rfl]
theorem fl_states:(flds m sd fd cd).lookup ("states":Str)=some (.ref sd):=by unfold flds; rw [lookup_putF,if_neg q4,lookup_putF,if_neg q5,lookup_putF,if_pos rfl]
theorem fl_first:(flds m sd fd cd).lookup ("first_ticks":Str)=some (.ref fd):=by unfold flds; rw [lookup_putF,if_neg q6,lookup_putF,if_pos rfl]
theorem fl_second:(flds m sd fd cd).lookup ("second_ticks":Str)=some (.ref cd):=by unfold flds; rw [lookup_putF,if_pos rfl]
theorem fl_no {x:Str} (h1:¬ x="second_ticks") (h2:¬ x="first_ticks") (h3:¬ x="states") (h4:¬ x="many"):(flds m sd fd cd).lookup x=none:=by
  unfold flds; rw [lookup_putF,if_neg h1,lookup_putF,if_neg h2,lookup_putF,if_neg h3,lookup_putF,if_neg h4]; rfl
end
structure Iq where
  m:Int
  sd:Addr
  fd:Addr
  cd:Addr
  ss:List (Key×V)
  fs:List (Key×V)
  cs:List (Key×V)
structure InqAt (C:Addr) (H:Hp) (p:Addr) (I:Iq):Prop where
  ob:∃ dx,H p=some (.ins C dx (flds I.m I.sd I.fd I.cd))
  s:H I.sd=some (.dK I.ss)
  f:H I.fd=some (.dK I.fs)
  c:H I.cd=some (.dK I.cs)
  sf:I.sd≠I.fd
  sc:I.sd≠I.cd
  fc:I.fd≠I.cd
theorem InqAt.keep {C:Addr} {H H':Hp} {p:Addr} {I:Iq} (x:InqAt C H p I) (k:∀ b,(b=p∨b=I.sd∨b=I.fd∨b=I.cd)→∀ o,H b=some o→H' b=some o):InqAt C H' p I :=
  ⟨let ⟨dx,e⟩:=x.ob; ⟨dx,k p (.inl rfl) _ e⟩,k _ (.inr (.inl rfl)) _ x.s,k _ (.inr (.inr (.inl rfl))) _ x.f,k _ (.inr (.inr (.inr rfl))) _ x.c,x.sf,x.sc,x.fc⟩
theorem InqAt.same {C:Addr} {H H':Hp} {p:Addr} {I:Iq} (x:InqAt C H p I) (s:Same H H'):InqAt C H' p I:=x.keep fun b _ o e=>s b o e
structure TxtI (K:PySem.W.Frag) (mg:Str→Option Value) (C:Addr):Prop where
  cl:Cls K C
  nM:NoAttr K C "many"
  nS:NoAttr K C "states"
  nF:NoAttr K C "first_ticks"
  nT:NoAttr K C "second_ticks"
  mgC:mg "Inquiry"=some (.ref C)
section
variable {P:Program} {w:World} {K:PySem.W.Frag} {mg:Str→Option Value} {base:Heap} {C:Addr}
def spInit (C:Addr):Sp:=fun vs H Q _=>∃ (p dx:Addr) (n:Int),vs=[.ref p,.int n]∧H p=some (.ins C dx [])∧∀ (H':Hp) (I:Iq),(∀ b u,H b=some u→b≠p→H' b=some u)→InqAt C H' p I→I.m=n→I.ss=[]→I.fs=[]→I.cs=[]→H I.sd=none→H I.fd=none→H I.cd=none→Q .non H'
theorem scII:FnScope ["self","many"] ["self","many"] (defScope sInit):=⟨rfl,rfl,rfl,by decide +kernel,rfl,by decide +kernel,by decide +kernel⟩
theorem ok_init {f:Addr} {fd:FuncData} (F:Fun K "__init__" "Inquiry.__init__" sInit f fd) (T:TxtI K mg C):FnOk P w K mg base CX0 1 f fd ["self","many"] (spInit C):=by
  refine F.ok scII (fun vs H Q E h=>?_) (fun cdv A outer s H vs Q E hr h=>?_)
  · obtain ⟨p,dx,n,rfl,_⟩:=h
    rfl
  · obtain ⟨p,dx,n,rfl,hp,k⟩:=h
    refine ⟨_,pss_cons (ps_fld (pv 0) (pv 1) rfl) (pss_cons (ps_fld (pv 0) pe_dnewK rfl) (pss_cons (ps_fld (pv 0) pe_dnewK rfl) (pss_one (ps_fld (pv 0) pe_dnewK rfl)))),?_⟩
    have l1:=length_putF "many" (.int n) []
    refine ⟨_,rfl,_,rfl,p,C,dx,[],rfl,hp,T.cl,T.nM,(by show 0 < 1000; decide),fun d1 h1=>?_⟩
    have np1:p≠d1:=ne_of_none upd_same h1
    have l2:=fun v=>length_putF "states" v (putF "many" (.int n) [])
    refine ⟨_,rfl,p,C,dx,_,rfl,(by rw [upd_ne np1]; exact upd_same),T.cl,T.nS,(by simp only [List.length_nil] at l1; omega),fun d2 h2=>?_⟩
    have np2:p≠d2:=ne_of_none upd_same h2
    have l3:=fun v u=>length_putF "first_ticks" u (putF "states" v (putF "many" (.int n) []))
    refine ⟨_,rfl,p,C,dx,_,rfl,(by rw [upd_ne np2]; exact upd_same),T.cl,T.nF,(by have:=l2 (.ref d1); simp only [List.length_nil] at l1; omega),fun d3 h3=>?_⟩
    have np3:p≠d3:=ne_of_none upd_same h3
    refine ⟨_,rfl,p,C,dx,_,rfl,(by rw [upd_ne np3]; exact upd_same),T.cl,T.nT,(by have:=l2 (.ref d1); have:=l3 (.ref d1) (.ref d2); simp only [List.length_nil] at l1; omega),?_⟩
    have g1:H d1=none:=by rw [upd_ne (Ne.symm np1)] at h1; exact h1
    have n12:d1≠d2:=fun z=>by rw [← z,upd_ne (Ne.symm np1),upd_same] at h2; cases h2
    have g2:H d2=none:=by rw [upd_ne (Ne.symm np2),upd_ne (Ne.symm n12),upd_ne (Ne.symm np2)] at h2; exact h2
    have n23:d2≠d3:=fun z=>by rw [← z,upd_ne (Ne.symm np2),upd_same] at h3; cases h3
    have n13:d1≠d3:=fun z=>by rw [← z,upd_ne (Ne.symm np1),upd_ne n12,upd_ne (Ne.symm np1),upd_same] at h3; cases h3
    have g3:H d3=none:=by rw [upd_ne (Ne.symm np3),upd_ne (Ne.symm n23),upd_ne (Ne.symm np3),upd_ne (Ne.symm n13),upd_ne (Ne.symm np3)] at h3; exact h3
    refine k _ ⟨n,d1,d2,d3,[],[],[]⟩ (fun b u e hb=>?_) ⟨⟨dx,upd_same⟩,?_,?_,?_,n12,n13,n23⟩ rfl rfl rfl rfl g1 g2 g3
    · have m1:=ne_of_none e g1
      have m2:=ne_of_none e g2
      have m3:=ne_of_none e g3
      rw [upd_ne hb,upd_ne m3,upd_ne hb,upd_ne m2,upd_ne hb,upd_ne m1,upd_ne hb]
      exact e
    · rw [upd_ne (Ne.symm np1),upd_ne n13,upd_ne (Ne.symm np1),upd_ne n12,upd_ne (Ne.symm np1)]; exact upd_same
    · rw [upd_ne (Ne.symm np2),upd_ne n23,upd_ne (Ne.symm np2)]; exact upd_same
    · rw [upd_ne (Ne.symm np3)]; exact upd_same
def spFirst (C:Addr):Sp:=fun vs H Q _=>∃ (p:Addr) (I:Iq) (h t:Int) (v:V),vs=[.ref p,.int h,.int t,v]∧InqAt C H p I∧I.fs.length≤500∧I.ss.length≤500∧∀ H',InqAt C H' p { I with ss:=putK I.ss (.inl h) v,fs:=putK I.fs (.inl h) (.int t) }→(∀ b o,H b=some o→b≠I.sd→b≠I.fd→H' b=some o)→Q (.bl (decide (V.int ((putK I.fs (.inl h) (.int t)).length:Int)=V.int I.m))) H'
theorem scF:FnScope ["self","h","tick","state"] ["self","h","tick","state"] (defScope sFirst):=⟨rfl,rfl,rfl,by decide +kernel,rfl,by decide +kernel,by decide +kernel⟩
theorem ok_first {f:Addr} {fd:FuncData} (F:Fun K "first" "Inquiry.first" sFirst f fd) (T:TxtI K mg C) (hl:mg "len"=none):FnOk P w K mg base CX0 1 f fd ["self","h","tick","state"] (spFirst C):=by
  refine F.ok scF (fun vs H Q E h=>?_) (fun cdv A outer s H vs Q E hr h=>?_)
  · obtain ⟨p,I,h,t,v,rfl,_⟩:=h
    rfl
  · obtain ⟨p,I,h,t,v,rfl,S,zf,zs,k⟩:=h
    have hu:=hu_of hr
    obtain ⟨dx,hp⟩:=S.ob
    refine ⟨_,pss_cons (ps_dput hu (pe_fld (pv 0) rfl) (pv 1) (pv 2) rfl)
      (pss_cons (ps_dput hu (pe_fld (pv 0) rfl) (pv 1) (pv 3) rfl)
      (pss_one (ps_ret (pe_cmpR op_eq (pe_callB call_lenD (by rfl) hl PySem.boot_len (pa_cons (pe_fld (pv 0) rfl) pa_nil)) (pe_fld (pv 0) rfl) (nomark _))))),?_⟩
    have npf:p≠I.fd:=fun z=>by rw [z,S.f] at hp; cases hp
    have nps:p≠I.sd:=fun z=>by rw [z,S.s] at hp; cases hp
    refine ⟨_,rfl,_,rfl,p,C,dx,_,_,rfl,hp,T.cl,T.nF,fl_first,_,rfl,I.fd,_,rfl,DPut.k (k:=Sum.inl h) S.f (small1000 (by omega)),?_⟩
    have hp1:(upd H I.fd (.dK (putK I.fs (.inl h) (.int t)))) p=some (.ins C dx (flds I.m I.sd I.fd I.cd)):=by rw [upd_ne npf]; exact hp
    have s1:(upd H I.fd (.dK (putK I.fs (.inl h) (.int t)))) I.sd=some (.dK I.ss):=by rw [upd_ne S.sf]; exact S.s
    have c1:(upd H I.fd (.dK (putK I.fs (.inl h) (.int t)))) I.cd=some (.dK I.cs):=by rw [upd_ne (Ne.symm S.fc)]; exact S.c
    have f1:(upd H I.fd (.dK (putK I.fs (.inl h) (.int t)))) I.fd=some (.dK (putK I.fs (.inl h) (.int t))):=upd_same
    have k1:∀ b o,H b=some o→b≠I.sd→b≠I.fd→(upd H I.fd (.dK (putK I.fs (.inl h) (.int t)))) b=some o:=fun b o e _ n=>by rw [upd_ne n]; exact e
    generalize upd H I.fd (.dK (putK I.fs (.inl h) (.int t)))=H1 at hp1 s1 c1 f1 k1
    refine ⟨_,rfl,_,rfl,p,C,dx,_,_,rfl,hp1,T.cl,T.nS,fl_states,_,rfl,I.sd,_,rfl,DPut.k (k:=Sum.inl h) s1 (small1000 (by omega)),?_⟩
    have hp2:(upd H1 I.sd (.dK (putK I.ss (.inl h) v))) p=some (.ins C dx (flds I.m I.sd I.fd I.cd)):=by rw [upd_ne nps]; exact hp1
    have s2:(upd H1 I.sd (.dK (putK I.ss (.inl h) v))) I.sd=some (.dK (putK I.ss (.inl h) v)):=upd_same
    have c2:(upd H1 I.sd (.dK (putK I.ss (.inl h) v))) I.cd=some (.dK I.cs):=by rw [upd_ne (Ne.symm S.sc)]; exact c1
    have f2:(upd H1 I.sd (.dK (putK I.ss (.inl h) v))) I.fd=some (.dK (putK I.fs (.inl h) (.int t))):=by rw [upd_ne (Ne.symm S.sf)]; exact f1
    have k2:∀ b o,H b=some o→b≠I.sd→b≠I.fd→(upd H1 I.sd (.dK (putK I.ss (.inl h) v))) b=some o:=fun b o e n1 n2=>by rw [upd_ne n1]; exact k1 b o e n1 n2
    generalize upd H1 I.sd (.dK (putK I.ss (.inl h) v))=H2 at hp2 s2 c2 f2 k2
    exact ⟨_,rfl,p,C,dx,_,_,rfl,hp2,T.cl,T.nF,fl_first,I.fd,_,rfl,f2,_,rfl,p,C,dx,_,_,rfl,hp2,T.cl,T.nM,fl_many,rfl,k H2 ⟨⟨dx,hp2⟩,s2,f2,c2,S.sf,S.sc,S.fc⟩ k2⟩
def spSecond (C:Addr):Sp:=fun vs H Q _=>∃ (p:Addr) (I:Iq) (h t:Int),vs=[.ref p,.int h,.int t]∧InqAt C H p I∧I.cs.length≤500∧∀ H',InqAt C H' p { I with cs:=putK I.cs (.inl h) (.int t) }→(∀ b o,H b=some o→b≠I.cd→H' b=some o)→Q (.bl (decide (V.int ((putK I.cs (.inl h) (.int t)).length:Int)=V.int I.m))) H'
theorem scS:FnScope ["self","h","tick"] ["self","h","tick"] (defScope sSecond):=⟨rfl,rfl,rfl,by decide +kernel,rfl,by decide +kernel,by decide +kernel⟩
theorem ok_second {f:Addr} {fd:FuncData} (F:Fun K "second" "Inquiry.second" sSecond f fd) (T:TxtI K mg C) (hl:mg "len"=none):FnOk P w K mg base CX0 1 f fd ["self","h","tick"] (spSecond C):=by
  refine F.ok scS (fun vs H Q E h=>?_) (fun cdv A outer s H vs Q E hr h=>?_)
  · obtain ⟨p,I,h,t,rfl,_⟩:=h
    rfl
  · obtain ⟨p,I,h,t,rfl,S,zc,k⟩:=h
    have hu:=hu_of hr
    obtain ⟨dx,hp⟩:=S.ob
    refine ⟨_,pss_cons (ps_dput hu (pe_fld (pv 0) rfl) (pv 1) (pv 2) rfl)
      (pss_one (ps_ret (pe_cmpR op_eq (pe_callB call_lenD (by rfl) hl PySem.boot_len (pa_cons (pe_fld (pv 0) rfl) pa_nil)) (pe_fld (pv 0) rfl) (nomark _)))),?_⟩
    have npc:p≠I.cd:=fun z=>by rw [z,S.c] at hp; cases hp
    refine ⟨_,rfl,_,rfl,p,C,dx,_,_,rfl,hp,T.cl,T.nT,fl_second,_,rfl,I.cd,_,rfl,DPut.k (k:=Sum.inl h) S.c (small1000 (by omega)),?_⟩
    have hp1:(upd H I.cd (.dK (putK I.cs (.inl h) (.int t)))) p=some (.ins C dx (flds I.m I.sd I.fd I.cd)):=by rw [upd_ne npc]; exact hp
    have s1:(upd H I.cd (.dK (putK I.cs (.inl h) (.int t)))) I.sd=some (.dK I.ss):=by rw [upd_ne S.sc]; exact S.s
    have c1:(upd H I.cd (.dK (putK I.cs (.inl h) (.int t)))) I.cd=some (.dK (putK I.cs (.inl h) (.int t))):=upd_same
    have f1:(upd H I.cd (.dK (putK I.cs (.inl h) (.int t)))) I.fd=some (.dK I.fs):=by rw [upd_ne S.fc]; exact S.f
    have k1:∀ b o,H b=some o→b≠I.cd→(upd H I.cd (.dK (putK I.cs (.inl h) (.int t)))) b=some o:=fun b o e n=>by rw [upd_ne n]; exact e
    generalize upd H I.cd (.dK (putK I.cs (.inl h) (.int t)))=H1 at hp1 s1 c1 f1 k1
    exact ⟨_,rfl,p,C,dx,_,_,rfl,hp1,T.cl,T.nT,fl_second,I.cd,_,rfl,c1,_,rfl,p,C,dx,_,_,rfl,hp1,T.cl,T.nM,fl_many,rfl,k H1 ⟨⟨dx,hp1⟩,s1,f1,c1,S.sf,S.sc,S.fc⟩ k1⟩
structure Full (I:Iq) (n:Nat) (f c:Nat→Int) (a:Nat→Addr):Prop where
  ks:∃ os:List Nat,os.Perm (List.range n)∧I.fs.map (·.1)=os.map fun k:Nat=>(Sum.inl (k:Int):Key)
  fs:∀ k < n,valV I.fs (.inl (k:Int))=some (.int (f k))
  cs:∀ k < n,valV I.cs (.inl (k:Int))=some (.int (c k))
  ss:∀ k < n,valV I.ss (.inl (k:Int))=some (.ref (a k))
def stillOf (n:Nat) (f c:Nat→Int):List Nat:=(List.range n).filter fun k=>decide (f k=c k)
theorem sorted_rg:∀ {ms:List Int} {n:Nat},ms.Perm (rg n)→ms.Pairwise (·≤·)→ms=rg n:=fun {ms n} pm pw=>by
  have pr:(rg n).Pairwise (·≤·):=by
    unfold rg
    rw [List.pairwise_map]
    exact List.Pairwise.imp (fun {a b} (h:a < b)=>by omega) List.pairwise_lt_range
  exact pm.eq_of_pairwise (fun a b _ _ h1 h2=>by omega) pw pr
def spStill (C:Addr):Sp:=fun vs H Q _=>∃ (p:Addr) (I:Iq) (n:Nat) (f c:Nat→Int) (a:Nat→Addr),vs=[.ref p]∧InqAt C H p I∧n≤60∧Full I n f c a∧∀ (l:Addr) (H':Hp),H l=none→Same H H'→H' l=some (.lst (iN (stillOf n f c)))→Q (.ref l) H'
theorem scSt:FnScope ["self"] ["self"] (defScope sStill):=⟨rfl,rfl,rfl,by decide +kernel,rfl,by decide +kernel,by decide +kernel⟩
def ttSt (K:PySem.W.Frag):TT:=tTest (tOp rEq (tDGet (tFld K (tVar 1) "first_ticks") (tVar 0)) (tDGet (tFld K (tVar 1) "second_ticks") (tVar 0)))
theorem ok_still {f:Addr} {fd:FuncData} (F:Fun K "still" "Inquiry.still" sStill f fd) (T:TxtI K mg C) (hso:mg "sorted"=none):FnOk P w K mg base CX0 1 f fd ["self"] (spStill C):=by
  refine F.ok scSt (fun vs H Q E h=>?_) (fun cdv A outer s H vs Q E hr h=>?_)
  · obtain ⟨p,I,n,f,c,a,rfl,_⟩:=h
    rfl
  · obtain ⟨p,I,n,f,c,a,rfl,S,hz,fu,k⟩:=h
    have hu:=hu_of hr
    obtain ⟨dx,hp⟩:=S.ob
    refine ⟨_,pss_one (ps_ret (pe_comp (tt:=ttSt K) (te:=tVar 0) (caps:=[("self",0)]) rfl (pi_list (pe_callB (call_sorted_dictI rfl) (by rfl) hso PyProof.Rows.boot_sorted (pa_cons (pe_fld (pv 0) rfl) pa_nil)))
          rfl (by decide +kernel) rfl (by decide +kernel) rfl ⟨rfl,trivial⟩ (fun y h=>has3 ⟨_,rfl⟩ h) ⟨⟨rfl,rfl,rfl,rfl⟩,trivial⟩ (by decide +kernel) (fun _ _ _ _ _=>pts_one (pt_cmpR op_eq (pe_dget hu (pe_fld (pv 1) rfl) (pv 0) (fun _ _=>rfl)) (pe_dget hu (pe_fld (pv 1) rfl) (pv 0) (fun _ _=>rfl)) (nomark _))) (fun _ _ _ _ _=>pv 0))),?_⟩
    obtain ⟨os,pm,ek⟩:=fu.ks
    have lo:os.length=n:=by rw [pm.length_eq,List.length_range]
    refine ⟨_,rfl,p,C,dx,_,_,rfl,hp,T.cl,T.nF,fl_first,I.fd,I.fs,os.map (fun k:Nat=>(k:Int)),rfl,S.f,by rw [ek,List.map_map]; rfl,by rw [List.length_map]; omega,fun r ms hr' pm2 pw=>?_⟩
    have em:ms=rg n:=sorted_rg (pm2.trans (pm.map _)) pw
    subst em
    rw [rg_iN]
    have s1:=same_new (o:=.lst (iN (List.range n))) hr'
    have e1:(upd H r (.lst (iN (List.range n)))) r=some (.lst (iN (List.range n))):=upd_same
    generalize upd H r (.lst (iN (List.range n)))=H1 at s1 e1
    refine ⟨r,rfl,⟨_,SqL.of e1⟩,fun l hl=>?_⟩
    refine comp_list (K:=K) (a:=r) (xs:=iN (List.range n)) (tt:=ttSt K) (te:=tVar 0) (caps:=[("self",0)])
      (fun i ys H'=>H' l=some (.lst ys)∧Same H1 H'∧ys=iN (stillOf i f c)) ⟨upd_same,same_new hl,rfl⟩ (fun i ys H' _ z=>⟨SqL.of (z.2.1 _ _ e1),z.1⟩) ?_ ?_
    · rintro i v ys H2 N hi ⟨el,s2,rfl⟩ hN
      have hi':=(List.getElem?_eq_some_iff.mp hi).1
      have li:(iN (List.range n)).length=n:=by unfold iN; rw [List.length_map,List.length_range]
      rw [li] at hi'
      have hi:V.int (i:Int)=v:=by
        unfold iN at hi
        rw [List.getElem?_map,List.getElem?_range hi'] at hi
        exact Option.some.inj hi
      subst hi
      have s02:=same_trans s1 s2
      have S2:=S.same s02
      obtain ⟨dx2,hp2⟩:=S2.ob
      have gf:DGet H2 I.fd (.int (i:Int)) (some (.int (f i))):=by
        have:=DGet.k (k:=.inl (i:Int)) S2.f
        rw [fu.fs i hi'] at this
        exact this
      have gc:DGet H2 I.cd (.int (i:Int)) (some (.int (c i))):=by
        have:=DGet.k (k:=.inl (i:Int)) S2.c
        rw [fu.cs i hi'] at this
        exact this
      have lst:(stillOf i f c).length≤i:=by
        have:=List.length_filter_le (fun k=>decide (f k=c k)) (List.range i)
        rw [List.length_range] at this
        exact this
      have st1:stillOf (i + 1) f c=stillOf i f c++(if f i=c i then [i] else []):=by
        unfold stillOf
        rw [List.range_succ,List.filter_append]
        congr 1
        by_cases z:f i=c i
        · rw [if_pos z]; simp [z]
        · rw [if_neg z]; simp [z]
      refine ⟨_,rfl,p,C,dx2,_,_,rfl,hp2,T.cl,T.nF,fl_first,_,rfl,I.fd,_,rfl,gf,_,rfl,p,C,dx2,_,_,rfl,hp2,T.cl,T.nT,fl_second,_,rfl,I.cd,_,rfl,gc,rfl,_,rfl,?_⟩
      refine ite2 (fun z=>?_) (fun z=>?_)
      · have z:f i=c i:=by
          have:=of_decide_eq_true z
          injection this
        refine ⟨_,rfl,el,small1000 (by unfold iN; rw [List.length_map]; omega),hN _ _ ⟨upd_same,fun b o e=>by rw [upd_ne (ne_of_none e hl)]; exact s2 b o e,?_⟩⟩
        rw [st1,if_pos z]
        unfold iN
        rw [List.map_append]; rfl
      · have z:¬ f i=c i:=fun y=>z (by rw [y]; simp)
        refine hN _ _ ⟨el,s2,?_⟩
        rw [st1,if_neg z,List.append_nil]
    · rintro ys H2 ⟨el,s2,rfl⟩
      have li:(iN (List.range n)).length=n:=by unfold iN; rw [List.length_map,List.length_range]
      rw [li] at el
      exact k l H2 (same_free s1 hl) (same_trans s1 s2) el
def keptOf (n:Nat) (f c:Nat→Int) (a:Nat→Addr) (S:Nat→HS):List (Int×Addr×HS):=(stillOf n f c).map fun k:Nat=>((k:Int),a k,S k)
def spResult (C:Addr) (K:PySem.W.Frag):Sp:=fun vs H Q _=>∃ (p:Addr) (I:Iq) (n:Nat) (f c:Nat→Int) (a:Nat→Addr) (S:Nat→HS),vs=[.ref p]∧InqAt C H p I∧n≤60∧Full I n f c a∧(∀ k < n,StA K H (a k) (S k))∧Fine (sts (keptOf n f c a S)) ∧
  ∀ (x:Addr) (as:List Addr) (ts:List T2) (H':Hp),Same H H'→H' x=some (.tup (as.map V.ref))→ThsAt H' as ts→Found (sts (keptOf n f c a S)) ts→Q (.ref x) H'
theorem scRes:FnScope ["self","states","h"] ["self"] (defScope sResult):=⟨rfl,rfl,rfl,by decide +kernel,rfl,by decide +kernel,by decide +kernel⟩
theorem val_new {a:Nat→Addr} {S:Nat→HS} {ks:List Nat} {k:Nat} (h:k∉ks):valV ((ks.map fun k:Nat=>((k:Int),a k,S k)).map fun q=>((.inl q.1:Key),V.ref q.2.1)) (.inl (k:Int))=none:=by
  refine valK_none fun m=>?_
  rw [List.map_map] at m
  obtain ⟨j,hj,e⟩:=List.mem_map.mp m
  have e:(j:Int)=(k:Int):=e
  exact h (by rw [show k=j by omega]; exact hj)
theorem still_nd (n:Nat) (f c:Nat→Int):(stillOf n f c).Nodup:=List.nodup_range.filter _
theorem ok_result {f fS fU:Addr} {fd dS dU:FuncData} (F:Fun K "result" "Inquiry.result" sResult f fd) (T:TxtI K mg C) (MS:Mth K C "still" "Inquiry.still" sStill ["self"] fS dS) (GS:FnOk P w K mg base CX0 1 fS dS ["self"] (spStill C))
    (MU:Gdf K mg "unreached" sUnreached ["states"] fU dU) (GU:FnOk P w K mg base CX0 2 fU dU ["states"] (spUnreached K)):FnOk P w K mg base CX0 3 f fd ["self"] (spResult C K):=by
  refine F.ok scRes (fun vs H Q E h=>?_) (fun cdv A outer s H vs Q E hr h=>?_)
  · obtain ⟨p,I,n,f,c,a,S,rfl,_⟩:=h
    rfl
  · obtain ⟨p,I,n,f,c,a,Sf,rfl,S,hz,fu,st,fi,k⟩:=h
    have hu:=hu_of hr
    have hr1:Room 1 _:=hr.mono (by decide)
    have hr2:Room 2 _:=hr.mono (by decide)
    obtain ⟨dx,hp⟩:=S.ob
    refine ⟨_,pss_cons (ps_set (i:=1) scRes.nd rfl (Or.inl rfl) pe_dnewK)
      (pss_cons (ps_for PassesOwn.never rfl (pi_list (pe_meth0 (pl:=_) (pv 0) T.cl MS.mt GS hr1 MS.bd .nil pass0)) (pg_name (i:=2) scRes.nd rfl (Or.inl rfl))
        (pss_one (ps_dput hu (pv 1) (pv 2) (pe_dget hu (pe_fld (pv 0) rfl) (pv 2) (fun _ _=>rfl)) rfl)))
      (pss_one (ps_ret (pe_call GU hr2 (by rfl) MU.mg MU.fn.kp MU.bd .nil pass0 (pa_cons (pv 1) pa_nil))))),?_⟩
    intro d hd
    have s1:=same_new (o:=.dK []) hd
    have e1:(upd H d (.dK [])) d=some (.dK []):=upd_same
    generalize upd H d (.dK [])=H1 at s1 e1
    have S1:=S.same s1
    obtain ⟨dx1,hp1⟩:=S1.ob
    refine ⟨_,rfl,p,dx1,_,rfl,hp1,fl_no (by decide +kernel) (by decide +kernel) (by decide +kernel) (by decide +kernel),p,I,n,f,c,a,rfl,S1,hz,fu,fun l H2 hl s2 el=>?_⟩
    refine ⟨l,rfl,⟨_,SqL.of el⟩,?_⟩
    have ndl:d≠l:=fun z=>by rw [z] at e1; rw [e1] at hl; cases hl
    have ls:(iN (stillOf n f c)).length=(stillOf n f c).length:=by unfold iN; rw [List.length_map]
    have lz:(stillOf n f c).length≤n:=by
      have:=List.length_filter_le (fun k=>decide (f k=c k)) (List.range n)
      rw [List.length_range] at this
      exact this
    refine for_list (K:=K) (a:=l) (xs:=iN (stillOf n f c)) (fun j σ H'=>∃ u2,σ=[some (.ref p),some (.ref d),u2]∧Same H H'∧H' l=some (.lst (iN (stillOf n f c)))∧H' d=some (.dK (((stillOf n f c).take j).map (fun k:Nat=>((k:Int),a k,Sf k)) |>.map fun q=>((.inl q.1:Key),V.ref q.2.1))))
      ⟨_,rfl,same_trans s1 s2,el,s2 _ _ e1⟩ (fun j σ H' _ ⟨_,_,_,z,_⟩=>SqL.of z) ?_ ?_
    · rintro j v σ H3 hj ⟨u2,rfl,s3,el3,ed3⟩
      have hj':=(List.getElem?_eq_some_iff.mp hj).1
      rw [ls] at hj'
      obtain ⟨kk,ekk⟩:=get_of_lt (xs:=stillOf n f c) hj'
      have hj:V.int (kk:Int)=v:=by
        unfold iN at hj
        rw [List.getElem?_map,ekk] at hj
        exact Option.some.inj hj
      subst hj
      have mk:=List.mem_of_getElem? ekk
      have hk:kk < n:=List.mem_range.mp (List.mem_filter.mp mk).1
      have S3:=S.same s3
      obtain ⟨dx3,hp3⟩:=S3.ob
      have gs:DGet H3 I.sd (.int (kk:Int)) (some (.ref (a kk))):=by
        have:=DGet.k (k:=.inl (kk:Int)) S3.s
        rw [fu.ss kk hk] at this
        exact this
      have nin:kk∉(stillOf n f c).take j:=fun z=>by
        obtain ⟨i,hi,e⟩:=List.mem_iff_getElem.mp z
        rw [List.length_take] at hi
        rw [List.getElem_take] at e
        have e3:=(List.getElem?_eq_some_iff.mp ekk).2
        have:=(List.getElem_inj (still_nd n f c)).mp (e.trans e3.symm)
        omega
      refine ⟨_,rfl,p,C,dx3,_,_,rfl,hp3,T.cl,T.nS,fl_states,_,rfl,I.sd,_,rfl,gs,_,rfl,_,rfl,d,_,rfl,DPut.k (k:=.inl (kk:Int)) ed3 (small1000 (by rw [List.length_map,List.length_map,List.length_take]; omega)),?_⟩
      rw [putK_new _ (val_new nin)]
      refine ⟨_,rfl,fun b o e=>by rw [upd_ne (ne_of_none e hd)]; exact s3 _ _ e,by rw [upd_ne (Ne.symm ndl)]; exact el3,?_⟩
      rw [upd_same,List.take_add_one,ekk]
      simp only [Option.toList_some,List.map_append,List.map_cons,List.map_nil]
    · rintro σ H3 ⟨u2,rfl,s3,el3,ed3⟩
      rw [ls,List.take_length] at ed3
      refine ⟨_,rfl,d,keptOf n f c a Sf,rfl,⟨ed3,fun q hq=>?_⟩,fi,fun x as ts H4 s4 ex th fo=>k x as ts H4 (same_trans s3 s4) ex th fo⟩
      obtain ⟨j,hj,rfl⟩:=List.mem_map.mp hq
      exact (st j (List.mem_range.mp (List.mem_filter.mp hj).1)).keep (KeepT.of_same s3)
end
end K32
namespace K32
open PySem L2 FX
set_option linter.all false
def kv (os:List Nat) (g:Nat→V):List (Key×V):=os.map fun h:Nat=>((.inl (h:Int):Key),g h)
theorem kv_len (os:List Nat) (g:Nat→V):(kv os g).length=os.length:=List.length_map ..
theorem kv_none {os:List Nat} {g:Nat→V} {h:Nat} (n:h∉os):valV (kv os g) (.inl (h:Int))=none:=by
  unfold valV kv
  rw [List.find?_map,List.find?_eq_none.mpr]
  · rfl
  · intro q hq z
    have z:(Sum.inl (q:Int):Key)=.inl (h:Int):=by simpa using z
    injection z with z
    exact n (by rw [show h=q by omega]; exact hq)
theorem kv_put {os:List Nat} {g:Nat→V} {h:Nat} (n:h∉os):putK (kv os g) (.inl (h:Int)) (g h)=kv (os++[h]) g:=by
  rw [putK_new _ (kv_none n)]
  unfold kv
  rw [List.map_append]; rfl
theorem kv_val {os:List Nat} {g:Nat→V} {h:Nat} (m:h∈os):valV (kv os g) (.inl (h:Int))=some (g h):=by
  induction os with
  | nil=>cases m
  | cons o os ih =>
    by_cases e:o=h
    · rw [e]; exact valV_pos rfl
    · show valV (((.inl (o:Int):Key),g o) :: kv os g) _=_
      rw [valV_neg (fun z=>e (by
        have z:(Sum.inl (o:Int):Key)=.inl (h:Int):=z
        injection z with z
        omega))]
      exact ih ((List.mem_cons.mp m).resolve_left (fun z=>e z.symm))
theorem kv_keys (os:List Nat) (g:Nat→V):(kv os g).map (·.1)=os.map fun k:Nat=>(Sum.inl (k:Int):Key):=by unfold kv; rw [List.map_map]; rfl
theorem take_new {os:List Nat} (nd:os.Nodup) {i h:Nat} (e:os[i]?=some h):h∉os.take i∧os.take (i + 1)=os.take i++[h]:=by
  refine ⟨fun z=>?_,by rw [List.take_add_one,e]; rfl⟩
  obtain ⟨j,hj,ej⟩:=List.mem_iff_getElem.mp z
  rw [List.length_take] at hj
  rw [List.getElem_take] at ej
  have e3:=(List.getElem?_eq_some_iff.mp e).2
  have:=(List.getElem_inj nd).mp (ej.trans e3.symm)
  omega
theorem last_eq {k n:Nat} (h:k < n):decide ((decide (V.int ((k + 1:Nat):Int)=V.int (n:Int)))=decide (V.int (k:Int)=V.int ((n:Int) - 1)))=true:=by
  by_cases e:k + 1=n
  · rw [decide_eq_true (by rw [e]:V.int ((k + 1:Nat):Int)=V.int (n:Int)),decide_eq_true (by congr 1; omega:V.int (k:Int)=V.int ((n:Int) - 1))]; rfl
  · rw [decide_eq_false (fun z=>e (by injection z with z; omega):¬ V.int ((k + 1:Nat):Int)=V.int (n:Int)),decide_eq_false (fun z=>e (by injection z with z; omega):¬ V.int (k:Int)=V.int ((n:Int) - 1))]; rfl
theorem iteE {b:Bool} {A B:Prop} (h:b=false) (q:B):if b=true then A else B:=by
  rw [h,if_neg Bool.false_ne_true]; exact q
structure Two (H:Hp) (p p2:Addr) (I J:Iq):Prop where
  a:∀ b,(b=p2∨b=J.sd∨b=J.fd∨b=J.cd)→b≠I.sd∧b≠I.fd∧b≠I.cd
  b:∀ b,(b=p∨b=I.sd∨b=I.fd∨b=I.cd)→b≠J.sd∧b≠J.fd∧b≠J.cd
def Off (I J:Iq) (b:Addr):Prop:=(b≠I.sd∧b≠I.fd∧b≠I.cd)∧(b≠J.sd∧b≠J.fd∧b≠J.cd)
theorem off_of {C:Addr} {H:Hp} {p p2:Addr} {I J:Iq} (S:InqAt C H p I) (R:InqAt C H p2 J) {b:Addr} {o:HO} (e:H b=some o) (n:∀ kvs,o≠.dK kvs):Off I J b:=by
  have h:∀ {y:Addr} {kvs:List (Key×V)},H y=some (.dK kvs)→b≠y:=fun {y kvs} ey z=>by rw [z,ey] at e; injection e with e; exact n _ e.symm
  exact ⟨⟨h S.s,h S.f,h S.c⟩,⟨h R.s,h R.f,h R.c⟩⟩
section
variable {P:Program} {w:World} {K:PySem.W.Frag} {mg:Str→Option Value} {base:Heap} {C:Addr}
theorem scAn:FnScope ["_law_one","_law_other","_law_states_here","_law_ticks_here","_law_script","_law_many","_law_empty","_law_order_here","_law_k","_law_h"] ["_law_one","_law_other","_law_states_here","_law_ticks_here","_law_script","_law_many"] (defScope sAnswered):=⟨rfl,rfl,rfl,by decide +kernel,rfl,by decide +kernel,by decide +kernel⟩
def tkF (T:List Int) (k:Nat):Int:=T.getD k 0
def adF (L:List (Int×Addr×HS)) (k:Nat):Addr:=(L[k]?.map (·.2.1)).getD 0
def stF (L:List (Int×Addr×HS)) (k:Nat):HS:=(L[k]?.map (·.2.2)).getD ([],[],[])
def oth (k:Nat):Int:=5 + if 0 < k then 1 else 0
def spAnswered (C:Addr) (K:PySem.W.Frag):Sp:=fun vs H Q _=>∃ (p p2 d x l1 l2 a:Addr) (n:Nat) (I J:Iq) (L:List (Int×Addr×HS)) (T1 T2 ns:List Int),vs=[.ref p,.ref p2,.ref d,.ref x,.ref a,.int n]∧1≤n∧n≤12 ∧
  InqAt C H p I∧InqAt C H p2 J∧Two H p p2 I J∧(I.m=n∧I.ss=[]∧I.fs=[]∧I.cs=[])∧(J.m=n∧J.ss=[]∧J.fs=[]∧J.cs=[])∧StsAt K H d L∧L.map (·.1)=rg n∧Off I J d∧H x=some (.tup [.ref l1,.ref l2])∧H l1=some (.lst (T1.map V.int))∧H l2=some (.lst (T2.map V.int))∧T1.length=n∧T2.length=n∧Scr K H a (ns.map V.int)∧ns.length≤63 ∧
  ∀ (H':Hp) (I' J':Iq) (e:Addr),InqAt C H' p I'→InqAt C H' p2 J'→Full I' n (tkF T1) (tkF T2) (adF L)→Full J' n (fun _=>5) oth (fun _=>e)→StA K H' e ([],[],[])→(∀ b o,H b=some o→Off I J b→H' b=some o)→Q (.bl true) H'
theorem rev_get {n i:Nat} (h:i < n):((List.range n).map fun k=>n - 1 - k)[i]?=some (n - 1 - i):=by rw [List.getElem?_map,List.getElem?_range h]; rfl
theorem rev_nd (n:Nat):((List.range n).map fun k=>n - 1 - k).Nodup:=by
  rw [List.Nodup,List.pairwise_map]
  exact List.Pairwise.imp_of_mem (fun {a b} ha hb (h:a < b) z=>by have:=List.mem_range.mp ha; have:=List.mem_range.mp hb; omega) List.pairwise_lt_range
theorem rev_perm (n:Nat):((List.range n).map fun k=>n - 1 - k).Perm (List.range n):=(List.perm_ext_iff_of_nodup (rev_nd n) List.nodup_range).mpr fun t=>by
  rw [List.mem_map,List.mem_range]
  constructor
  · rintro ⟨k,hk,e⟩
    have:=List.mem_range.mp hk
    omega
  · intro h
    exact ⟨n - 1 - t,List.mem_range.mpr (by omega),by omega⟩
theorem ok_answered {f fC fO fT fF fS:Addr} {fd dC dO dT dF dS:FuncData} (F:Fun K "_law_answered" "_law_answered" sAnswered f fd) (T:Txt mg) (TI:TxtI K mg C) (MC:Gdf K mg "_law_cell" sCell ["_law_script","_law_k"] fC dC) (MO:Gdf K mg "_law_order" sOrder ["_law_many","_law_cell_here"] fO dO)
    (MT:Gdf K mg "_law_truth" sTruth ["_law_answer","_law_due_here"] fT dT) (MF:Mth K C "first" "Inquiry.first" sFirst ["self","h","tick","state"] fF dF) (MS:Mth K C "second" "Inquiry.second" sSecond ["self","h","tick"] fS dS) :
    FnOk P w K mg base CX0 2 f fd ["_law_one","_law_other","_law_states_here","_law_ticks_here","_law_script","_law_many"] (spAnswered C K):=by
  have GC:FnOk P w K mg base CX0 1 fC dC ["_law_script","_law_k"] (spCell K):=ok_cell MC.fn T.len
  have GO:FnOk P w K mg base CX0 1 fO dO ["_law_many","_law_cell_here"] spOrder:=ok_order MO.fn T
  have GT:FnOk P w K mg base CX0 1 fT dT ["_law_answer","_law_due_here"] spTruth:=ok_truth MT.fn T
  have GF:FnOk P w K mg base CX0 1 fF dF ["self","h","tick","state"] (spFirst C):=ok_first MF.fn TI T.len
  have GS:FnOk P w K mg base CX0 1 fS dS ["self","h","tick"] (spSecond C):=ok_second MS.fn TI T.len
  refine F.ok scAn (fun vs H Q E h=>?_) (fun cdv A outer s H vs Q E hr h=>?_)
  · obtain ⟨p,p2,d,x,l1,l2,a,n,I,J,L,T1,T2,ns,rfl,_⟩:=h
    rfl
  · obtain ⟨p,p2,d,x,l1,l2,a,n,I,J,L,T1,T2,ns,rfl,n1,n12,SI,SJ,tw,⟨im,is,if',ic⟩,⟨jm,js,jf,jc⟩,St,eL,offd,ex,e1,e2,z1,z2,hS,hlen,k⟩:=h
    have hu:=hu_of hr
    have hr1:Room 1 _:=hr.mono (by decide)
    refine ⟨_,pss_cons (ps_set (i:=6) scAn.nd rfl (Or.inl rfl) (pe_tup (pa_cons (pe_tup pa_nil) (pa_cons (pe_tup pa_nil) (pa_cons (pe_tup pa_nil) pa_nil)))))
      (pss_cons (ps_set (i:=7) scAn.nd rfl (Or.inl rfl) (pe_call GO hr1 (by rfl) MO.mg MO.fn.kp MO.bd .nil pass0 (pa_cons (pv 5) (pa_cons (pe_call GC hr1 (by rfl) MC.mg MC.fn.kp MC.bd .nil pass0 (pa_cons (pv 4) (pa_cons pe_int pa_nil))) pa_nil))))
      (pss_cons (ps_for PassesOwn.never rfl (pi_range1 rfl T.range (pa_cons (pv 5) pa_nil)) (pg_name (i:=8) scAn.nd rfl (Or.inl rfl))
        (pss_cons (ps_set (i:=9) scAn.nd rfl (Or.inl rfl) (pe_ix ix_list (pv 7) (pv 8) (fun _ _=>rfl)))
        (pss_cons (ps_if (pt_not (pt_val (pe_call GT hr1 (by rfl) MT.mg MT.fn.kp MT.bd .nil pass0 (pa_cons (pe_meth (pl:=_) (pv 0) TI.cl MF.mt GF hr1 MF.bd .nil pass0 (pa_cons (pv 9) (pa_cons (pe_ix ix_list (pe_ix ix_tup (pv 3) pe_int (fun _ _=>rfl)) (pv 9) (fun _ _=>rfl)) (pa_cons (pe_dget hu (pv 2) (pv 9) (fun _ _=>rfl)) pa_nil)))) (pa_cons (pe_cmpR op_eq (pv 8) (pe_op op_sub (pv 5) pe_int) (nomark _)) pa_nil))))) (pss_one (ps_ret pe_bl)) pss_nil)
        (pss_one (ps_if (pt_not (pt_val (pe_call GT hr1 (by rfl) MT.mg MT.fn.kp MT.bd .nil pass0 (pa_cons (pe_meth (pl:=_) (pv 1) TI.cl MF.mt GF hr1 MF.bd .nil pass0 (pa_cons (pe_op op_sub (pe_op op_sub (pv 5) pe_int) (pv 8)) (pa_cons pe_int (pa_cons (pv 6) pa_nil)))) (pa_cons (pe_cmpR op_eq (pv 8) (pe_op op_sub (pv 5) pe_int) (nomark _)) pa_nil))))) (pss_one (ps_ret pe_bl)) pss_nil)))))
      (pss_cons (ps_set (i:=7) scAn.nd rfl (Or.inl rfl) (pe_call GO hr1 (by rfl) MO.mg MO.fn.kp MO.bd .nil pass0 (pa_cons (pv 5) (pa_cons (pe_call GC hr1 (by rfl) MC.mg MC.fn.kp MC.bd .nil pass0 (pa_cons (pv 4) (pa_cons pe_int pa_nil))) pa_nil))))
      (pss_cons (ps_for PassesOwn.never rfl (pi_range1 rfl T.range (pa_cons (pv 5) pa_nil)) (pg_name (i:=8) scAn.nd rfl (Or.inl rfl))
        (pss_cons (ps_set (i:=9) scAn.nd rfl (Or.inl rfl) (pe_ix ix_list (pv 7) (pv 8) (fun _ _=>rfl)))
        (pss_cons (ps_if (pt_not (pt_val (pe_call GT hr1 (by rfl) MT.mg MT.fn.kp MT.bd .nil pass0 (pa_cons (pe_meth (pl:=_) (pv 0) TI.cl MS.mt GS hr1 MS.bd .nil pass0 (pa_cons (pv 9) (pa_cons (pe_ix ix_list (pe_ix ix_tup (pv 3) pe_int (fun _ _=>rfl)) (pv 9) (fun _ _=>rfl)) pa_nil))) (pa_cons (pe_cmpR op_eq (pv 8) (pe_op op_sub (pv 5) pe_int) (nomark _)) pa_nil))))) (pss_one (ps_ret pe_bl)) pss_nil)
        (pss_one (ps_if (pt_not (pt_val (pe_call GT hr1 (by rfl) MT.mg MT.fn.kp MT.bd .nil pass0 (pa_cons (pe_meth (pl:=_) (pv 1) TI.cl MS.mt GS hr1 MS.bd .nil pass0 (pa_cons (pv 8) (pa_cons (pe_op op_add pe_int (pe_callTy call_int1 (by rfl) T.int PyProof.Rows.boot_int (pa_cons (pe_cmpR op_gt (pv 8) pe_int (nomark _)) pa_nil))) pa_nil))) (pa_cons (pe_cmpR op_eq (pv 8) (pe_op op_sub (pv 5) pe_int) (nomark _)) pa_nil))))) (pss_one (ps_ret pe_bl)) pss_nil)))))
      (pss_one (ps_ret pe_bl)))))),?_⟩
    refine ⟨Nat.zero_le _,fun y1 hy1=>⟨Nat.zero_le _,fun y2 hy2=>⟨Nat.zero_le _,fun y3 hy3=>?_⟩⟩⟩
    have sA:=same_trans (same_new (o:=.tup []) hy1) (same_trans (same_new (o:=.tup []) hy2) (same_new (o:=.tup []) hy3))
    have g1:(upd (upd (upd H y1 (.tup [])) y2 (.tup [])) y3 (.tup [])) y1=some (.tup []):=same_new hy3 _ _ (same_new hy2 _ _ upd_same)
    have g2:(upd (upd (upd H y1 (.tup [])) y2 (.tup [])) y3 (.tup [])) y2=some (.tup []):=same_new hy3 _ _ upd_same
    have g3:(upd (upd (upd H y1 (.tup [])) y2 (.tup [])) y3 (.tup [])) y3=some (.tup []):=upd_same
    generalize upd (upd (upd H y1 (.tup [])) y2 (.tup [])) y3 (.tup [])=HA at sA g1 g2 g3
    refine ⟨(show 3≤sizeLine by decide),fun em hem=>?_⟩
    have sB:=same_new (o:=.tup [V.ref y1,V.ref y2,V.ref y3]) hem
    have gE:(upd HA em (.tup [V.ref y1,V.ref y2,V.ref y3])) em=some (.tup [V.ref y1,V.ref y2,V.ref y3]):=upd_same
    generalize upd HA em (.tup [V.ref y1,V.ref y2,V.ref y3])=HB at sB gE
    have stE:StA K HB em ([],[],[]):=⟨y1,y2,y3,[],[],[],SqT.of gE,SqT.of (sB _ _ g1),.nil,SqT.of (sB _ _ g2),.nil,SqT.of (sB _ _ g3),.nil⟩
    have sHB:=same_trans sA sB
    refine ⟨_,rfl,_,rfl,a,ns,3,rfl,(hS.keep (KeepT.of_same sHB)).sq,hlen,by decide,by decide,fun v=>?_⟩
    refine ⟨n,v,rfl,by omega,fun lo os HC hlo sC eo pm=>?_⟩
    have sHC:=same_trans sHB sC
    have nd:=pm.nodup_iff.mpr List.nodup_range
    have los:os.length=n:=by rw [pm.length_eq,List.length_range]
    have mos:∀ {h:Nat},h∈os↔h < n:=fun {h}=>by rw [pm.mem_iff,List.mem_range]
    have SIC:=SI.same sHC
    have SJC:=SJ.same sHC
    have lL:L.length=n:=by have:=congrArg List.length eL; rw [List.length_map,rg_len] at this; exact this
    have LA:∀ {h:Nat},h < n→∃ q,L[h]?=some q∧q.1=(h:Int)∧adF L h=q.2.1:=fun {h} hh=>by
      obtain ⟨q,eq⟩:=get_of_lt (xs:=L) (j:=h) (by omega)
      refine ⟨q,eq,?_,by unfold adF; rw [eq]; rfl⟩
      have:=rg_get hh
      rw [← eL,List.getElem?_map,eq] at this
      exact Option.some.inj this
    have ndL:(L.map (·.1)).Nodup:=by rw [eL]; exact rg_nd n
    have keepC:∀ {H':Hp},(∀ b o,HC b=some o→Off I J b→H' b=some o)→∀ {b:Addr} {o:HO},HC b=some o→(∀ kvs,o≠.dK kvs)→H' b=some o:=fun {H'} fr {b o} e nk=>fr b o e (off_of SIC SJC e nk)
    have tick:∀ {H':Hp} {lt:Addr} {TT:List Int} {h:Nat},H' lt=some (.lst (TT.map V.int))→TT.length=n→h < n→atI (TT.map V.int) ((h:Nat):Int)=some (.int (tkF TT h)):=fun {H' lt TT h} e zT hh=>by
      obtain ⟨t,et⟩:=get_of_lt (xs:=TT) (j:=h) (by omega)
      refine atI_nat ?_
      rw [List.getElem?_map,et]
      unfold tkF
      rw [List.getD_eq_getElem?_getD,et]; rfl
    refine ⟨_,rfl,(n:Int),rfl,by omega,by omega,?_⟩
    rw [Int.toNat_natCast]
    refine for_range (lo:=0) (n:=n) (fun i σ H'=>∃ u8 u9,σ=[some (.ref p),some (.ref p2),some (.ref d),some (.ref x),some (.ref a),some (.int n),some (.ref em),some (.ref lo),u8,u9]∧InqAt C H' p { I with ss:=kv (os.take i) (fun h=>.ref (adF L h)),fs:=kv (os.take i) (fun h=>.int (tkF T1 h)) }∧InqAt C H' p2 { J with ss:=kv (((List.range n).map fun k=>n - 1 - k).take i) (fun _=>.ref em),fs:=kv (((List.range n).map fun k=>n - 1 - k).take i) (fun _=>.int 5) }∧∀ b o,HC b=some o→Off I J b→H' b=some o)
      ⟨_,_,rfl,by have:=SIC; rw [show I={ I with ss:=kv (os.take 0) (fun h=>.ref (adF L h)),fs:=kv (os.take 0) (fun h=>.int (tkF T1 h)) } by cases I; simp only at is if'; subst is if'; rfl] at this; exact this,by have:=SJC; rw [show J={ J with ss:=kv (((List.range n).map fun k=>n - 1 - k).take 0) (fun _=>.ref em),fs:=kv (((List.range n).map fun k=>n - 1 - k).take 0) (fun _=>.int 5) } by cases J; simp only at js jf; subst js jf; rfl] at this; exact this,fun b o e _=>e⟩ ?_ ?_
    · rintro i σ H1 hi ⟨u8,u9,rfl,A1,B1,fr1⟩
      rw [show (0:Int) + (i:Int)=(i:Int) by omega]
      obtain ⟨h,eh⟩:=get_of_lt (xs:=os) (j:=i) (by omega)
      have hh:h < n:=mos.mp (List.mem_of_getElem? eh)
      obtain ⟨q,eq,q1',q2'⟩:=LA hh
      obtain ⟨nw,tk1⟩:=take_new nd eh
      have eo1:=keepC fr1 eo (fun _ z=>by cases z)
      have ex1:=keepC fr1 (sHC _ _ ex) (fun _ z=>by cases z)
      have el1:=keepC fr1 (sHC _ _ e1) (fun _ z=>by cases z)
      have ed1:=fr1 _ _ (sHC _ _ St.ob) offd
      obtain ⟨dx,hp⟩:=A1.ob
      have gd:DGet H1 d (.int (h:Int)) (some (.ref (adF L h))):=by
        have:=DGet.k (k:=.inl (h:Int)) ed1
        rw [q2',← q1',valK_some ndL (List.mem_of_getElem? eq)] at *
        exact this
      refine ⟨_,rfl,_,rfl,lo,_,_,V.int (h:Int),rfl,rfl,SqL.of eo1,atI_nat (by unfold iN; rw [List.getElem?_map,eh]; rfl),?_⟩
      refine ⟨_,rfl,p,dx,_,rfl,hp,fl_no (by decide +kernel) (by decide +kernel) (by decide +kernel) (by decide +kernel),_,rfl,_,rfl,x,_,0,V.ref l1,rfl,rfl,SqT.of ex1,rfl,_,rfl,l1,_,_,V.int (tkF T1 h),rfl,rfl,SqL.of el1,tick el1 z1 hh,_,rfl,_,rfl,d,_,rfl,gd,?_⟩
      refine ⟨p,_,(h:Int),tkF T1 h,.ref (adF L h),rfl,A1,by show (kv _ _).length≤500; rw [kv_len,List.length_take]; omega,by show (kv _ _).length≤500; rw [kv_len,List.length_take]; omega,fun H2 A2 fr2=>?_⟩
      have A2:InqAt C H2 p { I with ss:=kv (os.take (i + 1)) (fun h=>.ref (adF L h)),fs:=kv (os.take (i + 1)) (fun h=>.int (tkF T1 h)) }:=by
        have e3:=kv_put (g:=fun h=>V.ref (adF L h)) nw
        have e4:=kv_put (g:=fun h=>V.int (tkF T1 h)) nw
        rw [tk1,← e3,← e4]
        exact A2
      have len2:(putK (kv (os.take i) (fun h=>V.int (tkF T1 h))) (.inl (h:Int)) (.int (tkF T1 h))).length=i + 1:=by
        rw [kv_put (g:=fun h=>V.int (tkF T1 h)) nw,kv_len,List.length_append,List.length_take]; simp; omega
      refine ⟨_,rfl,_,rfl,_,_,rfl,rfl,rfl,?_⟩
      refine ⟨_,_,rfl,_,rfl,?_⟩
      refine iteE (show (!decide (decide (V.int (((putK (kv (os.take i) (fun h=>V.int (tkF T1 h))) (.inl (h:Int)) (.int (tkF T1 h))).length:Nat):Int)=V.int I.m)=decide (V.int (i:Int)=V.int ((n:Int) - 1))))=false by rw [len2,im,last_eq hi]; rfl) ?_
      have B2:InqAt C H2 p2 { J with ss:=kv (((List.range n).map fun k=>n - 1 - k).take i) (fun _=>.ref em),fs:=kv (((List.range n).map fun k=>n - 1 - k).take i) (fun _=>.int 5) }:=B1.keep fun b hb o e=>fr2 b o e (tw.a b hb).1 (tw.a b hb).2.1
      have fr2':∀ b o,HC b=some o→Off I J b→H2 b=some o:=fun b o e of=>fr2 b o (fr1 b o e of) of.1.1 of.1.2.1
      obtain ⟨dx2,hp2⟩:=B2.ob
      obtain ⟨nw2,tk2⟩:=take_new (rev_nd n) (rev_get hi)
      have ci:((n:Int) - 1 - (i:Int))=((n - 1 - i:Nat):Int):=by omega
      refine ⟨_,rfl,p2,dx2,_,rfl,hp2,fl_no (by decide +kernel) (by decide +kernel) (by decide +kernel) (by decide +kernel),_,rfl,_,_,rfl,rfl,_,rfl,_,_,rfl,rfl,_,rfl,?_⟩
      refine ⟨p2,_,((n - 1 - i:Nat):Int),5,.ref em,by rw [← ci]; rfl,B2,by show (kv _ _).length≤500; rw [kv_len,List.length_take]; simp; omega,by show (kv _ _).length≤500; rw [kv_len,List.length_take]; simp; omega,fun H3 B3 fr3=>?_⟩
      have B3:InqAt C H3 p2 { J with ss:=kv (((List.range n).map fun k=>n - 1 - k).take (i + 1)) (fun _=>.ref em),fs:=kv (((List.range n).map fun k=>n - 1 - k).take (i + 1)) (fun _=>.int 5) }:=by
        have e3:=kv_put (g:=fun _=>V.ref em) nw2
        have e4:=kv_put (g:=fun _=>V.int 5) nw2
        rw [tk2,← e3,← e4]
        exact B3
      have len3:(putK (kv (((List.range n).map fun k=>n - 1 - k).take i) (fun _=>V.int 5)) (.inl ((n - 1 - i:Nat):Int)) (.int 5)).length=i + 1:=by
        rw [kv_put (g:=fun _=>V.int 5) nw2,kv_len,List.length_append,List.length_take]; simp; omega
      refine ⟨_,rfl,_,rfl,_,_,rfl,rfl,rfl,?_⟩
      refine ⟨_,_,rfl,_,rfl,?_⟩
      refine iteE (show (!decide (decide (V.int (((putK (kv (((List.range n).map fun k=>n - 1 - k).take i) (fun _=>V.int 5)) (.inl ((n - 1 - i:Nat):Int)) (.int 5)).length:Nat):Int)=V.int J.m)=decide (V.int (i:Int)=V.int ((n:Int) - 1))))=false by rw [len3,jm,last_eq hi]; rfl) ⟨_,_,rfl,A2.keep fun b hb o e=>fr3 b o e (tw.b b hb).1 (tw.b b hb).2.1,B3,fun b o e of=>fr3 b o (fr2' b o e of) of.2.1 of.2.2.1⟩
    · rintro σ H1 ⟨u8,u9,rfl,A1,B1,fr1⟩
      rw [List.take_of_length_le (by omega:os.length≤n)] at A1
      rw [List.take_of_length_le (by simp:((List.range n).map fun k=>n - 1 - k).length≤n)] at B1
      have kC1:KeepT HC H1:=⟨fun b xs e=>keepC fr1 e (fun _ z=>by cases z),fun b o u e=>keepC fr1 e (fun _ z=>by cases z)⟩
      refine ⟨_,rfl,_,rfl,a,ns,4,rfl,((hS.keep (KeepT.of_same sHC)).keep kC1).sq,hlen,by decide,by decide,fun v=>?_⟩
      refine ⟨n,v,rfl,by omega,fun lo2 os2 HD hlo2 sD eo2 pm2=>?_⟩
      have nd2:=pm2.nodup_iff.mpr List.nodup_range
      have los2:os2.length=n:=by rw [pm2.length_eq,List.length_range]
      have mos2:∀ {h:Nat},h∈os2↔h < n:=fun {h}=>by rw [pm2.mem_iff,List.mem_range]
      have AD:=A1.same sD
      have BD:=B1.same sD
      have keepD:∀ {H':Hp},(∀ b o,HD b=some o→Off I J b→H' b=some o)→∀ {b:Addr} {o:HO},HD b=some o→(∀ kvs,o≠.dK kvs)→H' b=some o:=fun {H'} fr {b o} e nk=>fr b o e (off_of AD BD e nk)
      have exD:=sD _ _ (keepC fr1 (sHC _ _ ex) (fun _ z=>by cases z))
      have elD:=sD _ _ (keepC fr1 (sHC _ _ e2) (fun _ z=>by cases z))
      have frD:∀ b o,HC b=some o→Off I J b→HD b=some o:=fun b o e of=>sD _ _ (fr1 b o e of)
      refine ⟨_,rfl,(n:Int),rfl,by omega,by omega,?_⟩
      rw [Int.toNat_natCast]
      refine for_range (lo:=0) (n:=n) (fun i σ H'=>∃ u8 u9,σ=[some (.ref p),some (.ref p2),some (.ref d),some (.ref x),some (.ref a),some (.int n),some (.ref em),some (.ref lo2),u8,u9]∧InqAt C H' p { I with ss:=kv os (fun h=>.ref (adF L h)),fs:=kv os (fun h=>.int (tkF T1 h)),cs:=kv (os2.take i) (fun h=>.int (tkF T2 h)) }∧InqAt C H' p2 { J with ss:=kv ((List.range n).map fun k=>n - 1 - k) (fun _=>.ref em),fs:=kv ((List.range n).map fun k=>n - 1 - k) (fun _=>.int 5),cs:=kv ((List.range n).take i) (fun h=>.int (oth h)) }∧∀ b o,HD b=some o→Off I J b→H' b=some o)
        ⟨_,_,rfl,by have:=AD; rw [show ({ I with ss:=kv os (fun h=>.ref (adF L h)),fs:=kv os (fun h=>.int (tkF T1 h)) }:Iq)={ I with ss:=kv os (fun h=>.ref (adF L h)),fs:=kv os (fun h=>.int (tkF T1 h)),cs:=kv (os2.take 0) (fun h=>.int (tkF T2 h)) } by cases I; simp only at ic; subst ic; rfl] at this; exact this,by have:=BD; rw [show ({ J with ss:=kv ((List.range n).map fun k=>n - 1 - k) (fun _=>.ref em),fs:=kv ((List.range n).map fun k=>n - 1 - k) (fun _=>.int 5) }:Iq)={ J with ss:=kv ((List.range n).map fun k=>n - 1 - k) (fun _=>.ref em),fs:=kv ((List.range n).map fun k=>n - 1 - k) (fun _=>.int 5),cs:=kv ((List.range n).take 0) (fun h=>.int (oth h)) } by cases J; simp only at jc; subst jc; rfl] at this; exact this,fun b o e _=>e⟩ ?_ ?_
      · rintro i σ H2 hi ⟨v8,v9,rfl,A2,B2,fr2⟩
        rw [show (0:Int) + (i:Int)=(i:Int) by omega]
        obtain ⟨h,eh⟩:=get_of_lt (xs:=os2) (j:=i) (by omega)
        have hh:h < n:=mos2.mp (List.mem_of_getElem? eh)
        obtain ⟨nw,tk1⟩:=take_new nd2 eh
        have eo3:=keepD fr2 eo2 (fun _ z=>by cases z)
        have ex3:=keepD fr2 exD (fun _ z=>by cases z)
        have el3:=keepD fr2 elD (fun _ z=>by cases z)
        obtain ⟨dx,hp⟩:=A2.ob
        refine ⟨_,rfl,_,rfl,lo2,_,_,V.int (h:Int),rfl,rfl,SqL.of eo3,atI_nat (by unfold iN; rw [List.getElem?_map,eh]; rfl),?_⟩
        refine ⟨_,rfl,p,dx,_,rfl,hp,fl_no (by decide +kernel) (by decide +kernel) (by decide +kernel) (by decide +kernel),_,rfl,_,rfl,x,_,1,V.ref l2,rfl,rfl,SqT.of ex3,rfl,_,rfl,l2,_,_,V.int (tkF T2 h),rfl,rfl,SqL.of el3,tick el3 z2 hh,?_⟩
        refine ⟨p,_,(h:Int),tkF T2 h,rfl,A2,by show (kv _ _).length≤500; rw [kv_len,List.length_take]; omega,fun H3 A3 fr3=>?_⟩
        have A3:InqAt C H3 p { I with ss:=kv os (fun h=>.ref (adF L h)),fs:=kv os (fun h=>.int (tkF T1 h)),cs:=kv (os2.take (i + 1)) (fun h=>.int (tkF T2 h)) }:=by
          have e4:=kv_put (g:=fun h=>V.int (tkF T2 h)) nw
          rw [tk1,← e4]
          exact A3
        have len2:(putK (kv (os2.take i) (fun h=>V.int (tkF T2 h))) (.inl (h:Int)) (.int (tkF T2 h))).length=i + 1:=by
          rw [kv_put (g:=fun h=>V.int (tkF T2 h)) nw,kv_len,List.length_append,List.length_take]; simp; omega
        refine ⟨_,rfl,_,rfl,_,_,rfl,rfl,rfl,?_⟩
        refine ⟨_,_,rfl,_,rfl,?_⟩
        refine iteE (show (!decide (decide (V.int (((putK (kv (os2.take i) (fun h=>V.int (tkF T2 h))) (.inl (h:Int)) (.int (tkF T2 h))).length:Nat):Int)=V.int I.m)=decide (V.int (i:Int)=V.int ((n:Int) - 1))))=false by rw [len2,im,last_eq hi]; rfl) ?_
        have B3:InqAt C H3 p2 { J with ss:=kv ((List.range n).map fun k=>n - 1 - k) (fun _=>.ref em),fs:=kv ((List.range n).map fun k=>n - 1 - k) (fun _=>.int 5),cs:=kv ((List.range n).take i) (fun h=>.int (oth h)) }:=B2.keep fun b hb o e=>fr3 b o e (tw.a b hb).2.2
        have fr3':∀ b o,HD b=some o→Off I J b→H3 b=some o:=fun b o e of=>fr3 b o (fr2 b o e of) of.1.2.2
        obtain ⟨dx2,hp2⟩:=B3.ob
        obtain ⟨nw2,tk2⟩:=take_new (os:=List.range n) List.nodup_range (List.getElem?_range hi)
        have eot:(5:Int) + (if decide ((i:Int) > 0)=true then 1 else 0)=oth i:=by
          unfold oth
          by_cases z:0 < i
          · rw [if_pos z,if_pos (by simpa using z)]
          · rw [if_neg z,if_neg (by simpa using z)]
        refine ⟨_,rfl,p2,dx2,_,rfl,hp2,fl_no (by decide +kernel) (by decide +kernel) (by decide +kernel) (by decide +kernel),_,rfl,_,rfl,_,_,rfl,rfl,.inr ⟨_,rfl,?_⟩⟩
        refine ⟨_,_,rfl,rfl,?_⟩
        refine ⟨p2,_,(i:Int),oth i,by rw [← eot]; rfl,B3,by show (kv _ _).length≤500; rw [kv_len,List.length_take]; simp; omega,fun H4 B4 fr4=>?_⟩
        have B4:InqAt C H4 p2 { J with ss:=kv ((List.range n).map fun k=>n - 1 - k) (fun _=>.ref em),fs:=kv ((List.range n).map fun k=>n - 1 - k) (fun _=>.int 5),cs:=kv ((List.range n).take (i + 1)) (fun h=>.int (oth h)) }:=by
          have e4:=kv_put (g:=fun h=>V.int (oth h)) nw2
          rw [tk2,← e4]
          exact B4
        have len3:(putK (kv ((List.range n).take i) (fun h=>V.int (oth h))) (.inl (i:Int)) (.int (oth i))).length=i + 1:=by
          rw [kv_put (g:=fun h=>V.int (oth h)) nw2,kv_len,List.length_append,List.length_take]; simp; omega
        refine ⟨_,rfl,_,rfl,_,_,rfl,rfl,rfl,?_⟩
        refine ⟨_,_,rfl,_,rfl,?_⟩
        refine iteE (show (!decide (decide (V.int (((putK (kv ((List.range n).take i) (fun h=>V.int (oth h))) (.inl (i:Int)) (.int (oth i))).length:Nat):Int)=V.int J.m)=decide (V.int (i:Int)=V.int ((n:Int) - 1))))=false by rw [len3,jm,last_eq hi]; rfl) ⟨_,_,rfl,A3.keep fun b hb o e=>fr4 b o e (tw.b b hb).2.2,B4,fun b o e of=>fr4 b o (fr3' b o e of) of.2.2.2⟩
      · rintro σ H2 ⟨v8,v9,rfl,A2,B2,fr2⟩
        rw [List.take_of_length_le (by omega:os2.length≤n)] at A2
        rw [List.take_of_length_le (by simp:(List.range n).length≤n)] at B2
        have rp:=rev_perm n
        have mrev:∀ {h:Nat},h < n→h∈((List.range n).map fun k=>n - 1 - k):=fun {h} hh=>rp.mem_iff.mpr (List.mem_range.mpr hh)
        have kD:KeepT HD H2:=⟨fun b xs e=>keepD fr2 e (fun _ z=>by cases z),fun b o u e=>keepD fr2 e (fun _ z=>by cases z)⟩
        refine k H2 _ _ em A2 B2 ⟨⟨os,pm,kv_keys ..⟩,fun j hj=>kv_val (mos.mpr hj),fun j hj=>kv_val (mos2.mpr hj),fun j hj=>kv_val (mos.mpr hj)⟩ ⟨⟨_,rp,kv_keys ..⟩,fun j hj=>kv_val (mrev hj),fun j hj=>kv_val (List.mem_range.mpr hj),fun j hj=>kv_val (mrev hj)⟩ ((((stE.keep (KeepT.of_same sC)).keep kC1).keep (KeepT.of_same sD)).keep kD) fun b o e of=>fr2 b o (frD b o (sHC _ _ e) of) of
end
end K32
namespace K32
open PySem L2 FX
set_option linter.all false
theorem fine_nil1 {em:Addr} {L:List (Int×Addr×HS)} (h:∀ q∈L,q.2.2=([],[],[])):Fine (sts L)∧rowsOf (sts L)=[]:=by
  have e:∀ (f:HS→List (T2×Int×List T2)),f ([],[],[])=[]→(sts L).flatMap f=[]:=fun f hf=>by
    rw [List.flatMap_eq_nil_iff]
    intro S hS
    obtain ⟨q,hq,eq⟩:=List.mem_map.mp hS
    have:S=([],[],[]):=by rw [← eq]; exact h q hq
    rw [this]; exact hf
  have e1:(sts L).flatMap (·.1)=[]:=by
    rw [List.flatMap_eq_nil_iff]
    intro S hS
    obtain ⟨q,hq,eq⟩:=List.mem_map.mp hS
    have:S=([],[],[]):=by rw [← eq]; exact h q hq
    rw [this]
  have e2:(sts L).flatMap (·.2.2)=[]:=by
    rw [List.flatMap_eq_nil_iff]
    intro S hS
    obtain ⟨q,hq,eq⟩:=List.mem_map.mp hS
    have:S=([],[],[]):=by rw [← eq]; exact h q hq
    rw [this]
  have e0:rowsOf (sts L)=[]:=e (·.2.1) rfl
  exact ⟨⟨by rw [e0]; exact List.nodup_nil,by rw [e0]; simp,by rw [e1]; simp,(fun r hr=>by rw [e0] at hr; cases hr),by rw [e2]; simp⟩,e0⟩
theorem found_none {L:List HS} {ts:List T2} (h:rowsOf L=[]) (fo:Found L ts):ts=[]:=by
  cases ts with
  | nil=>rfl
  | cons t ts =>
    have:=((fo.mem t).mp (List.mem_cons_self ..)).1
    rw [h] at this
    cases this
theorem still_oth {n:Nat} (h:1≤n):stillOf n (fun _=>5) oth=[0]:=by
  obtain ⟨m,rfl⟩:∃ m,n=m + 1:=⟨n - 1,by omega⟩
  unfold stillOf
  rw [List.range_succ_eq_map,List.filter_cons]
  have e:((List.range m).map Nat.succ).filter (fun k=>decide ((5:Int)=oth k))=[]:=by
    rw [List.filter_eq_nil_iff]
    intro k hk
    obtain ⟨j,_,rfl⟩:=List.mem_map.mp hk
    unfold oth
    simp
  rw [if_pos (by unfold oth; simp),e]
theorem L_eq {L:List (Int×Addr×HS)} {n:Nat} (e:L.map (·.1)=rg n):L=(List.range n).map fun k:Nat=>((k:Int),adF L k,stF L k):=by
  have ln:L.length=n:=by have:=congrArg List.length e; rw [List.length_map,rg_len] at this; exact this
  refine List.ext_getElem? fun j=>?_
  rw [List.getElem?_map]
  by_cases hj:j < n
  · rw [List.getElem?_range hj]
    obtain ⟨q,eq⟩:=get_of_lt (xs:=L) (j:=j) (by omega)
    have h1:=rg_get hj
    rw [← e,List.getElem?_map,eq] at h1
    have h1:q.1=(j:Int):=Option.some.inj h1
    show L[j]?=some ((j:Int),adF L j,stF L j)
    unfold adF stF
    rw [eq]
    show some q=some ((j:Int),q.2.1,q.2.2)
    rw [← h1]
  · rw [List.getElem?_eq_none (by omega),List.getElem?_eq_none (by rw [List.length_range]; omega)]; rfl
theorem kept_sub {L:List (Int×Addr×HS)} {n:Nat} (e:L.map (·.1)=rg n) (f c:Nat→Int):(keptOf n f c (adF L) (stF L)).Sublist L:=by
  have h:(keptOf n f c (adF L) (stF L)).Sublist ((List.range n).map fun k:Nat=>((k:Int),adF L k,stF L k)):=(List.filter_sublist (l:=List.range n)).map _
  rw [← L_eq e] at h
  exact h
section
variable {P:Program} {w:World} {K:PySem.W.Frag} {mg:Str→Option Value} {base:Heap} {C:Addr}
theorem scLw:FnScope ["_law_script","_law_many","_law_states_here","_law_ticks_here","_law_one","_law_other","_law_h","_law_still","_law_kept","_law_due_here","_law_k","_law_answer"] ["_law_script"] (defScope sLaw):=⟨rfl,rfl,rfl,by decide +kernel,rfl,by decide +kernel,by decide +kernel⟩
def spLaw (K:PySem.W.Frag):Sp:=fun vs H Q _=>∃ (a:Addr) (ns:List Int),vs=[.ref a]∧Scr K H a (ns.map V.int)∧ns.length≤63∧∀ H',Q (.bl true) H'
def sgM (a:Addr) (m:Int):L2.St:=[some (.ref a),some (.int m),none,none,none,none,none,none,none,none,none,none]
def ttLw (K:PySem.W.Frag):TT:=tTest (tOp rEq (tOp (rIxL K) (tOp (rIxT K) (tVar 1) (tC (.int 0))) (tVar 0)) (tOp (rIxL K) (tOp (rIxT K) (tVar 1) (tC (.int 1))) (tVar 0)))
theorem ints_rep {H:Hp} (os:List Nat):Paired (RepT K H) (iN os) (os.map fun k:Nat=>PyData.int (k:Int)):=by
  unfold iN
  induction os with
  | nil=>exact .nil
  | cons k os ih=>exact .cons (.int _) ih
theorem ints_ok (os:List Nat):Okd (.list (os.map fun k:Nat=>PyData.int (k:Int))):=okd_list fun d hd=>by
  obtain ⟨x,_,rfl⟩:=List.mem_map.mp hd
  exact ⟨by simp [PyData.canLay0],by simp [PyData.depth]⟩
theorem ok_law {f fC fSt fD fTi fA fI fS fR:Addr} {fd dC dSt dD dTi dA dI dS dR:FuncData} (F:Fun K "law" "law" sLaw f fd) (T:Txt mg) (TI:TxtI K mg C) (MC:Gdf K mg "_law_cell" sCell ["_law_script","_law_k"] fC dC)
    (MSt:Gdf K mg "_law_states" sStates ["_law_script","_law_houses_here"] fSt dSt) (GSt:FnOk P w K mg base CX0 3 fSt dSt ["_law_script","_law_houses_here"] (spStates K)) (MD:Gdf K mg "_law_due" sDue ["_law_states_here"] fD dD)
    (MTi:Gdf K mg "_law_ticks" sTicks ["_law_script","_law_many"] fTi dTi) (GTi:FnOk P w K mg base CX0 2 fTi dTi ["_law_script","_law_many"] (spTicks K))
    (MA:Gdf K mg "_law_answered" sAnswered ["_law_one","_law_other","_law_states_here","_law_ticks_here","_law_script","_law_many"] fA dA) (GA:FnOk P w K mg base CX0 2 fA dA ["_law_one","_law_other","_law_states_here","_law_ticks_here","_law_script","_law_many"] (spAnswered C K))
    (MmI:Mk K C fI) (FI:Fun K "__init__" "Inquiry.__init__" sInit fI dI) (bI:Binds K dI ["self","many"] [])
    (MS:Mth K C "still" "Inquiry.still" sStill ["self"] fS dS) (MR:Mth K C "result" "Inquiry.result" sResult ["self"] fR dR) (GR:FnOk P w K mg base CX0 3 fR dR ["self"] (spResult C K)):FnOk P w K mg base CX0 4 f fd ["_law_script"] (spLaw K):=by
  have GC:FnOk P w K mg base CX0 1 fC dC ["_law_script","_law_k"] (spCell K):=ok_cell MC.fn T.len
  have GD:FnOk P w K mg base CX0 1 fD dD ["_law_states_here"] (spDue K):=ok_due MD.fn T
  have GI:FnOk P w K mg base CX0 1 fI dI ["self","many"] (spInit C):=ok_init FI TI
  have GS:FnOk P w K mg base CX0 1 fS dS ["self"] (spStill C):=ok_still MS.fn TI T.sorted
  refine F.ok scLw (fun vs H Q E h=>?_) (fun cdv A outer s H vs Q E hr h=>?_)
  · obtain ⟨a,ns,rfl,_⟩:=h
    rfl
  · obtain ⟨a,ns,rfl,hS,hlen,k⟩:=h
    have hu:=hu_of hr
    have hr1:Room 1 _:=hr.mono (by decide)
    have hr2:Room 2 _:=hr.mono (by decide)
    have hr3:Room 3 _:=hr.mono (by decide)
    refine ⟨_,pss_cons (ps_set (i:=1) scLw.nd rfl (Or.inl rfl) (pe_op op_add pe_int (pe_op op_mod (pe_call GC hr1 (by rfl) MC.mg MC.fn.kp MC.bd .nil pass0 (pa_cons (pv 0) (pa_cons pe_int pa_nil))) pe_int)))
      (pss_cons (PS.by (γ:=Addr×Hp×Int) (fun g σ H2=>σ=sgM g.1 g.2.2∧H2=g.2.1∧(∃ ns:List Int,SqL K H2 g.1 (ns.map V.int)∧ns.length≤63)∧1≤g.2.2∧g.2.2≤5) (fun g σ H2=>H2=g.2.1∧∃ n:Nat,σ=sgM g.1 (n:Int)∧1≤n∧n≤12) (fun _ _=>False)
        (ps_if (pt_cmpR op_eq (pe_op op_mod (pe_op op_fdiv (pe_call GC hr1 (by rfl) MC.mg MC.fn.kp MC.bd .nil pass0 (pa_cons (pv 0) (pa_cons pe_int pa_nil))) pe_int) pe_int) pe_int (nomark _)) (pss_one (ps_set (i:=1) scLw.nd rfl (Or.inl rfl) pe_int)) pss_nil) ?many)
      (pss_cons (ps_set (i:=2) scLw.nd rfl (Or.inl rfl) (pe_call GSt hr3 (by rfl) MSt.mg MSt.fn.kp MSt.bd .nil pass0 (pa_cons (pv 0) (pa_cons (pe_callTy (call_list_rng rfl) (by rfl) T.list PyProof.Rows.boot_list (pa_cons (pe_callTy call_rangeO (by rfl) T.range PyProof.Rows.boot_range (pa_cons (pv 1) pa_nil)) pa_nil)) pa_nil))))
      (pss_cons (ps_set (i:=3) scLw.nd rfl (Or.inr rfl) (pe_call GTi hr2 (by rfl) MTi.mg MTi.fn.kp MTi.bd .nil pass0 (pa_cons (pv 0) (pa_cons (pv 1) pa_nil))))
      (pss_cons (ps_set (i:=4) scLw.nd rfl (Or.inl rfl) (pe_make MmI GI hr2 (by rfl) TI.mgC bI .nil pass0 (pa_cons (pv 1) pa_nil)))
      (pss_cons (ps_set (i:=5) scLw.nd rfl (Or.inl rfl) (pe_make MmI GI hr2 (by rfl) TI.mgC bI .nil pass0 (pa_cons (pv 1) pa_nil)))
      (pss_cons (ps_if (pt_not (pt_val (pe_call GA hr2 (by rfl) MA.mg MA.fn.kp MA.bd .nil pass0 (pa_cons (pv 4) (pa_cons (pv 5) (pa_cons (pv 2) (pa_cons (pv 3) (pa_cons (pv 0) (pa_cons (pv 1) pa_nil))))))))) (pss_one (ps_ret pe_bl)) pss_nil)
      (pss_cons (ps_comp (tt:=ttLw K) (te:=tVar 0) (i:=7) (caps:=[("_law_ticks_here",3)]) scLw.nd rfl rfl rfl rfl (pi_range1 rfl T.range (pa_cons (pv 1) pa_nil))
          rfl (by decide +kernel) rfl (by decide +kernel) rfl ⟨rfl,trivial⟩ (fun y h=>has3 ⟨_,rfl⟩ h) ⟨⟨rfl,rfl,rfl,rfl⟩,trivial⟩ (by decide +kernel) (fun _ _ _ _ _=>pts_one (pt_cmpR op_eq (pe_ix ix_list (pe_ix ix_tup (pv 1) pe_int (fun _ _=>rfl)) (pv 0) (fun _ _=>rfl)) (pe_ix ix_list (pe_ix ix_tup (pv 1) pe_int (fun _ _=>rfl)) (pv 0) (fun _ _=>rfl)) (nomark _))) (fun _ _ _ _ _=>pv 0))
      (pss_cons (ps_set (i:=8) scLw.nd rfl (Or.inl rfl) pe_dnewK)
      (pss_cons (ps_for PassesOwn.never rfl (pi_list (pv 7)) (pg_name (i:=6) scLw.nd rfl (Or.inl rfl))
        (pss_one (ps_dput hu (pv 8) (pv 6) (pe_dget hu (pv 2) (pv 6) (fun _ _=>rfl)) rfl)))
      (pss_cons (ps_set (i:=9) scLw.nd rfl (Or.inl rfl) (pe_call GD hr1 (by rfl) MD.mg MD.fn.kp MD.bd .nil pass0 (pa_cons (pv 8) pa_nil)))
      (pss_cons (ps_for PassesOwn.never rfl (pi_range1 rfl T.range (pa_cons pe_int pa_nil)) (pg_name (i:=10) scLw.nd rfl (Or.inl rfl))
        (pss_cons (ps_set (i:=11) scLw.nd rfl (Or.inl rfl) (pe_meth0 (pl:=_) (pv 4) TI.cl MS.mt GS hr1 MS.bd .nil pass0))
        (pss_cons (ps_if (PW.pt (pw_or (pt_not (pt_val (pe_callB call_isi (by rfl) T.isi PyProof.Rows.boot_isinstance (pa_cons (pv 11) (pa_cons (pe_bltn (v:=.ty "list") (by rfl) T.list PyProof.Rows.boot_list rfl) pa_nil)))))
          (pw_or (pt_cmpR (op_neD (hu64 hr)) (pv 11) (pv 7) (nomark _)) (pw_or1 (pt_cmpR (op_neD (hu64 hr)) (pe_meth0 (pl:=_) (pv 5) TI.cl MS.mt GS hr1 MS.bd .nil pass0) (pe_lst (pa_cons pe_int pa_nil)) (nomark _)))))) (pss_one (ps_ret pe_bl)) pss_nil)
        (pss_cons (ps_expr (pe_bm PySem.F.plainAttrs_list PySem.F.slot_list_append PySem.F.type_list_append mt_append (pv 11) (pa_cons pe_int pa_nil)))
        (pss_cons (ps_set (i:=11) scLw.nd rfl (Or.inl rfl) (pe_meth0 (pl:=_) (pv 4) TI.cl MR.mt GR hr3 MR.bd .nil pass0))
        (pss_one (ps_if (PW.pt (pw_or (pt_not (pt_val (pe_callB call_isi (by rfl) T.isi PyProof.Rows.boot_isinstance (pa_cons (pv 11) (pa_cons (pe_bltn (v:=.ty "tuple") (by rfl) T.tuple PyProof.Rows.boot_tuple rfl) pa_nil)))))
          (pw_or (pt_cmpR (op_neD (hu64 hr)) (pv 11) (pv 9) (nomark _)) (pw_or1 (pt_cmpR (op_neD (hu64 hr)) (pe_meth0 (pl:=_) (pv 5) TI.cl MR.mt GR hr3 MR.bd .nil pass0) (pe_tup pa_nil) (nomark _)))))) (pss_one (ps_ret pe_bl)) pss_nil)))))))
      (pss_one (ps_ret pe_bl))))))))))))),?_⟩
    case many =>
      rintro ⟨a,H1,m⟩ σ H2 ⟨rfl,rfl,⟨ns,sq,hl⟩,m1,m5⟩
      dsimp only at *
      refine ⟨_,rfl,a,ns,0,rfl,sq,hl,by decide,by decide,fun v=>?_⟩
      refine ⟨_,_,rfl,rfl,⟨by decide,by decide⟩,_,_,rfl,rfl,(show (0:Int) < 6 by decide),rfl,_,rfl,?_⟩
      refine ite2 (fun _=>?_) (fun _=>?_)
      · exact ⟨rfl,12,rfl,by decide,by decide⟩
      · exact ⟨rfl,m.toNat,by rw [Int.toNat_of_nonneg (by omega)],by omega,by omega⟩
    refine ⟨_,rfl,a,ns,0,rfl,hS.sq,hlen,by decide,by decide,fun v=>?_⟩
    refine ⟨_,_,rfl,rfl,(show (0:Int) < 5 by decide),_,_,rfl,rfl,?_⟩
    refine ⟨(a,H,1 + v % 5),⟨rfl,rfl,⟨ns,hS.sq,hlen⟩,by dsimp only; omega,by dsimp only; omega⟩,?_,fun v H' z=>z.elim⟩
    rintro σ H0 ⟨e0,n,rfl,n1,n12⟩
    have e0:H0=H:=e0
    subst e0
    show _
    refine ⟨_,rfl,_,rfl,_,rfl,fun pr hpr=>?_⟩
    have s1:=same_new (o:=rngO pr n) hpr
    have e1:(upd H0 pr (rngO pr n)) pr=some (rngO pr n):=upd_same
    generalize upd H0 pr (rngO pr n)=H1 at s1 e1
    refine ⟨pr,n,rfl,e1,by omega,fun hl hhl=>?_⟩
    have s2:=same_new (o:=.lst ((rg n).map V.int)) hhl
    have e2:(upd H1 hl (.lst ((rg n).map V.int))) hl=some (.lst ((rg n).map V.int)):=upd_same
    generalize upd H1 hl (.lst ((rg n).map V.int))=H2 at s2 e2
    have s02:=same_trans s1 s2
    refine ⟨a,hl,ns,rg n,rfl,hS.keep (KeepT.of_same s02),hlen,e2,rg_nd n,by rw [rg_len]; omega,by rw [rg_len]; omega,fun d L H3 hd s3 St fi eL=>?_⟩
    have s03:=same_trans s02 s3
    refine ⟨_,rfl,_,rfl,a,ns,n,rfl,hS.keep (KeepT.of_same s03),hlen,by omega,fun x l1 l2 T1 T2 H4 hx s4 ex el1 el2 z1 z2=>?_⟩
    have s04:=same_trans s03 s4
    refine ⟨_,rfl,fun p dxp np ndp nep=>?_⟩
    have s5:Same H4 (upd (upd H4 dxp (.own p)) p (.ins C dxp [])):=fun b o e=>by
      rw [upd_ne (ne_of_none e np),upd_ne (ne_of_none e ndp)]
      exact e
    refine ⟨p,dxp,_,rfl,upd_same,fun H5 I kp5 A5 im is if' ic is0 if0 ic0=>⟨rfl,?_⟩⟩
    have s45:Same H4 H5:=fun b o e=>kp5 b o (s5 b o e) (ne_of_none e np)
    have is4:H4 I.sd=none:=same_free s5 is0
    have if4:H4 I.fd=none:=same_free s5 if0
    have ic4:H4 I.cd=none:=same_free s5 ic0
    refine ⟨_,rfl,fun p2 dxq nq ndq neq=>?_⟩
    have s6:Same H5 (upd (upd H5 dxq (.own p2)) p2 (.ins C dxq [])):=fun b o e=>by
      rw [upd_ne (ne_of_none e nq),upd_ne (ne_of_none e ndq)]
      exact e
    refine ⟨p2,dxq,_,rfl,upd_same,fun H6 J kp6 B6 jm js jf jc js0 jf0 jc0=>⟨rfl,?_⟩⟩
    have s56:Same H5 H6:=fun b o e=>kp6 b o (s6 b o e) (ne_of_none e nq)
    have js5:H5 J.sd=none:=same_free s6 js0
    have jf5:H5 J.fd=none:=same_free s6 jf0
    have jc5:H5 J.cd=none:=same_free s6 jc0
    have A6:=A5.same s56
    obtain ⟨dxp5,hp5⟩:=A5.ob
    have someI:∀ b,(b=p∨b=I.sd∨b=I.fd∨b=I.cd)→∃ o,H5 b=some o:=fun b hb=>by
      rcases hb with rfl | rfl | rfl | rfl
      · exact ⟨_,hp5⟩
      · exact ⟨_,A5.s⟩
      · exact ⟨_,A5.f⟩
      · exact ⟨_,A5.c⟩
    have tw:Two H6 p p2 I J:=⟨fun b hb=>by
      have nb:H5 b=none:=by
        rcases hb with rfl | rfl | rfl | rfl
        · exact nq
        · exact js5
        · exact jf5
        · exact jc5
      exact ⟨(fun z=>by rw [z,A5.s] at nb; cases nb),(fun z=>by rw [z,A5.f] at nb; cases nb),(fun z=>by rw [z,A5.c] at nb; cases nb)⟩,fun b hb=>by
      obtain ⟨o,e⟩:=someI b hb
      exact ⟨(fun z=>by rw [z,js5] at e; cases e),(fun z=>by rw [z,jf5] at e; cases e),(fun z=>by rw [z,jc5] at e; cases e)⟩⟩
    have s46:=same_trans s45 s56
    have s36:=same_trans s4 s46
    have ed4:=s4 _ _ St.ob
    have ed5:=s45 _ _ ed4
    have off4:∀ {b:Addr} {o:HO},H4 b=some o→Off I J b:=fun {b o} e=>⟨⟨(fun z=>by rw [z,is4] at e; cases e),(fun z=>by rw [z,if4] at e; cases e),(fun z=>by rw [z,ic4] at e; cases e)⟩,⟨(fun z=>by have e5:=s45 _ _ e; rw [z,js5] at e5; cases e5),(fun z=>by have e5:=s45 _ _ e; rw [z,jf5] at e5; cases e5),(fun z=>by have e5:=s45 _ _ e; rw [z,jc5] at e5; cases e5)⟩⟩
    have St6:StsAt K H6 d L:=⟨s36 _ _ St.ob,fun q hq=>(St.st q hq).keep (KeepT.of_same s36)⟩
    refine ⟨_,rfl,_,rfl,_,rfl,_,rfl,_,rfl,_,rfl,p,p2,d,x,l1,l2,a,n,I,J,L,T1,T2,ns,rfl,n1,n12,A6,B6,tw,⟨im,is,if',ic⟩,⟨jm,js,jf,jc⟩,St6,eL,off4 ed4,s46 _ _ ex,s46 _ _ el1,s46 _ _ el2,z1,z2,hS.keep (KeepT.of_same (same_trans s04 s46)),hlen,fun H7 I' J' em A7 B7 fA fB stE fr7=>⟨true,rfl,?_⟩⟩
    refine iteF ?_
    have keep7:∀ {b:Addr} {o:HO},H4 b=some o→H7 b=some o:=fun {b o} e=>fr7 b o (s46 _ _ e) (off4 e)
    have s47:Same H4 H7:=fun b o e=>keep7 e
    have St7:StsAt K H7 d L:=⟨s47 _ _ ed4,fun q hq=>((St.st q hq).keep (KeepT.of_same s4)).keep (KeepT.of_same s47)⟩
    have ex7:=s47 _ _ ex
    have e17:=s47 _ _ el1
    have e27:=s47 _ _ el2
    have tick:∀ {TT:List Int} {h:Nat},TT.length=n→h < n→atI (TT.map V.int) ((h:Nat):Int)=some (.int (tkF TT h)):=fun {TT h} zT hh=>by
      obtain ⟨t,et⟩:=get_of_lt (xs:=TT) (j:=h) (by omega)
      refine atI_nat ?_
      rw [List.getElem?_map,et]
      unfold tkF
      rw [List.getD_eq_getElem?_getD,et]; rfl
    have s07:Same H0 H7:=same_trans s04 s47
    refine ⟨_,rfl,(n:Int),rfl,by omega,by omega,fun sl hsl=>?_⟩
    rw [Int.toNat_natCast]
    refine comp_range (lo:=0) (n:=n) (tt:=ttLw K) (te:=tVar 0) (caps:=[("_law_ticks_here",3)])
      (fun i ys H'=>H' sl=some (.lst ys)∧Same H7 H'∧ys=iN (stillOf i (tkF T1) (tkF T2))) ⟨upd_same,same_new hsl,rfl⟩ (fun i ys H' _ z=>z.1) ?_ ?_
    · rintro i ys H8 N hi ⟨el,s8,rfl⟩ hN
      rw [show (0:Int) + (i:Int)=(i:Int) by omega]
      have lst:(stillOf i (tkF T1) (tkF T2)).length≤i:=by
        have:=List.length_filter_le (fun k=>decide (tkF T1 k=tkF T2 k)) (List.range i)
        rw [List.length_range] at this
        exact this
      have st1:stillOf (i + 1) (tkF T1) (tkF T2)=stillOf i (tkF T1) (tkF T2)++(if tkF T1 i=tkF T2 i then [i] else []):=by
        unfold stillOf
        rw [List.range_succ,List.filter_append]
        congr 1
        by_cases z:tkF T1 i=tkF T2 i
        · rw [if_pos z]; simp [z]
        · rw [if_neg z]; simp [z]
      refine ⟨_,rfl,x,_,0,V.ref l1,rfl,rfl,SqT.of (s8 _ _ ex7),rfl,_,rfl,l1,_,_,V.int (tkF T1 i),rfl,rfl,SqL.of (s8 _ _ e17),tick z1 hi,_,rfl,x,_,1,V.ref l2,rfl,rfl,SqT.of (s8 _ _ ex7),rfl,_,rfl,l2,_,_,V.int (tkF T2 i),rfl,rfl,SqL.of (s8 _ _ e27),tick z2 hi,rfl,_,rfl,?_⟩
      refine ite2 (fun z=>?_) (fun z=>?_)
      · have z:tkF T1 i=tkF T2 i:=by
          have:=of_decide_eq_true z
          injection this
        refine ⟨_,rfl,el,small1000 (by unfold iN; rw [List.length_map]; omega),hN _ _ ⟨upd_same,fun b o e=>by rw [upd_ne (ne_of_none e hsl)]; exact s8 b o e,?_⟩⟩
        rw [st1,if_pos z]
        unfold iN
        rw [List.map_append]; rfl
      · have z:¬ tkF T1 i=tkF T2 i:=fun y=>z (by rw [y]; simp)
        refine hN _ _ ⟨el,s8,?_⟩
        rw [st1,if_neg z,List.append_nil]
    rintro ys H8 ⟨esl,s8,rfl⟩
    have sub:=kept_sub eL (tkF T1) (tkF T2)
    have fik:=fi.sub sub
    have lz:(stillOf n (tkF T1) (tkF T2)).length≤n:=by
      have:=List.length_filter_le (fun k=>decide (tkF T1 k=tkF T2 k)) (List.range n)
      rw [List.length_range] at this
      exact this
    have ls:(iN (stillOf n (tkF T1) (tkF T2))).length=(stillOf n (tkF T1) (tkF T2)).length:=by unfold iN; rw [List.length_map]
    intro kd hkd
    have s9:=same_new (o:=.dK []) hkd
    have e9:(upd H8 kd (.dK [])) kd=some (.dK []):=upd_same
    generalize upd H8 kd (.dK [])=H9 at s9 e9
    have s79:=same_trans s8 s9
    have ndk:kd≠sl:=fun z=>by rw [z,esl] at hkd; cases hkd
    have k70:H7 kd=none:=same_free s8 hkd
    have lL:L.length=n:=by have:=congrArg List.length eL; rw [List.length_map,rg_len] at this; exact this
    have ndL:(L.map (·.1)).Nodup:=by rw [eL]; exact rg_nd n
    refine ⟨_,rfl,sl,rfl,⟨_,SqL.of (s9 _ _ esl)⟩,?_⟩
    refine for_list (K:=K) (a:=sl) (xs:=iN (stillOf n (tkF T1) (tkF T2))) (fun j σ H'=>∃ uh,σ=[some (.ref a),some (.int n),some (.ref d),some (.ref x),some (.ref p),some (.ref p2),uh,some (.ref sl),some (.ref kd),none,none,none]∧Same H7 H'∧H' sl=some (.lst (iN (stillOf n (tkF T1) (tkF T2))))∧H' kd=some (.dK (((stillOf n (tkF T1) (tkF T2)).take j).map (fun k:Nat=>((k:Int),adF L k,stF L k)) |>.map fun q=>((.inl q.1:Key),V.ref q.2.1))))
      ⟨_,rfl,s79,s9 _ _ esl,e9⟩ (fun j σ H' _ ⟨_,_,_,z,_⟩=>SqL.of z) ?_ ?_
    · rintro j v σ H10 hj ⟨uh,rfl,s10,el10,ek10⟩
      have hj':=(List.getElem?_eq_some_iff.mp hj).1
      rw [ls] at hj'
      obtain ⟨kk,ekk⟩:=get_of_lt (xs:=stillOf n (tkF T1) (tkF T2)) hj'
      have hj:V.int (kk:Int)=v:=by
        unfold iN at hj
        rw [List.getElem?_map,ekk] at hj
        exact Option.some.inj hj
      subst hj
      have hk:kk < n:=List.mem_range.mp (List.mem_filter.mp (List.mem_of_getElem? ekk)).1
      obtain ⟨q,eq⟩:=get_of_lt (xs:=L) (j:=kk) (by omega)
      have q1':q.1=(kk:Int):=by
        have:=rg_get hk
        rw [← eL,List.getElem?_map,eq] at this
        exact Option.some.inj this
      have q2':adF L kk=q.2.1:=by unfold adF; rw [eq]; rfl
      have gd:DGet H10 d (.int (kk:Int)) (some (.ref (adF L kk))):=by
        have h1:=DGet.k (k:=.inl (kk:Int)) (s10 _ _ St7.ob)
        have h2:=valK_some ndL (List.mem_of_getElem? eq)
        rw [q1'] at h2
        rw [h2,← q2'] at h1
        exact h1
      obtain ⟨nin,tk1⟩:=take_new (still_nd n (tkF T1) (tkF T2)) ekk
      refine ⟨_,rfl,_,rfl,d,_,rfl,gd,_,rfl,_,rfl,kd,_,rfl,DPut.k (k:=.inl (kk:Int)) ek10 (small1000 (by rw [List.length_map,List.length_map,List.length_take]; omega)),?_⟩
      rw [putK_new _ (val_new nin)]
      refine ⟨_,rfl,fun b o e=>by rw [upd_ne (ne_of_none e k70)]; exact s10 _ _ e,by rw [upd_ne (Ne.symm ndk)]; exact el10,?_⟩
      rw [upd_same,tk1]
      simp only [List.map_append,List.map_cons,List.map_nil]
    rintro σ H10 ⟨uh,rfl,s10,el10,ek10⟩
    rw [ls,List.take_length] at ek10
    have K10:StsAt K H10 kd (keptOf n (tkF T1) (tkF T2) (adF L) (stF L)):=⟨ek10,fun q hq=>(St7.st q (sub.subset hq)).keep (KeepT.of_same s10)⟩
    refine ⟨_,rfl,kd,_,rfl,K10,fik.nd,fik.fine,fun xd ads tsd H11 s11 exd thd fod=>?_⟩
    have s711:=same_trans s10 s11
    have A11:=A7.same s711
    have B11:=B7.same s711
    have stk:∀ k < n,StA K H11 (adF L k) (stF L k):=fun k hk=>by
      obtain ⟨q,eq⟩:=get_of_lt (xs:=L) (j:=k) (by omega)
      have e1:adF L k=q.2.1:=by unfold adF; rw [eq]; rfl
      have e2:stF L k=q.2.2:=by unfold stF; rw [eq]; rfl
      rw [e1,e2]
      exact (St7.st q (List.mem_of_getElem? eq)).keep (KeepT.of_same s711)
    have stE11:=stE.keep (KeepT.of_same s711)
    obtain ⟨fE,rE⟩:=fine_nil1 (em:=em) (L:=keptOf n (fun _=>5) oth (fun _=>em) (fun _=>([],[],[]))) (fun q hq=>by
      obtain ⟨j,_,rfl⟩:=List.mem_map.mp hq
      rfl)
    have okt:Okd (.tuple (tsd.map thD)):=okd_tuple fun z hz=>by
      obtain ⟨t,_,rfl⟩:=List.mem_map.mp hz
      exact ⟨(thD_ok t).1,Nat.le_trans (thD_ok t).2 (by decide)⟩
    have oks:=ints_ok (stillOf n (tkF T1) (tkF T2))
    have sl11:=s11 _ _ el10
    refine ⟨_,rfl,by omega,by omega,?_⟩
    refine for_range (lo:=0) (n:=2) (fun i σ H'=>(∃ uk ua,σ=[some (.ref a),some (.int n),some (.ref d),some (.ref x),some (.ref p),some (.ref p2),uh,some (.ref sl),some (.ref kd),some (.ref xd),uk,ua])∧Same H11 H') ⟨⟨_,_,rfl⟩,fun b o e=>e⟩ ?_ ?_
    · rintro i σ H12 _ ⟨⟨uk,ua,rfl⟩,s12⟩
      have A12:=A11.same s12
      have B12:=B11.same s12
      obtain ⟨dx12,hp12⟩:=A12.ob
      refine ⟨_,rfl,p,dx12,_,rfl,hp12,fl_no (by decide +kernel) (by decide +kernel) (by decide +kernel) (by decide +kernel),p,I',n,_,_,_,rfl,A12,by omega,fA,fun la H13 hla s13 ela=>?_⟩
      have s1113:=same_trans s12 s13
      refine ⟨_,rfl,_,"list",_,true,rfl,TyOf.lst ela,kit_same,_,rfl,?_⟩
      refine iteF ?_
      refine ⟨_,rfl,_,rfl,_,_,.lst (SqL.of ela) (ints_rep _),.lst (SqL.of (s1113 _ _ sl11)) (ints_rep _),oks,oks,_,rfl,?_⟩
      rw [eqv_same oks]
      refine iteF ?_
      have B13:=B12.same s13
      obtain ⟨dx13,hp13⟩:=B13.ob
      refine ⟨_,rfl,p2,dx13,_,rfl,hp13,fl_no (by decide +kernel) (by decide +kernel) (by decide +kernel) (by decide +kernel),p2,J',n,_,_,_,rfl,B13,by omega,fB,fun lb H14 hlb s14 elb=>?_⟩
      rw [still_oth n1] at elb
      refine ⟨by decide,fun lc hlc=>?_⟩
      have s15:=same_new (o:=.lst [V.int 0]) hlc
      have e15:(upd H14 lc (.lst [V.int 0])) lc=some (.lst (iN [0])):=upd_same
      generalize upd H14 lc (.lst [V.int 0])=H15 at s15 e15
      have ok0:=ints_ok [0]
      refine ⟨_,_,.lst (SqL.of (s15 _ _ elb)) (ints_rep [0]),.lst (SqL.of e15) (ints_rep [0]),ok0,ok0,_,rfl,?_⟩
      rw [eqv_same ok0]
      refine iteF ?_
      have ela15:=s15 _ _ (s14 _ _ ela)
      refine ⟨_,rfl,.inl ⟨rfl,_,SqL.of ela15⟩,la,_,_,rfl,rfl,ela15,small1000 (by rw [ls]; omega),?_⟩
      have la12:H12 la=none:=hla
      have s16:Same H12 (upd H15 la (.lst (iN (stillOf n (tkF T1) (tkF T2))++[V.int 0]))):=fun b o e=>by
        rw [upd_ne (ne_of_none e la12)]
        exact s15 _ _ (s14 _ _ (s13 _ _ e))
      generalize upd H15 la (.lst (iN (stillOf n (tkF T1) (tkF T2))++[V.int 0]))=H16 at s16
      have s1116:=same_trans s12 s16
      have A16:=A11.same s1116
      obtain ⟨dx16,hp16⟩:=A16.ob
      refine ⟨_,rfl,p,dx16,_,rfl,hp16,fl_no (by decide +kernel) (by decide +kernel) (by decide +kernel) (by decide +kernel),p,I',n,_,_,_,stF L,rfl,A16,by omega,fA,fun j hj=>(stk j hj).keep (KeepT.of_same s1116),fik.fine,fun xa asa tsa H17 s17 exa tha foa=>?_⟩
      have et:=foa.one fod
      subst et
      have s1117:=same_trans s1116 s17
      refine ⟨_,rfl,_,"tuple",_,true,rfl,TyOf.tup exa,kit_same,_,rfl,?_⟩
      refine iteF ?_
      refine ⟨_,rfl,_,rfl,_,_,.one (.tupP (SqT.of exa) (ths_rep tha)),.one (.tupP (SqT.of (s1117 _ _ exd)) (ths_rep (ThsAt.keep (KeepT.of_same s1117) thd))),okt,okt,_,rfl,?_⟩
      rw [eqv_same okt]
      refine iteF ?_
      have B17:=B11.same s1117
      obtain ⟨dx17,hp17⟩:=B17.ob
      refine ⟨_,rfl,p2,dx17,_,rfl,hp17,fl_no (by decide +kernel) (by decide +kernel) (by decide +kernel) (by decide +kernel),p2,J',n,_,_,_,(fun _=>([],[],[])),rfl,B17,by omega,fB,fun j hj=>stE11.keep (KeepT.of_same s1117),fE,fun xb asb tsb H18 s18 exb thb fob=>?_⟩
      have e0:=found_none rE fob
      subst e0
      have ea:asb=[]:=List.length_eq_zero_iff.mp (Paired.length thb)
      subst ea
      refine ⟨Nat.zero_le _,fun z hz=>?_⟩
      have okn:Okd (.tuple []):=okd_tuple fun d hd=>by cases hd
      have s19:=same_new (o:=.tup []) hz
      refine ⟨_,_,.one (.tupP (ds:=[]) (SqT.of (s19 _ _ exb)) .nil),.one (.tupP (ds:=[]) (SqT.of upd_same) .nil),okn,okn,_,rfl,?_⟩
      rw [eqv_same okn]
      exact iteF ⟨⟨_,_,rfl⟩,same_trans s1117 (same_trans s18 s19)⟩
    · rintro σ H12 ⟨⟨uk,ua,rfl⟩,s12⟩
      exact k _
end
end K32
def PySem.W.Fast.tw4543718411961351058:Unit:=()
def PySem.W.Fast.tw10931335599587157615:Unit:=()
def PySem.W.Fast.tw14966108583764737047:Unit:=()
def PySem.W.Fast.tw9165877593807193447:Unit:=()
def PySem.W.Fast.tw14892314077540200808:Unit:=()
def PySem.W.Fast.tw11706584406478802934:Unit:=()
def PySem.W.Fast.tw3520855082727856107:Unit:=()
def PySem.W.Fast.tw2338155679038797232:Unit:=()
def PySem.W.Fast.tw7093664080510676003:Unit:=()
def PySem.W.Fast.tw10489964771065579999:Unit:=()
def PySem.W.Fast.tw11224810469209943433:Unit:=()
def PySem.W.Fast.tw3115025151429361117:Unit:=()
def PySem.W.Fast.tw6130721628145525883:Unit:=()
def PySem.W.Fast.tw705451146651663790:Unit:=()
def PySem.W.Fast.tw1816787605467618474:Unit:=()
def PySem.W.Fast.tw15698746600992197505:Unit:=()
def PySem.W.Fast.tw10655967817126037753:Unit:=()
def PySem.W.Fast.tw4862532842214107229:Unit:=()
def PySem.W.Fast.tw10136007209159239119:Unit:=()
def PySem.W.Fast.tw5503368037763907089:Unit:=()
def PySem.W.Fast.tw14124108290016596568:Unit:=()
def PySem.W.Fast.tw122613496763253266:Unit:=()
def PySem.W.Fast.tw2079137805152890197:Unit:=()
def PySem.W.Fast.tw1572997270767767372:Unit:=()
def PySem.W.Fast.tw13910282950780788229:Unit:=()
def PySem.W.Fast.tw1900533491655206095:Unit:=()
def PySem.W.Fast.tw10099422473995496938:Unit:=()
def PySem.W.Fast.tw734714230196087025:Unit:=()
def PySem.W.Fast.tw10849857290851419442:Unit:=()
def PySem.W.Fast.tw3883686038865335978:Unit:=()
def PySem.W.Fast.tw5447250441367673996:Unit:=()
def PySem.W.Fast.tw843620634581647383:Unit:=()
def PySem.W.Fast.tw14890846112187820646:Unit:=()
def PySem.W.Fast.tw13879080865765334127:Unit:=()
def PySem.W.Fast.tw16781369640966741370:Unit:=()
def PySem.W.Fast.tw11550852927533612412:Unit:=()
def PySem.W.Fast.tw7015759103473575376:Unit:=()
def PySem.W.Fast.tw11936986863040605314:Unit:=()
def PySem.W.Fast.tw7869212977784837616:Unit:=()
def PySem.W.Fast.tw2471206994231765908:Unit:=()
def PySem.W.Fast.tw2253694753000306865:Unit:=()
def PySem.W.Fast.tw7760379457684144318:Unit:=()
def PySem.W.Fast.tw5017296443528256482:Unit:=()
def PySem.W.Fast.tw17765942026890791366:Unit:=()
def PySem.W.Fast.tw16665260652691504478:Unit:=()
def PySem.W.Fast.tw8160456652960493287:Unit:=()
def PySem.W.Fast.tw12798563961300574646:Unit:=()
def PySem.W.Fast.tw16007504819617123335:Unit:=()
def PySem.W.Fast.tw10560248666555597255:Unit:=()
def PySem.W.Fast.tw17392730838758828379:Unit:=()
def PySem.W.Fast.tw6610534690035506275:Unit:=()
namespace K32
open PySem L2 FX
set_option linter.all false
structure MeI (K:PySem.W.Frag) (C:Addr) (x q:Str) (st:Stmt) (f:Addr) (fd:FuncData):Prop where
  a:PySem.W.findIn K (.ref C) x=some (some (.ref f))
  i:PySem.W.isFn K (.ref f)=true
  fn:Fun K x q st f fd
structure GI (K:PySem.W.Frag) (x:Str) (st:Stmt) (f:Addr) (fd:FuncData):Prop where
  a:PySem.W.nsIn K mainGlobals x=some (some (.ref f))
  fn:Fun K x x st f fd
structure GdI (K:PySem.W.Frag) (x:Str) (st:Stmt) (ps:List Str) (f:Addr) (fd:FuncData):Prop extends GI K x st f fd where
  b:Binds K fd ps []
theorem GdI.gdf {K:PySem.W.Frag} {mg:Str→Option Value} {hp:Heap} {x:Str} {st:Stmt} {f:Addr} {fd:FuncData} {ps:List Str} (m:GdI K x st ps f fd) (X:K.In hp) (G:hp.Ns mainGlobals mg):Gdf K mg x st ps f fd:=⟨m.fn,m.b,PySem.W.mg_of X G m.a⟩
structure CI (K:PySem.W.Frag) (C:Addr):Prop where
  pg:PySem.W.plainGet K C Str.empty=true
  hd:PySem.W.hasDictIn K C=true
  po:PySem.W.plainOver K C=true
  sa:PySem.W.findIn K (.ref C) "__setattr__"=some (some (.builtin "object.__setattr__"))
  mm:PySem.W.makesIn K C=true
  kc:PySem.W.keepIn K (.ref C)=true
def Bd (x q:Str) (st:Stmt) (ps:List Str):Prop:=∀ (kV doc pm:Value) (an:Option Addr) (cdv ct:Value) (us:List Value),us.length=ps.length→bindArgs (PySem.W.fnOf x q (defArgs st) (defBody st) (defScope st) .none kV doc pm an cdv ct) ⟨us,[]⟩=pure (ps.zip us)
theorem MeI.mth {K:PySem.W.Frag} {C:Addr} {x q:Str} {st:Stmt} {f:Addr} {fd:FuncData} {ps:List Str} (m:MeI K C x q st f fd) (h:Bd x q st ps:=by
      intro _ _ _ _ _ _ us hl
      rcases us with _ | ⟨_,_ | ⟨_,_ | ⟨_,_ | ⟨_,_ | ⟨_,_ | ⟨_,_ | ⟨_,_⟩⟩⟩⟩⟩⟩⟩ <;> first | (cases hl; done) | rfl):Mth K C x q st ps f fd:=⟨m.fn,m.fn.binds h,⟨m.a,m.i,m.fn.kp⟩⟩
theorem GI.gdi {K:PySem.W.Frag} {x:Str} {st:Stmt} {f:Addr} {fd:FuncData} {ps:List Str} (m:GI K x st f fd) (h:Bd x x st ps:=by
      intro _ _ _ _ _ _ us hl
      rcases us with _ | ⟨_,_ | ⟨_,_ | ⟨_,_ | ⟨_,_ | ⟨_,_ | ⟨_,_ | ⟨_,_⟩⟩⟩⟩⟩⟩⟩ <;> first | (cases hl; done) | rfl):GdI K x st ps f fd:=⟨m,m.fn.binds h⟩
theorem all_mk {l:PySem.W.OpenLaw} {w:World} {K:PySem.W.Frag} {h:Heap} {mg:Str→Option Value} {fa C fI fF fS fSl fRt fRe fUn fRc fCe fSm fTh fSo fHd fRs fSt fDu fOr fTr fTi fAn fW:Addr} {dI dF dS dSl dRt dRe dUn dRc dCe dSm dTh dSo dHd dRs dSt dDu dOr dTr dTi dAn dW:FuncData} (X:K.In h) (G:h.Ns mainGlobals mg) (hfa:mg "law"=some (.ref fa))
    (aC:PySem.W.nsIn K mainGlobals "Inquiry"=some (some (.ref C)))
    (hI:MeI K C "__init__" "Inquiry.__init__" sInit fI dI)
    (mF:Mth K C "first" "Inquiry.first" sFirst ["self","h","tick","state"] fF dF)
    (mS:Mth K C "second" "Inquiry.second" sSecond ["self","h","tick"] fS dS)
    (mSl:Mth K C "still" "Inquiry.still" sStill ["self"] fSl dSl)
    (mRt:Mth K C "result" "Inquiry.result" sResult ["self"] fRt dRt)
    (mRe:GdI K "reached" sReached ["starts","holds"] fRe dRe)
    (mUn:GdI K "unreached" sUnreached ["states"] fUn dUn)
    (mRc:GdI K "recorded" sRecorded ["states"] fRc dRc)
    (mCe:GdI K "_law_cell" sCell ["_law_script","_law_k"] fCe dCe)
    (mSm:GdI K "_law_stream" sStream ["_law_cell_here","_law_many"] fSm dSm)
    (mTh:GdI K "_law_things" sThings ["_law_script","_law_houses_here"] fTh dTh)
    (mSo:GdI K "_law_some" sSome ["_law_xs","_law_things_here"] fSo dSo)
    (mHd:GdI K "_law_held" sHeld ["_law_script","_law_things_here"] fHd dHd)
    (mRs:GdI K "_law_records" sRecords ["_law_house","_law_hand","_law_held_here","_law_things_here","_law_xs","_law_far"] fRs dRs)
    (mSt:GdI K "_law_states" sStates ["_law_script","_law_houses_here"] fSt dSt)
    (mDu:GdI K "_law_due" sDue ["_law_states_here"] fDu dDu)
    (mOr:GdI K "_law_order" sOrder ["_law_many","_law_cell_here"] fOr dOr)
    (mTr:GdI K "_law_truth" sTruth ["_law_answer","_law_due_here"] fTr dTr)
    (mTi:GdI K "_law_ticks" sTicks ["_law_script","_law_many"] fTi dTi)
    (mAn:GdI K "_law_answered" sAnswered ["_law_one","_law_other","_law_states_here","_law_ticks_here","_law_script","_law_many"] fAn dAn)
    (hW:GI K "law" sLaw fW dW)
    (cC:CI K C)
    (nC0:PySem.W.findIn K (.ref C) "many"=some none)
    (nC1:PySem.W.findIn K (.ref C) "states"=some none)
    (nC2:PySem.W.findIn K (.ref C) "first_ticks"=some none)
    (nC3:PySem.W.findIn K (.ref C) "second_ticks"=some none)
    (z0:PySem.W.nsIn K mainGlobals "len"=some none)
    (z1:PySem.W.nsIn K mainGlobals "range"=some none)
    (z2:PySem.W.nsIn K mainGlobals "tuple"=some none)
    (z3:PySem.W.nsIn K mainGlobals "sorted"=some none)
    (z4:PySem.W.nsIn K mainGlobals "isinstance"=some none)
    (z5:PySem.W.nsIn K mainGlobals "list"=some none)
    (z6:PySem.W.nsIn K mainGlobals "dict"=some none)
    (z7:PySem.W.nsIn K mainGlobals "max"=some none)
    (z8:PySem.W.nsIn K mainGlobals "min"=some none)
    (z9:PySem.W.nsIn K mainGlobals "bool"=some none)
    (z10:PySem.W.nsIn K mainGlobals "int"=some none)
    : ∃ fd:FuncData,(∀ (s:Shared) (v:Value),BindsTo s fd ⟨[v],[]⟩ [("_law_script",v)])∧∀ base:Heap,K.In base→base.Ns mainGlobals mg→FnOk l.prog w K mg base CX0 4 fa fd ["_law_script"] (spLaw K):=by
  have e:=hfa.symm.trans (PySem.W.mg_of X G hW.a)
  cases e
  have y0:=PySem.W.mg_none_of X G z0
  have y1:=PySem.W.mg_none_of X G z1
  have y2:=PySem.W.mg_none_of X G z2
  have y3:=PySem.W.mg_none_of X G z3
  have y4:=PySem.W.mg_none_of X G z4
  have y5:=PySem.W.mg_none_of X G z5
  have y6:=PySem.W.mg_none_of X G z6
  have y7:=PySem.W.mg_none_of X G z7
  have y8:=PySem.W.mg_none_of X G z8
  have y9:=PySem.W.mg_none_of X G z9
  have y10:=PySem.W.mg_none_of X G z10
  have gC:=PySem.W.mg_of X G aC
  obtain ⟨pgC,hdC,poC,saC,mkC,kcC⟩:=cC
  obtain ⟨aI,iI,FI⟩:=hI
  have bI:=(MeI.mth (ps:=["self","many"]) ⟨aI,iI,FI⟩).bd
  have MmI:Mk K C fI:=⟨mkC,aI,iI,kcC⟩
  replace mRe:=mRe.gdf X G
  replace mUn:=mUn.gdf X G
  replace mRc:=mRc.gdf X G
  replace mCe:=mCe.gdf X G
  replace mSm:=mSm.gdf X G
  replace mTh:=mTh.gdf X G
  replace mSo:=mSo.gdf X G
  replace mHd:=mHd.gdf X G
  replace mRs:=mRs.gdf X G
  replace mSt:=mSt.gdf X G
  replace mDu:=mDu.gdf X G
  replace mOr:=mOr.gdf X G
  replace mTr:=mTr.gdf X G
  replace mTi:=mTi.gdf X G
  replace mAn:=mAn.gdf X G
  have FW:=hW.fn
  have TI:TxtI K mg C:=⟨⟨pgC,hdC,poC,saC⟩,nC0,nC1,nC2,nC3,gC⟩
  have T:Txt mg:=⟨y0,y1,y2,y3,y4,y5,y6,y7,y8,y9,y10⟩
  have z:=FW
  obtain ⟨⟨oc,od,kV,doc,pm,an,cdv,ct,osl,rfl,lk,cd⟩,kp⟩:=z
  refine ⟨PySem.W.fnOf "law" "law" (defArgs sLaw) (defBody sLaw) (defScope sLaw) .none kV doc pm an cdv ct,fun s v=>.of_eq rfl,fun base _ _=>?_⟩
  generalize l.prog=P
  have GU:FnOk P w K mg base CX0 2 fUn dUn ["states"] (spUnreached K):=ok_unreached mUn.fn T mRe mRc
  have GSl:FnOk P w K mg base CX0 1 fSl dSl ["self"] (spStill C):=ok_still mSl.fn TI T.sorted
  have GRt:FnOk P w K mg base CX0 3 fRt dRt ["self"] (spResult C K):=ok_result mRt.fn TI mSl GSl mUn GU
  exact ok_law FW T TI mCe mSt (ok_states mSt.fn T mCe mSm mSo mTh mHd mRs) mDu mTi (ok_ticks mTi.fn T mCe mSm) mAn (ok_answered mAn.fn T TI mCe mOr mTr mF mS) MmI FI bI mSl mRt GRt
theorem walk {l:PySem.W.OpenLaw} {q:Program} {loose:List Str} {XP:(Str→Option Value)→Heap→Prop} {YP:World→Heap→Prop} {d:DefRec} {K:Params→PySem.W.Frag} (hn:l.most=some 63) (hdf:d.params.defaults=[])
    (hY:∀ (w:World) (h:Heap),YP w h→(K w.params).In h)
    (F:∀ (w:World) (mg:Str→Option Value) (fa:Addr) (h:Heap),(K w.params).In h→h.Ns mainGlobals mg→mg d.name=some (.ref fa) →
      ∃ fd:FuncData,(∀ (s:Shared) (u:Value),BindsTo s fd ⟨[u],[]⟩ [("_law_script",u)])∧∀ base:Heap,(K w.params).In base→base.Ns mainGlobals mg→FnOk l.prog w (K w.params) mg base CX0 4 fa fd ["_law_script"] (spLaw (K w.params))) :
    PySem.W.WalkO q loose XP YP l.row.toRowW d [] (fun f vs=>PySem.call f vs) :=
  L2.walk_of (n:=63) (k:=4) (x:="_law_script") (CX:=fun w=>CX0) (sp:=fun w=>spLaw (K w.params)) hn (by decide) hdf ⟨rfl,by decide,by decide⟩ hY F (fun _ H a ns hl hO hS=>⟨a,ns,rfl,Scr.of hO hS,hl,fun _=>rfl⟩) fun _ _ _ _ _ z=>z
end K32
open PySem PySem.W PyProof.Rows
set_option maxRecDepth 100000 in
set_option maxHeartbeats 0 in
theorem PySem.Challenge.cw_farhold_k32_inquiries_holds : PySem.Challenge.rw_farhold_k32_inquiries.Holds := by
  w_on; o_law; k_head; (case hw=>w_witness2)
  k_fill
  refine K32.walk (l:=PySem.Challenge.rw_farhold_k32_inquiries) rfl rfl (fun w h Y=>PySem.W.kIn_of Y) ?F
  case F =>
    intro w mg fa h KX G hmg
    refine' K32.all_mk KX G hmg ?aC ?hI ?mF ?mS ?mSl ?mRt ?mRe ?mUn ?mRc ?mCe ?mSm ?mTh ?mSo ?mHd ?mRs ?mSt ?mDu ?mOr ?mTr ?mTi ?mAn ?hW ?cC ?nC0 ?nC1 ?nC2 ?nC3 ?z0 ?z1 ?z2 ?z3 ?z4 ?z5 ?z6 ?z7 ?z8 ?z9 ?z10
    case aC=>k_is
    case hI=>exact ⟨by k_is,by k_is,⟨⟨_,_,_,_,_,_,_,_,_,rfl,by k_is,by k_is⟩,by k_is⟩⟩
    case mF | mS | mSl | mRt=>exact K32.MeI.mth ⟨by k_is,by k_is,⟨⟨_,_,_,_,_,_,_,_,_,rfl,by k_is,by k_is⟩,by k_is⟩⟩
    case mRe | mUn | mRc | mCe | mSm | mTh | mSo | mHd | mRs | mSt | mDu | mOr | mTr | mTi | mAn=>exact K32.GI.gdi ⟨by k_is,⟨⟨_,_,_,_,_,_,_,_,_,rfl,by k_is,by k_is⟩,by k_is⟩⟩
    case hW=>exact ⟨by k_is,⟨⟨_,_,_,_,_,_,_,_,_,rfl,by k_is,by k_is⟩,by k_is⟩⟩
    case cC=>constructor <;> k_is
    case nC0 | nC1 | nC2 | nC3 | z0 | z1 | z2 | z3 | z4 | z5 | z6 | z7 | z8 | z9 | z10=>k_is
